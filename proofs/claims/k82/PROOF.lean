import PyProof.Rows.All
import Wide.All
import OpenK.AllK
import Wide.FinOn
import Lean
import PyProof.EqAt
import PyProof.EqKinds
import PyProof.TupleCall
import PyProof.EnumFor
import PyProof.EnumMake
import PyProof.EnumStmt
import PyProof.WalksEnum
import PyProof.NeKinds
import PyProof.CompFree
import PyProof.CompMap
import PyProof.Rows.Range3
import PyProof.Rows.ChunkEnd
import PyProof.Rows.StrCase
import PyProof.Rows.StrIndexOr
import PyProof.StrLawsIn
import PyProof.StrLawsIdx
import PyProof.SliceStr2
import PyProof.StrWalks
import PyProof.StationsW
import PyProof.ExcClass3
import PyProof.RulesAs
import PyProof.NsDelKeeps
import PyProof.ExcInit
import PyProof.ExcArgsOwn
import PyProof.InstStore
import PyProof.InstLoad
import PyProof.ExcBaseAll.ValueError
import PyProof.InstStoreFacts
import PyProof.ExcAttrAll.ValueError
import PyProof.Rows.StrJoinMade
import PyProof.ConsumeWalk
import PyProof.DictIter
import PyProof.DictWalks
import PyProof.Rows.StrRev
import PyProof.StrOps2
import PyProof.Rows.RuleIs
import PyProof.ExcClass2
import PyProof.SumAny
import PyProof.Rows.FStrParts
import PyProof.Rows.StrNews2
import PyProof.Rows.StrWeight2
import PyProof.CallStr
import KE.KLam
import KE.KNestM
import PyProof.Conv_int_bool
import PyProof.FactsAll.str
import PyProof.Rows.CallKwBuiltin
import PySem.Challenge.RW_findcourt_k82_lines_looked_at
set_option Elab.async false
set_option linter.all false
set_option maxRecDepth 100000
namespace L2
open PySem PySem.Spec PyProof.Rows

abbrev Key := Sum Int Str
def keyIs : Key → Value → Bool
  | .inl k, v => Value.isInt k v
  | .inr x, v => Value.isStrOf x v
def keyH (w : World) : Key → Int
  | .inl k => hashInt k
  | .inr x => hashStr w x
theorem keyIs_shape : ∀ {k : Key} {v : Value}, keyIs k v = true → (∃ i t, k = Sum.inl i ∧ v = Value.int i t) ∨ (∃ x t, k = Sum.inr x ∧ v = Value.str x t)
  | .inl i, v, h => by
    obtain ⟨t, e⟩ := Value.isInt_shape (k := i) (v := v) h
    exact .inl ⟨i, t, rfl, e⟩
  | .inr x, v, h => by
    obtain ⟨t, e⟩ := Value.isStrOf_shape (x := x) (v := v) h
    exact .inr ⟨x, t, rfl, e⟩
theorem keyIs_int (i : Int) (t : Tok) : keyIs (.inl i) (.int i t) = true := by simp [keyIs, Value.isInt]
theorem keyIs_str (x : Str) (t : Tok) : keyIs (.inr x) (.str x t) = true := by simp [keyIs, Value.isStrOf]
theorem key_ll (a b : Int) : decide ((Sum.inl a : Key) = Sum.inl b) = (a == b) := by
  by_cases e : a = b
  · subst e; simp
  · have h : ¬ (Sum.inl a : Key) = Sum.inl b := fun q => e (Sum.inl.inj q)
    rw [decide_eq_false h]
    exact (beq_eq_false_iff_ne.mpr e).symm
theorem key_rr (a b : Str) : decide ((Sum.inr a : Key) = Sum.inr b) = decide (a = b) := by
  by_cases e : a = b
  · subst e; simp
  · have h : ¬ (Sum.inr a : Key) = Sum.inr b := fun q => e (Sum.inr.inj q)
    rw [decide_eq_false h, decide_eq_false e]
theorem key_lr (a : Int) (b : Str) : decide ((Sum.inl a : Key) = Sum.inr b) = false := decide_eq_false (fun q => nomatch q)
theorem key_rl (a : Str) (b : Int) : decide ((Sum.inr a : Key) = Sum.inl b) = false := decide_eq_false (fun q => nomatch q)

def mixKind (prog : Program) (w : World) : PySem.KeyKind prog w Key where
  is := keyIs
  hash := keyH w
  inj := fun v a b ha hb => by
    rcases keyIs_shape ha with ⟨i, t, rfl, rfl⟩ | ⟨x, t, rfl, rfl⟩
    · rcases keyIs_shape hb with ⟨j, u, rfl, e⟩ | ⟨y, u, rfl, e⟩
      · injection e with e1 _; rw [e1]
      · exact nomatch e
    · rcases keyIs_shape hb with ⟨j, u, rfl, e⟩ | ⟨y, u, rfl, e⟩
      · exact nomatch e
      · injection e with e1 _; rw [e1]
  byValue := fun k v h => by
    rcases keyIs_shape h with ⟨i, t, rfl, rfl⟩ | ⟨x, t, rfl, rfl⟩ <;> rfl
  pyHash := fun hv h => by
    rcases keyIs_shape hv with ⟨i, t, rfl, rfl⟩ | ⟨x, t, rfl, rfl⟩
    · exact wpAny_pyHash_int h
    · exact wpAny_pyHash_str h
  eqBool := fun hu hv h => by
    rcases keyIs_shape hu with ⟨i, t, rfl, rfl⟩ | ⟨x, t, rfl, rfl⟩
    · rcases keyIs_shape hv with ⟨j, u, rfl, rfl⟩ | ⟨y, u, rfl, rfl⟩
      · rw [key_ll] at h; exact wpAny_eqBool_int h
      · rw [key_lr] at h; exact SeqAt.EqAt.int_str i t y u _ _ _ _ h
    · rcases keyIs_shape hv with ⟨j, u, rfl, rfl⟩ | ⟨y, u, rfl, rfl⟩
      · rw [key_rl] at h; exact SeqAt.EqAt.str_int x t j u _ _ _ _ h
      · rw [key_rr] at h; exact wpAny_eqBool_str h
  «strs» := fun k x t v h => by
    rcases keyIs_shape h with ⟨i, u, rfl, e⟩ | ⟨y, u, rfl, e⟩
    · exact nomatch e
    · injection e with e1 _
      subst e1
      cases v <;> rfl

theorem mixKind_is (prog : Program) (w : World) (k : Key) (v : Value) : (mixKind prog w).is k v = keyIs k v := rfl
theorem mixKind_int (prog : Program) (w : World) (i : Int) (t : Tok) : (mixKind prog w).is (.inl i) (.int i t) = true := keyIs_int i t
theorem mixKind_str (prog : Program) (w : World) (x : Str) (t : Tok) : (mixKind prog w).is (.inr x) (.str x t) = true := keyIs_str x t
end L2

namespace L2
open PySem PySem.Spec PyProof.Rows

inductive V where
  | non | bl (b : Bool) | int (i : Int) | str (x : Str) | byt (b : Array UInt8) | flt (b : UInt64) | ref (a : Addr) | ty (n : String)
  deriving DecidableEq

def RelV : V → Value → Prop
  | .non, u => u = Value.none
  | .bl b, u => u = Value.bool b
  | .int i, u => ∃ t, u = Value.int i t
  | .str x, u => ∃ t, u = Value.str x t
  | .byt b, u => ∃ t, u = Value.bytes b t
  | .flt b, u => ∃ t, u = Value.float b t
  | .ref a, u => u = Value.ref a
  | .ty n, u => u = Value.type n

abbrev Vals : List V → List Value → Prop := Paired RelV
theorem Vals.length {xs : List V} {us : List Value} (r : Vals xs us) : xs.length = us.length := Paired.length r
theorem Vals.get : ∀ {xs : List V} {us : List Value} {i : Nat} {x : V}, Vals xs us → xs[i]? = some x → ∃ u, us[i]? = some u ∧ RelV x u
  | _, _, _, _, .nil, e => by simp at e
  | _, _, 0, _, .cons r _, e => by simp at e; subst e; exact ⟨_, rfl, r⟩
  | _, _, i + 1, x, .cons _ t, e => by
    obtain ⟨u, h1, h2⟩ := Vals.get (i := i) (x := x) t (by simpa using e)
    exact ⟨u, by simpa using h1, h2⟩
theorem Vals.set {x : V} {u : Value} (r : RelV x u) : ∀ {xs : List V} {us : List Value} (i : Nat), Vals xs us → Vals (xs.set i x) (us.set i u)
  | _, _, _, .nil => .nil
  | _, _, 0, .cons _ t => .cons r t
  | _, _, i + 1, .cons q t => .cons q (Vals.set r i t)
theorem Vals.append : ∀ {xs ys : List V} {us ws : List Value}, Vals xs us → Vals ys ws → Vals (xs ++ ys) (us ++ ws)
  | _, _, _, _, .nil, s => s
  | _, _, _, _, .cons r t, s => .cons r (Vals.append t s)
theorem Vals.take : ∀ {xs : List V} {us : List Value} (n : Nat), Vals xs us → Vals (xs.take n) (us.take n)
  | _, _, 0, _ => .nil
  | _, _, _ + 1, .nil => .nil
  | _, _, n + 1, .cons r t => .cons r (Vals.take n t)
theorem Vals.drop : ∀ {xs : List V} {us : List Value} (n : Nat), Vals xs us → Vals (xs.drop n) (us.drop n)
  | _, _, 0, r => r
  | _, _, _ + 1, .nil => .nil
  | _, _, n + 1, .cons _ t => Vals.drop n t
theorem Vals.none_of : ∀ {xs : List V} {us : List Value} {i : Nat}, Vals xs us → xs[i]? = none → us[i]? = none := fun {xs us i} r e => by
  have h1 := r.length
  have h2 : xs.length ≤ i := List.getElem?_eq_none_iff.mp e
  exact List.getElem?_eq_none_iff.mpr (by omega)

def RelO : Option V → Option Value → Prop
  | some v, some u => RelV v u
  | none, none => True
  | _, _ => False
def KV {κ : Type} : List (κ × V) → List (κ × Value) → Prop := Paired fun (p : κ × V) (q : κ × Value) => p.1 = q.1 ∧ RelV p.2 q.2

def kV : Key → V
  | .inl i => .int i
  | .inr x => .str x

inductive HO where
  /-- a list -/
  | lst (xs : List V)
  /-- a tuple (never changes) -/
  | tup (xs : List V)
  /-- a dict whose keys are ints and texts; one whose keys are tuples of ints and texts (the empty one is both) -/
  | dK (kvs : List (Key × V)) | dT (kvs : List (List Key × V))
  /-- a set of ints: its members, its size -/
  | set (S : Int → Bool) (n : Nat)
  /-- an instance of the class at C, its dict at dx, its attributes -/
  | ins (C dx : Addr) (fs : List (Str × V))
  /-- the dict of the instance at x -/
  | own (x : Addr)
  /-- the dict of an exception -/
  | xd (fs : List (Str × V))
  /-- a bound method, f of x -/
  | met (f x : Addr)
  /-- a range object lo, lo + 1, .. below hi -/
  | rng (lo hi : Int)
  /-- a thing that is known to the object (the script; a dict while a loop walks it): read, never written while it is so -/
  | frz (o : Obj) (u : HO)
  /-- a code object's table -/
  | tbl (ps : Array Value)
  /-- any other thing, by what is true of its one object (a def of one's own: SetO a S n := HO.ext fun h => ..) -/
  | ext (φ : Heap → Prop)

abbrev Hp := Addr → Option HO
def upd (H : Hp) (a : Addr) (o : HO) : Hp := fun b => if b = a then some o else H b
theorem upd_same {H : Hp} {a : Addr} {o : HO} : upd H a o a = some o := by unfold upd; rw [if_pos rfl]
theorem upd_ne {H : Hp} {a b : Addr} {o : HO} (h : b ≠ a) : upd H a o b = H b := by unfold upd; rw [if_neg h]
theorem upd_upd {H : Hp} {a : Addr} {o u : HO} : upd (upd H a o) a u = upd H a u := by
  funext b; unfold upd; split <;> rfl
theorem ne_of {H : Hp} {a b : Addr} {o u : HO} (h : H a = some o) (h' : H b = some u) (d : o ≠ u) : a ≠ b := by
  intro e; subst e; rw [h] at h'; exact d (Option.some.inj h')
theorem ne_of_none {H : Hp} {a b : Addr} {o : HO} (h : H a = some o) (h' : H b = none) : a ≠ b := by
  intro e; subst e; rw [h] at h'; cases h'

section
variable (P : Program) (w : World)
def ObjOk (H : Hp) (h : Heap) (a : Addr) : HO → Prop
  | .lst xs => xs.length ≤ sizeLine ∧ ∃ (its : List Value) (n : Nat), Vals xs its ∧ h.get? a = some { cls := .type "list", data := .seq its.toArray n }
  | .tup xs => xs.length ≤ sizeLine ∧ ∃ its : List Value, Vals xs its ∧ IsTup h a its.toArray
  | .dK kvs => kvs.length ≤ sizeLine ∧ (a == sysModules) = false ∧ ∃ vs, KV kvs vs ∧ h.DictOf (mixKind P w) a vs
  | .dT kvs => kvs.length ≤ sizeLine ∧ (a == sysModules) = false ∧ ∃ xs : List (List Key × Addr × Value),
      Paired (fun (p : List Key × V) (q : List Key × Addr × Value) => p.1 = q.1 ∧ H q.2.1 = some (.tup (p.1.map kV)) ∧ RelV p.2 q.2.2) kvs xs ∧
      ∃ o es ep, h.get? a = some o ∧ o.ExactDict ∧ o.data = .dict es ep ∧ es.toList = xs.map (entryOfKey (tupleKind (mixKind P w))) ∧ (xs.map (·.1)).Nodup
  | .set S n => h.SetOf (intKind P w) a S n
  | .ins C dx fs => H dx = some (.own a) ∧ fs.length ≤ 1000 ∧ dx ≠ a ∧ h.get? a = some (PySem.W.instObj C dx) ∧
      ∃ mA, h.Ns1 dx mA ∧ (∀ f, RelO (fs.lookup f) (mA f)) ∧ PySem.Within mA (fs.map (·.1))
  | .own _ => ∃ o, h.get? a = some o
  | .xd fs => ∃ mA, h.Ns1 a mA ∧ ∀ f, RelO (fs.lookup f) (mA f)
  | .rng lo hi => ∃ t u v, h.get? a = some { cls := .type "range", data := .fields #[.int lo t, .int hi u, .int 1 v] }
  | .frz o u => h.get? a = some o ∧ ObjOk H h a u
  | .tbl ps => h.get? a = some { cls := .none, data := .fields ps }
  | .met f x => h.get? a = some (PySem.W.methodObj (.ref f) (.ref x))
  | .ext φ => φ h ∧ (∃ o, h.get? a = some o) ∧ ∀ h1 h2 : Heap, φ h1 → (∀ o, h1.get? a = some o → h2.get? a = some o) → φ h2
def HOk (H : Hp) (h : Heap) : Prop := ∀ a o, H a = some o → ObjOk P w H h a o
end

section
variable {P : Program} {w : World} {H H' : Hp} {h h' : Heap} {a : Addr} {o : HO}
theorem ObjOk.lt (x : ObjOk P w H h a o) : a < h.objs.size := by
  cases o with
  | lst xs => obtain ⟨_, _, _, _, e⟩ := x; exact Heap.lt_size e
  | tup xs => obtain ⟨_, _, _, p⟩ := x; exact p.lt
  | dK kvs => obtain ⟨_, _, _, _, o, _, _, e, _⟩ := x; exact Heap.lt_size e
  | dT kvs => obtain ⟨_, _, _, _, o, _, _, e, _⟩ := x; exact Heap.lt_size e
  | set S n => obtain ⟨o, _, _, _, e, _⟩ := x; exact Heap.lt_size e
  | ins C dx fs => obtain ⟨_, _, _, e, _⟩ := x; exact Heap.lt_size e
  | own y => obtain ⟨_, e⟩ := x; exact Heap.lt_size e
  | xd fs => obtain ⟨_, ⟨_, _, _, e, _⟩, _⟩ := x; exact Heap.lt_size e
  | rng lo hi => obtain ⟨_, _, _, e⟩ := x; exact Heap.lt_size e
  | frz ob u => obtain ⟨e, _⟩ := x; exact Heap.lt_size e
  | tbl ps => exact Heap.lt_size (show h.get? a = some _ from x)
  | met f y => exact Heap.lt_size (show h.get? a = some _ from x)
  | ext φ => obtain ⟨_, ⟨_, e⟩, _⟩ := x; exact Heap.lt_size e
theorem Paired.mapP {α β : Type} {F G : α → β → Prop} : ∀ {l₁ : List α} {l₂ : List β}, Paired F l₁ l₂ → (∀ a b, F a b → G a b) → Paired G l₁ l₂
  | _, _, .nil, _ => .nil
  | _, _, .cons r t, f => .cons (f _ _ r) (Paired.mapP t f)
theorem ObjOk.stay (x : ObjOk P w H h a o) (k : ∀ b u, (b = a ∨ H b = some (.own a)) → h.get? b = some u → h'.get? b = some u)
    (ho : ∀ b, H b = some (.own a) → H' b = some (.own a)) (ht : ∀ b xs, H b = some (.tup xs) → H' b = some (.tup xs)) : ObjOk P w H' h' a o := by
  induction o with
  | lst xs => obtain ⟨z, its, n, r, e⟩ := x; exact ⟨z, its, n, r, k _ _ (.inl rfl) e⟩
  | tup xs => obtain ⟨z, its, r, ob, e, c⟩ := x; exact ⟨z, its, r, ob, k _ _ (.inl rfl) e, c⟩
  | dK kvs => obtain ⟨z, y, vs, r, ob, es, ep, e, c⟩ := x; exact ⟨z, y, vs, r, ob, es, ep, k _ _ (.inl rfl) e, c⟩
  | dT kvs =>
    obtain ⟨z, y, xs, r, ob, es, ep, e, c⟩ := x
    exact ⟨z, y, xs, Paired.mapP r fun p q z => ⟨z.1, ht _ _ z.2.1, z.2.2⟩, ob, es, ep, k _ _ (.inl rfl) e, c⟩
  | set S n => obtain ⟨ob, es, ep, t, e, c⟩ := x; exact ⟨ob, es, ep, t, k _ _ (.inl rfl) e, c⟩
  | ins C dx fs =>
    obtain ⟨d, z, ne, e, mA, ⟨od, es, ep, e2, c⟩, r⟩ := x
    exact ⟨ho _ d, z, ne, k _ _ (.inl rfl) e, mA, ⟨od, es, ep, k _ _ (.inr d) e2, c⟩, r⟩
  | own y => obtain ⟨ob, e⟩ := x; exact ⟨ob, k _ _ (.inl rfl) e⟩
  | xd fs => obtain ⟨mA, ⟨od, es, ep, e, c⟩, r⟩ := x; exact ⟨mA, ⟨od, es, ep, k _ _ (.inl rfl) e, c⟩, r⟩
  | rng lo hi => obtain ⟨t, u, v, e⟩ := x; exact ⟨t, u, v, k _ _ (.inl rfl) e⟩
  | frz ob u ih => obtain ⟨e, q⟩ := x; exact ⟨k _ _ (.inl rfl) e, ih q⟩
  | tbl ps =>
    have e : h.get? a = some { cls := .none, data := .fields ps } := x
    show h'.get? a = some { cls := .none, data := .fields ps }
    exact k a _ (.inl rfl) e
  | met f y =>
    have e : h.get? a = some (PySem.W.methodObj (.ref f) (.ref y)) := x
    show h'.get? a = some (PySem.W.methodObj (.ref f) (.ref y))
    exact k a _ (.inl rfl) e
  | ext φ => obtain ⟨p, ⟨o, e⟩, st⟩ := x; exact ⟨st _ _ p fun o q => k _ _ (.inl rfl) q, ⟨o, k _ _ (.inl rfl) e⟩, st⟩
theorem HOk.lt (x : HOk P w H h) (e : H a = some o) : a < h.objs.size := (x a o e).lt
theorem HOk.fresh (x : HOk P w H h) (e : h.objs.size ≤ a) : H a = none := by
  cases q : H a with
  | none => rfl
  | some u => exact absurd (Nat.lt_of_lt_of_le (x.lt q) e) (Nat.lt_irrefl _)
theorem HOk.kept (x : HOk P w H h) (k : ∀ b u, h.get? b = some u → h'.get? b = some u) : HOk P w H h' := fun a o e =>
  (x a o e).stay (fun b u _ q => k b u q) (fun _ q => q) fun _ _ q => q
theorem HOk.laid (x : HOk P w H h) (k : ∀ b u, h.get? b = some u → h'.get? b = some u) (hp : h.objs.size ≤ a) (new : ObjOk P w (upd H a o) h' a o) : HOk P w (upd H a o) h' := fun b u e => by
  have hn := x.fresh hp
  by_cases hb : b = a
  · subst hb; rw [upd_same] at e; cases e; exact new
  · rw [upd_ne hb] at e
    exact (x b u e).stay (fun c v _ q => k c v q) (fun c q => by rw [upd_ne (ne_of_none q hn)]; exact q) fun c xs q => by rw [upd_ne (ne_of_none q hn)]; exact q
end

def Rd (H : Hp) (a : Addr) (u : HO) : Prop := H a = some u ∨ ∃ o, H a = some (.frz o u)
theorem Rd.of {H : Hp} {a : Addr} {u : HO} (h : H a = some u) : Rd H a u := .inl h
theorem Rd.ok {P : Program} {w : World} {H : Hp} {h : Heap} {a : Addr} {u : HO} (r : Rd H a u) (x : HOk P w H h) : ObjOk P w H h a u := by
  rcases r with r | ⟨o, r⟩
  · exact x a u r
  · obtain ⟨_, q⟩ := x a _ r
    exact q
def Mut : Option HO → Prop
  | some (.lst _) => True
  | some (.dK _) => True
  | some (.dT _) => True
  | some (.set _ _) => True
  | some (.ins _ _ _) => True
  | some (.ext _) => True
  | _ => False
section
variable {P : Program} {w : World} {H : Hp} {h h' : Heap} {x e : Addr} {o' : HO}
theorem HOk.write (ok : HOk P w H h) (mu : Mut (H x)) (he : e = x ∨ H e = some (.own x)) (k : ∀ b u, b ≠ e → h.get? b = some u → h'.get? b = some u) (heo : ∃ u, h'.get? e = some u)
    (new : ObjOk P w (upd H x o') h' x o') : HOk P w (upd H x o') h' := fun b u q => by
  have nown : ∀ c y, H c = some (.own y) → c ≠ x := fun c y r z => by subst z; rw [r] at mu; exact mu
  have ntup : ∀ c xs, H c = some (.tup xs) → c ≠ x := fun c xs r z => by subst z; rw [r] at mu; exact mu
  by_cases hb : b = x
  · subst hb; rw [upd_same] at q; cases q; exact new
  · rw [upd_ne hb] at q
    by_cases hbe : b = e
    · have q' : H b = some (.own x) := by
        rcases he with z | z
        · exact absurd (hbe.trans z) hb
        · rw [hbe]; exact z
      rw [q] at q'; cases q'
      obtain ⟨v, hv⟩ := heo
      exact ⟨v, by rw [hbe]; exact hv⟩
    · refine (ok b u q).stay (fun c v hc r => k c v ?_ r) (fun c r => by rw [upd_ne (nown c b r)]; exact r) fun c xs r => by rw [upd_ne (ntup c xs r)]; exact r
      rcases hc with rfl | hc
      · exact hbe
      · rintro rfl
        rcases he with z | z
        · exact nown c b hc z
        · rw [hc] at z; cases z; exact hb rfl
end

structure Un (fs ex : List Addr) (H H' : Hp) (h h' : Heap) : Prop where
  keep : ∀ b o, h.get? b = some o → H b = none → b ∉ fs → b ∉ ex → h'.get? b = some o
  slot : ∀ b o, h.get? b = some o → H b = none → b ∈ fs → b ∉ ex → ∃ sl, h'.get? b = some { o with slots := sl }
  free : ∀ b o, h.get? b = some o → H b = none → b ∉ ex → H' b = none
  there : ∀ b o, h.get? b = some o → b ∉ ex → ∃ o', h'.get? b = some o'
  tups : ∀ b xs, H b = some (.tup xs) → H' b = some (.tup xs)
  frzs : ∀ b o u, H b = some (.frz o u) → H' b = some (.frz o u)
  tbls : ∀ b ps, H b = some (.tbl ps) → ∃ more, H' b = some (.tbl (ps ++ more))
section
variable {fs fs' ex ex' : List Addr} {H H1 H2 : Hp} {h h1 h2 h' : Heap} {a x e : Addr} {o : HO}
theorem Un.any (u : Un fs ex H H1 h h1) {b : Addr} {ob : Obj} (q : h.get? b = some ob) (n : H b = none) (hx : b ∉ ex) : ∃ sl, h1.get? b = some { ob with slots := sl } := by
  by_cases hb : b ∈ fs
  · exact u.slot b ob q n hb hx
  · exact ⟨ob.slots, u.keep b ob q n hb hx⟩
theorem Un.trans (a : Un fs ex H H1 h h1) (b : Un fs ex H1 H2 h1 h2) : Un fs ex H H2 h h2 where
  keep := fun c ob q n hc hx => b.keep c ob (a.keep c ob q n hc hx) (a.free c ob q n hx) hc hx
  slot := fun c ob q n hc hx => by
    obtain ⟨sl, e1⟩ := a.slot c ob q n hc hx
    obtain ⟨sl', e2⟩ := b.slot c _ e1 (a.free c ob q n hx) hc hx
    exact ⟨sl', e2⟩
  free := fun c ob q n hx => by
    obtain ⟨o', e1⟩ := a.there c ob q hx
    exact b.free c o' e1 (a.free c ob q n hx) hx
  there := fun c ob q hx => by
    obtain ⟨o', e1⟩ := a.there c ob q hx
    exact b.there c o' e1 hx
  tups := fun c xs q => b.tups c xs (a.tups c xs q)
  frzs := fun c ob xs q => b.frzs c ob xs (a.frzs c ob xs q)
  tbls := fun c ps q => by
    obtain ⟨m1, e1⟩ := a.tbls c ps q
    obtain ⟨m2, e2⟩ := b.tbls c _ e1
    exact ⟨m1 ++ m2, by rw [e2, Array.append_assoc]⟩
theorem Un.kept (k : ∀ b u, h.get? b = some u → h'.get? b = some u) : Un fs ex H H h h' :=
  ⟨fun b ob q _ _ _ => k b ob q, fun b ob q _ _ _ => ⟨ob.slots, k b ob q⟩, fun _ _ _ n _ => n, fun b ob q _ => ⟨ob, k b ob q⟩, fun _ _ q => q, fun _ _ _ q => q, fun _ ps q => ⟨#[], by rw [q]; simp⟩⟩
theorem Un.refl : Un fs ex H H h h := Un.kept fun _ _ q => q
theorem Un.laid (k : ∀ b u, h.get? b = some u → h'.get? b = some u) (hp : h.objs.size ≤ a) (hn : H a = none) : Un fs ex H (upd H a o) h h' where
  keep := fun b u q _ _ _ => k b u q
  slot := fun b u q _ _ _ => ⟨u.slots, k b u q⟩
  free := fun b u q n _ => by rw [upd_ne (Nat.ne_of_lt (Nat.lt_of_lt_of_le (Heap.lt_size q) hp))]; exact n
  there := fun b u q _ => ⟨u, k b u q⟩
  tups := fun b xs q => by rw [upd_ne (ne_of_none q hn)]; exact q
  frzs := fun b u xs q => by rw [upd_ne (ne_of_none q hn)]; exact q
  tbls := fun b ps q => ⟨#[], by rw [upd_ne (ne_of_none q hn), q]; simp⟩
theorem Un.write (mu : Mut (H x)) (he : e = x ∨ H e = some (.own x)) (k : ∀ b u, b ≠ e → h.get? b = some u → h'.get? b = some u) (heo : ∃ u, h'.get? e = some u) : Un fs ex H (upd H x o) h h' := by
  have hx : ∀ b, H b = none → b ≠ x := fun b n z => by subst z; rw [n] at mu; exact mu
  have hb : ∀ b, H b = none → b ≠ e := fun b n z => by
    subst z
    rcases he with r | r
    · exact hx b n r
    · rw [n] at r; cases r
  have hm : ∀ b u, H b = some u → ¬ Mut (some u) → b ≠ x := fun b u q nm z => by subst z; rw [q] at mu; exact nm mu
  refine ⟨fun b u q n _ _ => k b u (hb b n) q, fun b u q n _ _ => ⟨u.slots, k b u (hb b n) q⟩, fun b u q n _ => by rw [upd_ne (hx b n)]; exact n, fun b u q _ => ?_,
    fun b xs q => by rw [upd_ne (hm b _ q fun z => z)]; exact q, fun b u xs q => by rw [upd_ne (hm b _ q fun z => z)]; exact q, fun b ps q => ⟨#[], by rw [upd_ne (hm b _ q fun z => z), q]; simp⟩⟩
  by_cases hbe : b = e
  · subst hbe; exact heo
  · exact ⟨u, k b u hbe q⟩
theorem Un.mono (u : Un fs ex H H1 h h1) (hs : ∀ b ∈ fs, b ∈ fs') (hx : ∀ b ∈ ex, b ∈ ex') : Un fs' ex' H H1 h h1 :=
  ⟨fun b ob q n hb he => u.keep b ob q n (fun z => hb (hs b z)) fun z => he (hx b z), fun _ _ q n _ he => u.any q n fun z => he (hx _ z), fun b ob q n he => u.free b ob q n fun z => he (hx b z), fun b ob q he => u.there b ob q fun z => he (hx b z), u.tups, u.frzs, u.tbls⟩
end

def trk (h : Heap) (H : Hp) : List Addr := (List.range h.objs.size).filter fun a => (H a).isSome
def hidT (h : Heap) (H : Hp) : Heap := PySem.W.hideAll h (trk h H)
theorem hidT_size (h : Heap) (H : Hp) : (hidT h H).objs.size = h.objs.size := PySem.W.hideAll_size _ _
theorem hidT_get {h : Heap} {H : Hp} {b : Addr} {o : Obj} (e : h.get? b = some o) (n : H b = none) : (hidT h H).get? b = some o :=
  PySem.W.hideAll_get _ e fun hm => by
    have q : (H b).isSome = true := (List.mem_filter.mp hm).2
    rw [n] at q; simp at q
theorem of_hidT {h : Heap} {H : Hp} {b : Addr} {o : Obj} (e : (hidT h H).get? b = some o) : h.get? b = some o ∧ H b = none := by
  have e' : h.get? b = some o := PySem.W.of_hideAll (trk h H) e
  refine ⟨e', ?_⟩
  cases q : H b with
  | none => rfl
  | some x =>
    have hm : b ∈ trk h H := List.mem_filter.mpr ⟨List.mem_range.mpr (Heap.lt_size e'), by simp [q]⟩
    have z : (hidT h H).get? b = none := PySem.W.hideAll_none (trk h H) hm
    rw [z] at e; cases e

def allNews (g h : Heap) (L : Addr) : List (Addr × Obj) := (List.range h.objs.size).filterMap fun a => if a = L ∨ (g.get? a).isSome = true then none else (h.get? a).map fun o => (a, o)
def rest (g h : Heap) (L d : Addr) : List (Addr × Obj) := (allNews g h L).filter fun p => decide (p.1 ≠ d)
end L2

namespace L2
open PySem PySem.Spec PyProof.Rows

structure Mod (K : PySem.W.Frag) (mg : Str → Option Value) (base : Heap) : Prop where
  kin : K.In base
  glob : base.Ns mainGlobals mg
  blt : ∃ mb, base.Ns builtinsNs mb ∧ ∀ x : Str, x ≠ "__name__" → mb x = bootBuiltins x
  nolimit : base.NoLimit

structure Cx where
  prog : Program
  w : World
  K : PySem.W.Frag
  mg : Str → Option Value
  base : Heap
  A : Around
  N : List Str
  s₀ : Shared
  H₀ : Hp
  env : Env
  outer : List Env
  stack : List Env
  ex : List Addr
  fn : Str → Bool
  calm : Bool
  pn : List (Addr × Obj)
  xe : Value → Shared → Prop
def frs (l : List Env) : List Addr := l.filterMap (·.frame)
abbrev Cx.fs (X : Cx) : List Addr := frs X.outer

def Vis (sc : Scope) (x : Str) : Prop := sc.names.lookup x = some .local ∨ sc.names.lookup x = some .cell ∨ sc.names.lookup x = some .free
def Loc (sc : Scope) (x : Str) : Prop := sc.names.lookup x = some .local ∨ sc.names.lookup x = some .cell
def Look (env : Env) (h : Heap) (m : Str → Option Value) (x : Str) (u : Value) : Prop :=
  (env.kindOf x = some .local ∧ m x = some u) ∨ ((env.kindOf x = some .cell ∨ env.kindOf x = some .free) ∧ ∃ c, env.cells.lookup x = some c ∧ h.IsCell c (some u))

structure Cx.Ok (X : Cx) : Prop where
  mod : Mod X.K X.mg X.base
  kind : X.env.scope.kind = .function
  glob : X.env.globals = mainGlobals
  blt : X.env.builtins = builtinsNs
  above : X.s₀.heap.objs.size ≤ X.env.locals
  inj : ∀ x y c, X.env.cells.lookup x = some c → X.env.cells.lookup y = some c → x = y
  has : ∀ x, (X.env.kindOf x = some .cell ∨ X.env.kindOf x = some .free) → ∃ c, X.env.cells.lookup x = some c
  cab : ∀ x c, X.fn x = true → X.env.cells.lookup x = some c → X.s₀.heap.objs.size ≤ c
  hd : X.calm = true → X.A.handled = none
  frames : X.A.frames = some X.stack
  stk : X.stack = X.outer ∨ (X.stack = X.env :: X.outer ∧ X.env.frame = some X.env.locals)
  exf : ∀ b ∈ X.ex, b ≠ X.env.locals ∧ ∀ x c, X.env.cells.lookup x = some c → c ≠ b
  bs : ∀ b o, X.base.get? b = some o → X.s₀.heap.get? b = some o ∧ X.H₀ b = none
  bsz : X.base.objs.size ≤ X.s₀.heap.objs.size
  noex : ∀ b o, X.base.get? b = some o → b ∉ X.ex
  exfs : ∀ b ∈ X.ex, b ∉ X.fs
  funs : X.s₀.heap.FunFrames X.base X.outer
  frf : ∀ b ∈ X.fs, X.H₀ b = none

structure Inv (X : Cx) (pins : List (Addr × Obj)) (σ : List (Option V)) (H : Hp) (s : Shared) : Prop where
  ok : X.Ok
  os : s.os = X.s₀.os
  bare : AllBare s.gens
  base : Un X.fs X.ex X.H₀ H X.s₀.heap s.heap
  loc : ∃ m, s.heap.Ns X.env.locals m ∧ ∀ (i : Nat) (x : Str) (v : V), X.N[i]? = some x → σ[i]? = some (some v) → Vis X.env.scope x → ∃ u, RelV v u ∧ Look X.env s.heap m x u
  cell : ∀ x c, X.env.cells.lookup x = some c → ∃ v, s.heap.IsCell c v
  free : H X.env.locals = none
  freeC : ∀ x c, X.env.cells.lookup x = some c → H c = none
  pin : ∀ p ∈ X.pn ++ pins, s.heap.get? p.1 = some p.2 ∧ H p.1 = none ∧ p.1 ≠ X.env.locals ∧ p.1 ∉ X.fs ∧ ∀ v, p.2.data ≠ .cell v
  hok : HOk X.prog X.w H s.heap
  len : σ.length = X.N.length

section
variable {X : Cx} {pins : List (Addr × Obj)} {σ : List (Option V)} {H H' : Hp} {s : Shared} {h' : Heap}

theorem Cx.Ok.nofr (ok : X.Ok) {b : Addr} {o : Obj} (e : X.base.get? b = some o) : b ∉ X.fs := fun hb => by
  have := (ok.funs.mem hb).1
  rw [e] at this; cases this
theorem Inv.bs (I : Inv X pins σ H s) : ∀ b o, X.base.get? b = some o → s.heap.get? b = some o ∧ H b = none := fun b o e =>
  ⟨I.base.keep b o (I.ok.bs b o e).1 (I.ok.bs b o e).2 (I.ok.nofr e) (I.ok.noex b o e), I.base.free b o (I.ok.bs b o e).1 (I.ok.bs b o e).2 (I.ok.noex b o e)⟩
theorem Inv.bk (I : Inv X pins σ H s) : ∀ b o, X.base.get? b = some o → s.heap.get? b = some o := fun b o e => (I.bs b o e).1
theorem Inv.mod (I : Inv X pins σ H s) : Mod X.K X.mg X.base := I.ok.mod
theorem Inv.kIn (I : Inv X pins σ H s) : X.K.In s.heap := I.ok.mod.kin.keeps I.bk
theorem Inv.nolimit (I : Inv X pins σ H s) : s.heap.NoLimit := I.ok.mod.nolimit.keeps I.bk
theorem Inv.fr (I : Inv X pins σ H s) : ∃ m, Fr X.base X.env.locals s.heap m :=
  let ⟨m, hn, _⟩ := I.loc
  ⟨m, hn, I.bk, Nat.le_trans I.ok.bsz I.ok.above⟩
theorem Inv.lt (I : Inv X pins σ H s) : X.env.locals < s.heap.objs.size := let ⟨_, hn, _⟩ := I.loc; hn.lt
theorem Inv.sz (I : Inv X pins σ H s) : X.s₀.heap.objs.size ≤ s.heap.objs.size := Nat.le_trans I.ok.above (Nat.le_of_lt I.lt)
theorem Inv.nofs (I : Inv X pins σ H s) {a : Addr} (h : s.heap.objs.size ≤ a) : a ∉ X.fs := fun hb => by
  obtain ⟨_, o, ho, _⟩ := I.ok.funs.mem hb
  exact absurd (Nat.lt_of_lt_of_le (Heap.lt_size ho) (Nat.le_trans I.sz h)) (Nat.lt_irrefl _)
theorem Inv.cne (I : Inv X pins σ H s) : ∀ x c, X.env.cells.lookup x = some c → c ≠ X.env.locals := fun x c e z => by
  obtain ⟨v, o, ho, hd⟩ := I.cell x c e
  obtain ⟨m, ⟨o', es, ep, ho', hd', _⟩, _⟩ := I.loc
  rw [z, ho'] at ho; cases ho; rw [hd'] at hd; cases hd
theorem Inv.funs (I : Inv X pins σ H s) : s.heap.FunFrames X.base X.outer := by
  have all : ∀ (l : List Env), (∀ b ∈ frs l, b ∈ X.fs) → X.s₀.heap.FunFrames X.base l → s.heap.FunFrames X.base l := by
    intro l
    induction l with
    | nil => intro _ _; trivial
    | cons env r ih =>
      intro hs hl
      obtain ⟨hk, ⟨L, o, hf, hn, ho, hd⟩, hr⟩ := hl
      have hL : L ∈ X.fs := hs L (by unfold frs; rw [List.filterMap_cons, hf]; exact List.mem_cons_self)
      obtain ⟨sl, e⟩ := I.base.slot L o ho (I.ok.frf L hL) hL fun z => I.ok.exfs L z hL
      exact ⟨hk, ⟨L, _, hf, hn, e, hd⟩, ih (fun b hb => hs b (by unfold frs; rw [List.filterMap_cons, hf]; exact List.mem_cons_of_mem _ hb)) hr⟩
  exact all X.outer (fun _ hb => hb) I.ok.funs

theorem Inv.stack (I : Inv X pins σ H s) : s.heap.FunFrames X.base X.stack := by
  rcases I.ok.stk with e | ⟨e, hf⟩
  · rw [e]; exact I.funs
  · rw [e]
    obtain ⟨m, hn, _⟩ := I.loc
    refine .cons (by rw [I.ok.kind]; decide) hf hn ?_ I.funs
    exact Heap.get?_none_of_le (Nat.le_trans I.ok.bsz I.ok.above)
theorem Inv.stkSub (I : Inv X pins σ H s) : ∀ b ∈ frs X.stack, b ∈ X.env.locals :: X.fs := fun b hb => by
  rcases I.ok.stk with e | ⟨e, hf⟩
  · rw [e] at hb; exact List.mem_cons_of_mem _ hb
  · rw [e] at hb
    unfold frs at hb
    rw [List.filterMap_cons, hf] at hb
    exact hb
theorem Inv.stkFree (I : Inv X pins σ H s) : ∀ b ∈ frs X.stack, H b = none := fun b hb => by
  rcases List.mem_cons.mp (I.stkSub b hb) with e | hb
  · rw [e]; exact I.free
  · obtain ⟨_, o, ho, _⟩ := I.ok.funs.mem hb
    exact I.base.free b o ho (I.ok.frf b hb) fun z => I.ok.exfs b z hb

theorem Inv.step {g' : Array GenState} {t' : Nat} {d' : Drawn} {ch : List Addr} (I : Inv X pins σ H s)
    (hch : ∀ b ∈ ch, (b ∈ X.ex ∨ X.s₀.heap.objs.size ≤ b) ∧ b ≠ X.env.locals ∧ (∀ x c, X.env.cells.lookup x = some c → c ≠ b) ∧ ∀ p ∈ X.pn ++ pins, p.1 ≠ b)
    (keep : ∀ b o, b ≠ X.env.locals → b ∉ X.fs → b ∉ ch → s.heap.get? b = some o → H b = none → h'.get? b = some o)
    (slot : ∀ b o, b ≠ X.env.locals → b ∈ X.fs → b ∉ ch → s.heap.get? b = some o → H b = none → ∃ sl, h'.get? b = some { o with slots := sl }) (free : ∀ b o, b ∉ ch → s.heap.get? b = some o → H b = none → H' b = none)
    (there : ∀ b o, b ∉ ch → s.heap.get? b = some o → ∃ o', h'.get? b = some o')
    (tups : ∀ b xs, H b = some (.tup xs) → H' b = some (.tup xs)) (frzs : ∀ b o u, H b = some (.frz o u) → H' b = some (.frz o u)) (tbls : ∀ b ps, H b = some (.tbl ps) → ∃ more, H' b = some (.tbl (ps ++ more)))
    (ns : ∀ m, s.heap.Ns X.env.locals m → h'.Ns X.env.locals m) (hok : HOk X.prog X.w H' h') (hg : AllBare g') :
    Inv X pins σ H' { s with heap := h', gens := g', drawn := d', toks := t' } := by
  have neL : ∀ b o, X.s₀.heap.get? b = some o → b ≠ X.env.locals := fun b o e => Nat.ne_of_lt (Nat.lt_of_lt_of_le (Heap.lt_size e) I.ok.above)
  have neC : ∀ b o, X.s₀.heap.get? b = some o → b ∉ X.ex → b ∉ ch := fun b o e hx hb => by
    rcases (hch b hb).1 with z | z
    · exact hx z
    · exact absurd (Nat.lt_of_lt_of_le (Heap.lt_size e) z) (Nat.lt_irrefl _)
  have cellK : ∀ x c, X.env.cells.lookup x = some c → ∀ v, s.heap.IsCell c v → h'.IsCell c v := fun x c e v ⟨o, ho, hd⟩ => by
    have nch : c ∉ ch := fun z => (hch c z).2.2.1 x c e rfl
    by_cases hc : c ∈ X.fs
    · obtain ⟨sl, q⟩ := slot c o (I.cne x c e) hc nch ho (I.freeC x c e)
      exact ⟨_, q, hd⟩
    · exact ⟨o, keep c o (I.cne x c e) hc nch ho (I.freeC x c e), hd⟩
  refine ⟨I.ok, I.os, hg, ⟨fun b o e n hb hx => ?_, fun b o e n hb hx => ?_, fun b o e n hx => ?_, fun b o e hx => ?_, fun b xs e => tups b xs (I.base.tups b xs e), fun b o xs e => frzs b o xs (I.base.frzs b o xs e), fun b ps e => ?_⟩, ?_, fun x c e => ?_, ?_, fun x c e => ?_, fun p hp => ?_, hok, I.len⟩
  · exact keep b o (neL b o e) hb (neC b o e hx) (I.base.keep b o e n hb hx) (I.base.free b o e n hx)
  · obtain ⟨sl, e1⟩ := I.base.slot b o e n hb hx
    obtain ⟨sl', e2⟩ := slot b _ (neL b o e) hb (neC b o e hx) e1 (I.base.free b o e n hx)
    exact ⟨sl', e2⟩
  · obtain ⟨o', e1⟩ := I.base.there b o e hx
    exact free b o' (neC b o e hx) e1 (I.base.free b o e n hx)
  · obtain ⟨o', e1⟩ := I.base.there b o e hx
    exact there b o' (neC b o e hx) e1
  · obtain ⟨m1, e1⟩ := I.base.tbls b ps e
    obtain ⟨m2, e2⟩ := tbls b _ e1
    exact ⟨m1 ++ m2, by rw [e2, Array.append_assoc]⟩
  · obtain ⟨m, hn, hl⟩ := I.loc
    refine ⟨m, ns m hn, fun i x v e1 e2 e3 => ?_⟩
    obtain ⟨u, r, l⟩ := hl i x v e1 e2 e3
    refine ⟨u, r, ?_⟩
    rcases l with l | ⟨k, c, e, z⟩
    · exact .inl l
    · exact .inr ⟨k, c, e, cellK x c e _ z⟩
  · obtain ⟨v, z⟩ := I.cell x c e
    exact ⟨v, cellK x c e v z⟩
  · obtain ⟨m, ⟨o, _, _, ho, _⟩, _⟩ := I.loc
    exact free _ o (fun z => (hch _ z).2.1 rfl) ho I.free
  · obtain ⟨v, o, ho, hd⟩ := I.cell x c e
    exact free c o (fun z => (hch c z).2.2.1 x c e rfl) ho (I.freeC x c e)
  · obtain ⟨e, n, ne, nf, d⟩ := I.pin p hp
    have nch : p.1 ∉ ch := fun z => (hch p.1 z).2.2.2 p hp rfl
    exact ⟨keep p.1 p.2 ne nf nch e n, free p.1 p.2 nch e n, ne, nf, d⟩
theorem Inv.un {t' : Nat} (I : Inv X pins σ H s) (u : Un X.fs [] H H' s.heap h') (hok : HOk X.prog X.w H' h') : Inv X pins σ H' { s with heap := h', toks := t' } := by
  obtain ⟨m, ⟨o, es, ep, ho, r⟩, _⟩ := id I.loc
  obtain ⟨sl, hL⟩ := u.any ho I.free (by simp)
  exact I.step (g' := s.gens) (d' := s.drawn) (ch := []) (fun _ z => nomatch z) (fun b o _ hb _ e n => u.keep b o e n hb (by simp)) (fun b o _ hb _ e n => u.slot b o e n hb (by simp)) (fun b o _ e n => u.free b o e n (by simp)) (fun b o _ e => u.there b o e (by simp)) u.tups u.frzs u.tbls (fun m' hm => by
    obtain ⟨o', es', ep', ho', r'⟩ := hm
    rw [ho] at ho'; cases ho'
    exact ⟨_, es', ep', hL, r'⟩) hok I.bare
theorem Inv.call {g' : Array GenState} {t' : Nat} {d' : Drawn} {ch : List Addr} (I : Inv X pins σ H s) (u : Un (frs X.stack) ch H H' s.heap h') (hok : HOk X.prog X.w H' h') (hg : AllBare g')
    (hch : ∀ b ∈ ch, (b ∈ X.ex ∨ X.s₀.heap.objs.size ≤ b) ∧ b ≠ X.env.locals ∧ (∀ x c, X.env.cells.lookup x = some c → c ≠ b) ∧ ∀ p ∈ X.pn ++ pins, p.1 ≠ b) :
    Inv X pins σ H' { s with heap := h', gens := g', drawn := d', toks := t' } := by
  obtain ⟨m, ⟨o, es, ep, ho, r⟩, _⟩ := id I.loc
  obtain ⟨sl, hL⟩ := u.any ho I.free fun z => (hch _ z).2.1 rfl
  exact I.step (ch := ch) hch (fun b o hL hb hc e n => u.keep b o e n (fun z => (List.mem_cons.mp (I.stkSub b z)).elim hL hb) hc) (fun b o _ _ hc e n => u.any e n hc) (fun b o hc e n => u.free b o e n hc) (fun b o hc e => u.there b o e hc) u.tups u.frzs u.tbls (fun m' hm => by
    obtain ⟨o', es', ep', ho', r'⟩ := hm
    rw [ho] at ho'; cases ho'
    exact ⟨_, es', ep', hL, r'⟩) hok hg
theorem Inv.turned {t' : Nat} {it : Addr} (I : Inv X pins σ H s) (k : ∀ b o, b ≠ it → s.heap.get? b = some o → h'.get? b = some o) (hn : H it = none) (hL : it ≠ X.env.locals)
    (h1 : it ∈ X.ex ∨ X.s₀.heap.objs.size ≤ it) (h2 : ∀ x c, X.env.cells.lookup x = some c → c ≠ it) (h3 : ∀ p ∈ X.pn ++ pins, p.1 ≠ it) : Inv X pins σ H { s with heap := h', toks := t' } := by
  have nit : ∀ b u, H b = some u → b ≠ it := fun b u e z => by rw [z, hn] at e; cases e
  refine I.step (g' := s.gens) (d' := s.drawn) (ch := [it]) (fun b hb => ?_) (fun b o _ _ hc e _ => k b o (fun z => hc (by simp [z])) e) (fun b o _ _ hc e _ => ⟨o.slots, k b o (fun z => hc (by simp [z])) e⟩) (fun _ _ _ _ n => n)
    (fun b o hc e => ⟨o, k b o (fun z => hc (by simp [z])) e⟩) (fun _ _ e => e) (fun _ _ _ e => e) (fun b ps e => ⟨#[], by rw [e]; simp⟩) (fun m hm => ?_) (fun b u e => ?_) I.bare
  · have e : b = it := by simpa using hb
    subst e
    exact ⟨h1, hL, h2, h3⟩
  · obtain ⟨o, es, ep, ho, r⟩ := hm
    exact ⟨o, es, ep, k _ o (Ne.symm hL) ho, r⟩
  · refine (I.hok b u e).stay (fun c v hc q => k c v ?_ q) (fun _ q => q) fun _ _ q => q
    rcases hc with z | z
    · rw [z]; exact nit b u e
    · exact nit c _ z
theorem Inv.tok (I : Inv X pins σ H s) (t : Nat) : Inv X pins σ H { s with toks := t } := I.un (h' := s.heap) (t' := t) Un.refl I.hok
theorem Inv.kept {t' : Nat} (I : Inv X pins σ H s) (k : ∀ b u, s.heap.get? b = some u → h'.get? b = some u) : Inv X pins σ H { s with heap := h', toks := t' } := I.un (Un.kept k) (I.hok.kept k)
theorem Inv.laid {a : Addr} {o : HO} {t' : Nat} (I : Inv X pins σ H s) (k : ∀ b u, s.heap.get? b = some u → h'.get? b = some u) (hp : s.heap.objs.size ≤ a) (new : ObjOk X.prog X.w (upd H a o) h' a o) :
    Inv X pins σ (upd H a o) { s with heap := h', toks := t' } := I.un (Un.laid k hp (I.hok.fresh hp)) (I.hok.laid k hp new)
theorem Inv.write {x e : Addr} {o : HO} {t' : Nat} (I : Inv X pins σ H s) (mu : Mut (H x)) (he : e = x ∨ H e = some (.own x)) (k : ∀ b u, b ≠ e → s.heap.get? b = some u → h'.get? b = some u) (heo : ∃ u, h'.get? e = some u)
    (new : ObjOk X.prog X.w (upd H x o) h' x o) : Inv X pins σ (upd H x o) { s with heap := h', toks := t' } := I.un (Un.write mu he k heo) (I.hok.write mu he k heo new)
theorem Inv.pins_of {pins' : List (Addr × Obj)} (I : Inv X pins σ H s) (h : ∀ p ∈ pins', s.heap.get? p.1 = some p.2 ∧ H p.1 = none ∧ p.1 ≠ X.env.locals ∧ p.1 ∉ X.fs ∧ ∀ v, p.2.data ≠ .cell v) : Inv X pins' σ H s :=
  ⟨I.ok, I.os, I.bare, I.base, I.loc, I.cell, I.free, I.freeC, fun p hp => (List.mem_append.mp hp).elim (fun z => I.pin p (List.mem_append_left _ z)) (h p), I.hok, I.len⟩

theorem nodup_ix {N : List Str} (hN : N.Nodup) {i j : Nat} {x : Str} (a : N[i]? = some x) (b : N[j]? = some x) : i = j := by
  obtain ⟨h1, e1⟩ := List.getElem?_eq_some_iff.mp a
  obtain ⟨h2, e2⟩ := List.getElem?_eq_some_iff.mp b
  exact (List.getElem_inj hN).mp (e1.trans e2.symm)

theorem store_ok2 {M : Model} {A : Around} {E : Value → Shared → Prop} {i : Nat} {x : Str} {v : V} {u : Value} {Q : Unit → Shared → Prop} (I : Inv X pins σ H s) (hN : X.N.Nodup) (hi : X.N[i]? = some x) (hx : Loc X.env.scope x) (r : RelV v u)
    (h : ∀ s', Inv X pins (σ.set i (some v)) H s' → (∃ a, Heap.SameBut a s.heap s'.heap ∧ (a = X.env.locals ∨ X.env.cells.lookup x = some a)) → Q () s') (hf : X.fn x = true ∨ X.env.scope.names.lookup x = some .local := by first | exact .inl rfl | exact .inr rfl | assumption) : wpAny M A (storeName X.env x u) Q E s := by
  obtain ⟨m, hn, hl⟩ := id I.loc
  have hcls : (X.env.scope.kind == .class || (X.env.scope.kind == .module && X.env.locals != X.env.globals)) = false := by rw [I.ok.kind]; rfl
  have hiσ : i < σ.length := by rw [I.len]; exact (List.getElem?_eq_some_iff.mp hi).1
  have cne := I.cne
  have tracked : ∀ {a : Addr} {h' : Heap}, (∃ o, s.heap.get? a = some o ∧ H a = none) → Heap.SameBut a s.heap h' → HOk X.prog X.w H h' := fun {a h'} ha hs b ob e => by
    obtain ⟨_, _, hfree⟩ := ha
    refine (I.hok b ob e).stay (fun c w' hc q => (hs.2 c ?_).trans q) (fun _ q => q) fun _ _ q => q
    rintro rfl
    rcases hc with rfl | hc
    · rw [hfree] at e; cases e
    · rw [hfree] at hc; cases hc
  rcases hx with hk | hk
  · refine wpAny_storeName_local hk hn (fun h' hn' hs => ?_) hcls
    obtain ⟨oL, _, _, hoL, _⟩ := id hn
    refine h _ ⟨I.ok, I.os, I.bare, ⟨fun b o e n hb hx => ?_, fun b o e n hb hx => ?_, I.base.free, fun b o e hx => ?_, I.base.tups, I.base.frzs, I.base.tbls⟩, ⟨_, hn', fun j y v' e1 e2 e3 => ?_⟩, fun y c e => ?_, I.free, I.freeC, fun p hp => ?_, tracked ⟨oL, hoL, I.free⟩ hs, by simpa using I.len⟩ ⟨_, hs, .inl rfl⟩
    · exact (hs.2 b (Nat.ne_of_lt (Nat.lt_of_lt_of_le (Heap.lt_size e) I.ok.above))).trans (I.base.keep b o e n hb hx)
    · obtain ⟨sl, e1⟩ := I.base.slot b o e n hb hx
      exact ⟨sl, (hs.2 b (Nat.ne_of_lt (Nat.lt_of_lt_of_le (Heap.lt_size e) I.ok.above))).trans e1⟩
    · obtain ⟨o', e1⟩ := I.base.there b o e hx
      exact ⟨o', (hs.2 b (Nat.ne_of_lt (Nat.lt_of_lt_of_le (Heap.lt_size e) I.ok.above))).trans e1⟩
    · by_cases hj : j = i
      · subst hj
        rw [hi] at e1; cases e1
        rw [List.getElem?_set_self hiσ] at e2
        cases e2
        exact ⟨u, r, .inl ⟨hk, by simp⟩⟩
      · rw [List.getElem?_set_ne (Ne.symm hj)] at e2
        obtain ⟨u', r', q⟩ := hl j y v' e1 e2 e3
        refine ⟨u', r', ?_⟩
        rcases q with ⟨k, e⟩ | ⟨k, c, e, z⟩
        · refine .inl ⟨k, ?_⟩
          have : y ≠ x := fun e => hj (nodup_ix hN e1 (e ▸ hi))
          simp [this, e]
        · exact .inr ⟨k, c, e, z.sameBut hs (cne y c e)⟩
    · obtain ⟨w', z⟩ := I.cell y c e
      exact ⟨w', z.sameBut hs (cne y c e)⟩
    · obtain ⟨e, n, ne, nf, d⟩ := I.pin p hp
      exact ⟨(hs.2 p.1 ne).trans e, n, ne, nf, d⟩
  · have hfn : X.fn x = true := by
      rcases hf with z | z
      · exact z
      · rw [z] at hk; cases hk
    obtain ⟨c, hc⟩ := I.ok.has x (.inl hk)
    obtain ⟨w', z⟩ := I.cell x c hc
    refine wpAny_storeName_cell I.ok.kind hk hc z (fun h' hc' hs => ?_)
    obtain ⟨oc, hoc, hocd⟩ := id z
    refine h { s with heap := h' } ⟨I.ok, I.os, I.bare, ⟨fun b o e n hb hx => ?_, fun b o e n hb hx => ?_, I.base.free, fun b o e hx => ?_, I.base.tups, I.base.frzs, I.base.tbls⟩, ⟨m, hn.sameBut hs (Ne.symm (cne x c hc)), fun j y v' e1 e2 e3 => ?_⟩, fun y c' e => ?_, I.free, I.freeC, fun p hp => ?_, tracked ⟨oc, hoc, I.freeC x c hc⟩ hs, by simpa using I.len⟩ ⟨c, hs, .inr hc⟩
    · exact (hs.2 b (Nat.ne_of_lt (Nat.lt_of_lt_of_le (Heap.lt_size e) (I.ok.cab x c hfn hc)))).trans (I.base.keep b o e n hb hx)
    · obtain ⟨sl, e1⟩ := I.base.slot b o e n hb hx
      exact ⟨sl, (hs.2 b (Nat.ne_of_lt (Nat.lt_of_lt_of_le (Heap.lt_size e) (I.ok.cab x c hfn hc)))).trans e1⟩
    · obtain ⟨o', e1⟩ := I.base.there b o e hx
      exact ⟨o', (hs.2 b (Nat.ne_of_lt (Nat.lt_of_lt_of_le (Heap.lt_size e) (I.ok.cab x c hfn hc)))).trans e1⟩
    · by_cases hj : j = i
      · subst hj
        rw [hi] at e1; cases e1
        rw [List.getElem?_set_self hiσ] at e2
        cases e2
        exact ⟨u, r, .inr ⟨.inl hk, c, hc, hc'⟩⟩
      · rw [List.getElem?_set_ne (Ne.symm hj)] at e2
        obtain ⟨u', r', q⟩ := hl j y v' e1 e2 e3
        refine ⟨u', r', ?_⟩
        rcases q with q | ⟨k, c', e, z'⟩
        · exact .inl q
        · refine .inr ⟨k, c', e, z'.sameBut hs ?_⟩
          rintro rfl
          exact hj (nodup_ix hN e1 (I.ok.inj _ _ _ e hc ▸ hi))
    · by_cases hcc : c' = c
      · subst hcc; exact ⟨_, hc'⟩
      · obtain ⟨w2, z2⟩ := I.cell y c' e
        exact ⟨w2, z2.sameBut hs hcc⟩
    · obtain ⟨e, n, ne, nf, d⟩ := I.pin p hp
      refine ⟨(hs.2 p.1 ?_).trans e, n, ne, nf, d⟩
      intro q
      rw [q, hoc] at e
      have q' : oc = p.2 := Option.some.inj e
      exact d w' (by rw [← q']; exact hocd)
theorem store_ok {M : Model} {A : Around} {E : Value → Shared → Prop} {i : Nat} {x : Str} {v : V} {u : Value} {Q : Unit → Shared → Prop} (I : Inv X pins σ H s) (hN : X.N.Nodup) (hi : X.N[i]? = some x) (hx : Loc X.env.scope x) (r : RelV v u)
    (h : ∀ s', Inv X pins (σ.set i (some v)) H s' → Q () s') (hf : X.fn x = true ∨ X.env.scope.names.lookup x = some .local := by first | exact .inl rfl | exact .inr rfl | assumption) : wpAny M A (storeName X.env x u) Q E s :=
  store_ok2 I hN hi hx r (fun s' I' _ => h s' I') hf
theorem Inv.call' {s' : Shared} {ch : List Addr} (I : Inv X pins σ H s) (ho : s'.os = s.os) (u : Un (frs X.stack) ch H H' s.heap s'.heap) (hok : HOk X.prog X.w H' s'.heap) (hg : AllBare s'.gens)
    (hch : ∀ b ∈ ch, (b ∈ X.ex ∨ X.s₀.heap.objs.size ≤ b) ∧ b ≠ X.env.locals ∧ (∀ x c, X.env.cells.lookup x = some c → c ≠ b) ∧ ∀ p ∈ X.pn ++ pins, p.1 ≠ b) : Inv X pins σ H' s' := by
  obtain ⟨h', g', d', t', o'⟩ := s'
  have e : o' = s.os := ho
  subst e
  exact I.call (g' := g') (t' := t') (d' := d') u hok hg hch
end

abbrev XK := Value → Option Addr → Hp → Prop
abbrev St := List (Option V)
abbrev VK := V → Hp → Prop
abbrev TE := St → Hp → VK → Prop
abbrev TT := St → Hp → (Bool → Hp → Prop) → Prop
abbrev TA := St → Hp → (List V → Hp → Prop) → Prop
structure Ends where
  nx : St → Hp → Prop
  rt : VK
  bk : St → Hp → Prop := fun _ _ => False
  ct : St → Hp → Prop := fun _ _ => False
abbrev TS := Ends → St → Hp → Prop

def EP (X : Cx) (pins : List (Addr × Obj)) (σ : St) (Q : VK) (u : Value) (s' : Shared) : Prop := ∃ v H', Inv X pins σ H' s' ∧ RelV v u ∧ Q v H'
def TP (X : Cx) (pins : List (Addr × Obj)) (σ : St) (Q : Bool → Hp → Prop) (b : Bool) (s' : Shared) : Prop := ∃ H', Inv X pins σ H' s' ∧ Q b H'
def AP (X : Cx) (pins : List (Addr × Obj)) (σ : St) (Q : List V → Hp → Prop) (us : List Value) (s' : Shared) : Prop := ∃ vs H', Inv X pins σ H' s' ∧ Vals vs us ∧ Q vs H'
def SP (X : Cx) (pins : List (Addr × Obj)) (D : Ends) (f : Flow) (s' : Shared) : Prop :=
  match f with
  | .next => ∃ σ' H', Inv X pins σ' H' s' ∧ D.nx σ' H'
  | .brk => ∃ σ' H', Inv X pins σ' H' s' ∧ D.bk σ' H'
  | .cont => ∃ σ' H', Inv X pins σ' H' s' ∧ D.ct σ' H'
  | .ret u => ∃ v σ' H', Inv X pins σ' H' s' ∧ RelV v u ∧ D.rt v H'

def PE (X : Cx) (e : Expr) (t : TE) : Prop :=
  ∀ (pins : List (Addr × Obj)) (s : Shared) (σ : St) (H : Hp) (Q : VK), Inv X pins σ H s → t σ H Q → wpAny (model X.prog X.w) X.A (eval e X.env) (EP X pins σ Q) X.xe s
def PT (X : Cx) (e : Expr) (t : TT) : Prop :=
  ∀ (pins : List (Addr × Obj)) (s : Shared) (σ : St) (H : Hp) (Q : Bool → Hp → Prop), Inv X pins σ H s → t σ H Q → wpAny (model X.prog X.w) X.A (isTrue e X.env (eval e X.env)) (TP X pins σ Q) X.xe s
def PW (X : Cx) (e : Expr) (t : TT) : Prop :=
  ∀ (whole : Sem Value) (pins : List (Addr × Obj)) (s : Shared) (σ : St) (H : Hp) (Q : Bool → Hp → Prop), Inv X pins σ H s → t σ H Q → wpAny (model X.prog X.w) X.A (isTrue e X.env whole) (TP X pins σ Q) X.xe s
theorem PW.pt {X : Cx} {e : Expr} {t : TT} (h : PW X e t) : PT X e t := h _
def PA (X : Cx) (es : List Expr) (t : TA) : Prop :=
  ∀ (pos : Pos) (pins : List (Addr × Obj)) (s : Shared) (σ : St) (H : Hp) (Q : List V → Hp → Prop), Inv X pins σ H s → t σ H Q → wpAny (model X.prog X.w) X.A (spliced (backTo pos (starEach es X.env))) (AP X pins σ Q) X.xe s
def PS (X : Cx) (st : Stmt) (t : TS) : Prop :=
  ∀ (pins : List (Addr × Obj)) (s : Shared) (σ : St) (H : Hp) (D : Ends), Inv X pins σ H s → t D σ H → wpAny (model X.prog X.w) X.A (exec st X.env) (SP X pins D) X.xe s
def PSs (X : Cx) (st : List Stmt) (t : TS) : Prop :=
  ∀ (pins : List (Addr × Obj)) (s : Shared) (σ : St) (H : Hp) (D : Ends), Inv X pins σ H s → t D σ H → wpAny (model X.prog X.w) X.A (execs st X.env) (SP X pins D) X.xe s
theorem thn {α : Type} {t : Sem α} {Q Q' : α → Shared → Prop} {M : Model} {A : Around} {E : Value → Shared → Prop} {s : Shared} (h : wpAny M A t Q E s) (hQ : ∀ a s, Q a s → Q' a s) : wpAny M A t Q' E s := wpAny_mono h hQ fun _ _ x => x
end L2

namespace L2
open PySem PySem.Spec PyProof.Rows
section
variable {X : Cx}


def tVar (i : Nat) : TE := fun σ H Q => ∃ v, σ[i]? = some (some v) ∧ Q v H
def tC (v : V) : TE := fun _ H Q => Q v H
theorem pe_var {i : Nat} {x : Str} {pos : Pos} (hN : X.N[i]? = some x) (hv : Vis X.env.scope x) (hd : (x == ("__debug__" : Str)) = false := by decide) (hcd : (x == ("__classdict__" : Str)) = false := by decide) : PE X (.Name x pos) (tVar i) := by
  intro pins s σ H Q I h
  obtain ⟨v, e, h⟩ := h
  obtain ⟨m, hn, hl⟩ := I.loc
  obtain ⟨u, r, l⟩ := hl i x v hN e hv
  have fin : EP X pins σ Q u s := ⟨v, H, I, r, h⟩
  rcases l with ⟨hk, hm⟩ | ⟨hk, c, hc, hcell⟩
  · exact wpAny_Name (wpAny_loadName_local I.ok.kind hk hn hm fin) hd
  · rcases hk with hk | hk
    · exact wpAny_Name (wpAny_loadName_cell I.ok.kind hk hc hcell fin) hd
    · exact wpAny_Name (wpAny_loadName_free I.ok.kind hk hc hcell fin hcd) hd
theorem pe_int {i j pos} : PE X (.Constant (.int i) j pos) (tC (.int i)) := fun _ _ _ H _ I h => wpAny_Constant_int ⟨.int i, H, I.tok _, ⟨_, rfl⟩, h⟩
theorem pe_bl {b j pos} : PE X (.Constant (.bool b) j pos) (tC (.bl b)) := fun _ _ _ H _ I h => Constant_bool ⟨.bl b, H, I, rfl, h⟩
theorem pe_non {j pos} : PE X (.Constant .none j pos) (tC .non) := fun _ _ _ H _ I h => Constant_none ⟨.non, H, I, rfl, h⟩
theorem pe_str {x j pos} : PE X (.Constant (.str x) j pos) (tC (.str x)) := fun _ _ _ H _ I h => Calls.Constant_str ⟨.str x, H, I.tok _, ⟨_, rfl⟩, h⟩

def Gl (X : Cx) (x : Str) : Prop := X.env.kindOf x = some .globalImplicit
theorem ld_glob {E : Value → Shared → Prop} {pins : List (Addr × Obj)} {s : Shared} {σ : St} {H : Hp} {x : Str} {u : Value} {pos : Pos} {Q : Value → Shared → Prop} (I : Inv X pins σ H s) (hg : Gl X x) (hm : X.mg x = some u) (h : Q u s)
    (hd : (x == ("__debug__" : Str)) = false := by decide) : wpAny (model X.prog X.w) X.A (eval (.Name x pos) X.env) Q E s :=
  Calls.Name_function_global I.ok.kind hg (Calls.loadGlobal_global (by rw [I.ok.glob]; exact I.mod.glob.keeps I.bk) hm h) hd
theorem ld_blt {E : Value → Shared → Prop} {pins : List (Addr × Obj)} {s : Shared} {σ : St} {H : Hp} {x : Str} {u : Value} {pos : Pos} {Q : Value → Shared → Prop} (I : Inv X pins σ H s) (hg : Gl X x) (hm : X.mg x = none) (hv : bootBuiltins x = some u) (h : Q u s)
    (hn : x ≠ "__name__" := by decide) (hd : (x == ("__debug__" : Str)) = false := by decide) : wpAny (model X.prog X.w) X.A (eval (.Name x pos) X.env) Q E s := by
  obtain ⟨mb, h1, h2⟩ := I.mod.blt
  exact Calls.Name_function_global I.ok.kind hg (Calls.loadGlobal_builtin (by rw [I.ok.glob]; exact I.mod.glob.keeps I.bk) hm (by rw [I.ok.blt]; exact h1.keeps I.bk) ((h2 x hn).trans hv) h) hd
theorem pe_bltn {x : Str} {v : V} {u : Value} {pos : Pos} (hg : Gl X x) (hm : X.mg x = none) (hv : bootBuiltins x = some u) (r : RelV v u) (hn : x ≠ "__name__" := by decide) (hd : (x == ("__debug__" : Str)) = false := by decide) : PE X (.Name x pos) (tC v) :=
  fun _ _ _ H _ I h => ld_blt I hg hm hv ⟨v, H, I, r, h⟩ hn hd

variable {a b : Expr} {ta tb : TE} {pos : Pos}

def tB (t : TE) : TT := fun σ H Q => t σ H fun x H1 => ∃ c, x = .bl c ∧ Q c H1
theorem pt_val {e : Expr} {t : TE} (h : PE X e t) (he : ∀ whole, isTrue e X.env whole = (do let v ← whole; standAt e.pos; holding [v] (truthy v)) := by intro _; rfl) : PT X e (tB t) := by
  intro pins s σ H Q I hw
  refine isTrue_plain (thn (h pins s σ H _ I hw) fun v s1 ⟨x, H1, I1, r1, q1⟩ => ?_) (he _)
  obtain ⟨d, rfl, q⟩ := q1
  cases r1
  exact wpAny_truthy_bool ⟨H1, I1, q⟩

variable {tA tB' : TT} {rest : List Expr}
def tAnd (t u : TT) : TT := fun σ H Q => t σ H fun c H1 => if c = true then u σ H1 Q else Q false H1
def tOr (t u : TT) : TT := fun σ H Q => t σ H fun c H1 => if c = true then Q true H1 else u σ H1 Q
def tNot (t : TT) : TT := fun σ H Q => t σ H fun c H1 => Q (!c) H1
theorem pw_and1 (ha : PT X a tA) : PW X (.BoolOp .And [a] pos) tA := by
  intro wh pins s σ H Q I h
  refine isTrue_and (thn (ha pins s σ H Q I h) fun c s1 e => ?_)
  cases c with
  | true => exact isTrue_and_nil e
  | false => exact e
theorem pw_or1 (ha : PT X a tA) : PW X (.BoolOp .Or [a] pos) tA := by
  intro wh pins s σ H Q I h
  refine isTrue_or (thn (ha pins s σ H Q I h) fun c s1 e => ?_)
  cases c with
  | false => exact isTrue_or_nil e
  | true => exact e
theorem pw_and (ha : PT X a tA) (hb : PW X (.BoolOp .And (b :: rest) pos) tB') : PW X (.BoolOp .And (a :: b :: rest) pos) (tAnd tA tB') := by
  intro wh pins s σ H Q I h
  refine isTrue_and (thn (ha pins s σ H _ I h) fun c s1 ⟨H1, I1, q1⟩ => ?_)
  cases c with
  | true => exact hb wh pins s1 σ H1 Q I1 q1
  | false => exact ⟨H1, I1, q1⟩
theorem pw_or (ha : PT X a tA) (hb : PW X (.BoolOp .Or (b :: rest) pos) tB') : PW X (.BoolOp .Or (a :: b :: rest) pos) (tOr tA tB') := by
  intro wh pins s σ H Q I h
  refine isTrue_or (thn (ha pins s σ H _ I h) fun c s1 ⟨H1, I1, q1⟩ => ?_)
  cases c with
  | true => exact ⟨H1, I1, q1⟩
  | false => exact hb wh pins s1 σ H1 Q I1 q1
theorem pt_not (ha : PT X a tA) : PT X (.UnaryOp .Not a pos) (tNot tA) := by
  intro pins s σ H Q I h
  exact isTrue_not (ha pins s σ H (fun c H1 => Q (!c) H1) I h)
def tAndV (ta tb : TE) : TE := fun σ H Q => ta σ H fun x H1 => ∃ c, x = .bl c ∧ if c = true then tb σ H1 Q else Q (.bl false) H1
def tOrV (ta tb : TE) : TE := fun σ H Q => ta σ H fun x H1 => ∃ c, x = .bl c ∧ if c = true then Q (.bl true) H1 else tb σ H1 Q
def tNotV (ta : TE) : TE := fun σ H Q => ta σ H fun x H1 => ∃ c, x = .bl c ∧ Q (.bl (!c)) H1
theorem pe_one {op} {t : TE} (h : PE X a t) : PE X (.BoolOp op [a] pos) t := fun pins s σ H Q I hw => BoolOp_one (h pins s σ H Q I hw)
theorem pe_and (ha : PE X a ta) (hb : PE X (.BoolOp .And (b :: rest) pos) tb) : PE X (.BoolOp .And (a :: b :: rest) pos) (tAndV ta tb) := by
  intro pins s σ H Q I h
  refine BoolOp_and (thn (ha pins s σ H _ I h) fun v s1 ⟨x, H1, I1, r1, q1⟩ => ?_)
  obtain ⟨c, rfl, q1⟩ := q1
  cases r1
  refine wpAny_truthy_bool ?_
  cases c with
  | true => exact hb pins s1 σ H1 Q I1 q1
  | false => exact ⟨.bl false, H1, I1, rfl, q1⟩
theorem pe_or (ha : PE X a ta) (hb : PE X (.BoolOp .Or (b :: rest) pos) tb) : PE X (.BoolOp .Or (a :: b :: rest) pos) (tOrV ta tb) := by
  intro pins s σ H Q I h
  refine BoolOp_or (thn (ha pins s σ H _ I h) fun v s1 ⟨x, H1, I1, r1, q1⟩ => ?_)
  obtain ⟨c, rfl, q1⟩ := q1
  cases r1
  refine wpAny_truthy_bool ?_
  cases c with
  | false => exact hb pins s1 σ H1 Q I1 q1
  | true => exact ⟨.bl true, H1, I1, rfl, q1⟩
def tIf (t : TT) (ta tb : TE) : TE := fun σ H Q => t σ H fun c H1 => if c = true then ta σ H1 Q else tb σ H1 Q
theorem pe_ifExp {c : Expr} (hc : PT X c tA) (ha : PE X a ta) (hb : PE X b tb) : PE X (.IfExp c a b pos) (tIf tA ta tb) := by
  intro pins s σ H Q I h
  refine wpAny_IfExp (thn (hc pins s σ H _ I h) fun d s1 ⟨H1, I1, q1⟩ => ?_)
  cases d with
  | true => exact ha pins s1 σ H1 Q I1 q1
  | false => exact hb pins s1 σ H1 Q I1 q1
end
end L2

namespace L2
open PySem PySem.Spec PyProof.Rows

def SqL (K : PySem.W.Frag) (H : Hp) (a : Addr) (xs : List V) : Prop :=
  Rd H a (.lst xs) ∨
    ∃ (o : Obj) (its : Array Value) (n : Nat), K.lookup a = some o ∧ o.cls = .type "list" ∧ o.dict = none ∧ o.data = .seq its n ∧ its.size ≤ sizeLine ∧ Vals xs its.toList
def SqT (K : PySem.W.Frag) (H : Hp) (a : Addr) (xs : List V) : Prop :=
  Rd H a (.tup xs) ∨
    ∃ (o : Obj) (its : Array Value) (n : Nat), K.lookup a = some o ∧ o.cls = .type "tuple" ∧ o.data = .seq its n ∧ its.size ≤ sizeLine ∧ Vals xs its.toList
def absV : Value → Option V
  | .none => some .non
  | .bool b => some (.bl b)
  | .int i _ => some (.int i)
  | .str x _ => some (.str x)
  | .bytes b _ => some (.byt b)
  | .float b _ => some (.flt b)
  | .ref a => some (.ref a)
  | .type n => some (.ty n)
  | _ => none
theorem RelV.abs {x : V} {u : Value} (r : RelV x u) : absV u = some x := by
  cases x with
  | non => cases r; rfl
  | bl _ => cases r; rfl
  | int _ => obtain ⟨t, rfl⟩ := r; rfl
  | str _ => obtain ⟨t, rfl⟩ := r; rfl
  | byt _ => obtain ⟨t, rfl⟩ := r; rfl
  | flt _ => obtain ⟨t, rfl⟩ := r; rfl
  | ref _ => cases r; rfl
  | ty _ => cases r; rfl
theorem RelV.inj {x y : V} {u : Value} (r : RelV x u) (q : RelV y u) : x = y := Option.some.inj (r.abs.symm.trans q.abs)
theorem Vals.inj : ∀ {xs ys : List V} {us : List Value}, Vals xs us → Vals ys us → xs = ys
  | _, _, _, .nil, .nil => rfl
  | _, _, _, .cons r t, .cons r' t' => by rw [r.inj r', Vals.inj t t']
section
variable {X : Cx} {pins : List (Addr × Obj)} {σ : St} {H : Hp} {s : Shared} {a : Addr} {xs ys : List V}
theorem SqL.of {K : PySem.W.Frag} (h : H a = some (.lst xs)) : SqL K H a xs := .inl (.inl h)
theorem SqT.of {K : PySem.W.Frag} (h : H a = some (.tup xs)) : SqT K H a xs := .inl (.inl h)
theorem Inv.list (I : Inv X pins σ H s) (h : SqL X.K H a xs) : ∃ its : List Value, Vals xs its ∧ PlainL s.heap a its.toArray ∧ xs.length ≤ sizeLine := by
  rcases h with h | ⟨o, its, n, hk, hc, hd, hs, hz, r⟩
  · obtain ⟨z, its, n, r, e⟩ := h.ok I.hok
    exact ⟨its, r, ⟨_, n, e, rfl, rfl, rfl⟩, z⟩
  · refine ⟨its.toList, r, ⟨o, n, I.kIn a o hk, hc, hd, by simpa using hs⟩, ?_⟩
    have e := r.length
    simp only [Array.length_toList] at e
    omega
theorem Inv.tuple (I : Inv X pins σ H s) (h : SqT X.K H a xs) : ∃ its : List Value, Vals xs its ∧ IsTup s.heap a its.toArray ∧ xs.length ≤ sizeLine := by
  rcases h with h | ⟨o, its, n, hk, hc, hs, hz, r⟩
  · obtain ⟨z, its, r, p⟩ := h.ok I.hok
    exact ⟨its, r, p, z⟩
  · refine ⟨its.toList, r, ⟨o, I.kIn a o hk, hc, n, by simpa using hs⟩, ?_⟩
    have e := r.length
    simp only [Array.length_toList] at e
    omega
theorem Inv.list_inj (I : Inv X pins σ H s) (h : SqL X.K H a xs) (h' : SqL X.K H a ys) : xs = ys := by
  obtain ⟨its, r, ⟨o, n, e, _, _, d⟩, _⟩ := I.list h
  obtain ⟨its', r', ⟨o', n', e', _, _, d'⟩, _⟩ := I.list h'
  rw [e] at e'; cases e'
  rw [d] at d'
  injection d' with d1 _
  have : its = its' := by simpa using congrArg Array.toList d1
  subst this
  exact r.inj r'
end

abbrev Cx.wish (X : Cx) (E : Value → Shared → Prop) : Cx := { X with xe := E }
abbrev Cx.nox (X : Cx) : Cx := X.wish fun _ _ => False
theorem Cx.Ok.wish {X : Cx} (ok : X.Ok) (E : Value → Shared → Prop) : (X.wish E).Ok :=
  ⟨ok.mod, ok.kind, ok.glob, ok.blt, ok.above, ok.inj, ok.has, ok.cab, ok.hd, ok.frames, ok.stk, ok.exf, ok.bs, ok.bsz, ok.noex, ok.exfs, ok.funs, ok.frf⟩
theorem Cx.Ok.unwish {X : Cx} {E : Value → Shared → Prop} (ok : (X.wish E).Ok) : X.Ok :=
  ⟨ok.mod, ok.kind, ok.glob, ok.blt, ok.above, ok.inj, ok.has, ok.cab, ok.hd, ok.frames, ok.stk, ok.exf, ok.bs, ok.bsz, ok.noex, ok.exfs, ok.funs, ok.frf⟩
section
variable {X : Cx} {pins : List (Addr × Obj)} {σ : St} {H : Hp} {s : Shared} {E : Value → Shared → Prop}
theorem Inv.wish (I : Inv X pins σ H s) (E : Value → Shared → Prop) : Inv (X.wish E) pins σ H s := ⟨I.ok.wish E, I.os, I.bare, I.base, I.loc, I.cell, I.free, I.freeC, I.pin, I.hok, I.len⟩
theorem Inv.unwish (I : Inv (X.wish E) pins σ H s) : Inv X pins σ H s := ⟨I.ok.unwish, I.os, I.bare, I.base, I.loc, I.cell, I.free, I.freeC, I.pin, I.hok, I.len⟩
theorem SP.unwish {D : Ends} {f : Flow} {s' : Shared} (h : SP (X.wish E) pins D f s') : SP X pins D f s' := by
  cases f with
  | next => obtain ⟨σ', H', I, q⟩ := h; exact ⟨σ', H', I.unwish, q⟩
  | brk => obtain ⟨σ', H', I, q⟩ := h; exact ⟨σ', H', I.unwish, q⟩
  | cont => obtain ⟨σ', H', I, q⟩ := h; exact ⟨σ', H', I.unwish, q⟩
  | ret u => obtain ⟨v, σ', H', I, r, q⟩ := h; exact ⟨v, σ', H', I.unwish, r, q⟩
theorem PE.nox {e : Expr} {t : TE} (h : PE X.nox e t) : PE X e t := fun pins s σ H Q I hw =>
  wpAny_mono (h pins s σ H Q (I.wish _) hw) (fun _ _ ⟨v, H', I', r, q⟩ => ⟨v, H', I'.unwish, r, q⟩) fun _ _ z => False.elim z
theorem PT.nox {e : Expr} {t : TT} (h : PT X.nox e t) : PT X e t := fun pins s σ H Q I hw =>
  wpAny_mono (h pins s σ H Q (I.wish _) hw) (fun _ _ ⟨H', I', q⟩ => ⟨H', I'.unwish, q⟩) fun _ _ z => False.elim z
theorem PSs.nox {st : List Stmt} {t : TS} (h : PSs X.nox st t) : PSs X st t := fun pins s σ H D I hw =>
  wpAny_mono (h pins s σ H D (I.wish _) hw) (fun _ _ q => q.unwish) fun _ _ z => False.elim z
end

section
variable {X : Cx} {st : Stmt} {rest : List Stmt} {t u : TS} {e : Expr} {te : TE} {pos : Pos}
def tNext : TS := fun D σ H => D.nx σ H
def tSeq (t u : TS) : TS := fun D σ H => t { D with nx := u D } σ H
theorem pss_nil : PSs X [] tNext := fun _ _ σ H _ I h => wpAny_execs_nil ⟨σ, H, I, h⟩
theorem pss_cons (h1 : PS X st t) (h2 : PSs X rest u) : PSs X (st :: rest) (tSeq t u) := by
  intro pins s σ H D I h
  refine wpAny_execs_cons (thn (h1 pins s σ H { D with nx := u D } I h) fun f s1 q => ?_)
  cases f with
  | next =>
    obtain ⟨σ', H', I', q⟩ := q
    exact h2 pins s1 σ' H' D I' q
  | ret v => exact q
  | brk => exact q
  | cont => exact q
theorem pss_one (h1 : PS X st t) : PSs X [st] t := by
  intro pins s σ H D I h
  refine wpAny_execs_cons (thn (h1 pins s σ H D I h) fun f s1 q => ?_)
  cases f with
  | next => exact wpAny_execs_nil q
  | ret v => exact q
  | brk => exact q
  | cont => exact q
theorem Inv.quiet {pins : List (Addr × Obj)} {σ : St} {H : Hp} {s : Shared} (I : Inv X pins σ H s) : interactive X.env = false := by simp [interactive, I.ok.kind]
def tDrop (te : TE) : TS := fun D σ H => te σ H fun _ H1 => D.nx σ H1
theorem ps_expr (he : PE X e te) (hs : swapsWith e none pos.line X.env = pure false := by rfl) : PS X (.Expr e pos) (tDrop te) := by
  intro pins s σ H D I h
  exact wpAny_Expr_any (thn (he pins s σ H _ I h) fun v s1 ⟨x, H1, I1, r1, q1⟩ => ⟨σ, H1, I1, q1⟩) I.quiet hs
def tRet (te : TE) : TS := fun D σ H => te σ H D.rt
theorem ps_ret (he : PE X e te) : PS X (.Return (some e) pos) (tRet te) := by
  intro pins s σ H D I h
  exact wpAny_Return_some (thn (he pins s σ H _ I h) fun v s1 ⟨x, H1, I1, r1, q1⟩ => ⟨x, σ, H1, I1, r1, q1⟩)
def tIfS (c : TT) (t u : TS) : TS := fun D σ H => c σ H fun b H1 => if b = true then t D σ H1 else u D σ H1
theorem ps_if {c : Expr} {a b : List Stmt} {tc : TT} (hc : PT X c tc) (ha : PSs X a t) (hb : PSs X b u) : PS X (.If c a b pos) (tIfS tc t u) := by
  intro pins s σ H D I h
  refine wpAny_If (thn (hc pins s σ H _ I h) fun d s1 ⟨H1, I1, q1⟩ => ?_)
  cases d with
  | true => exact ha pins s1 σ H1 D I1 q1
  | false => exact hb pins s1 σ H1 D I1 q1
def tNever : TS := fun _ _ _ => False
theorem ps_never : PS X st tNever := fun _ _ _ _ _ _ h => h.elim
end

abbrev TG := V → St → Hp → (St → Hp → Prop) → Prop
abbrev TGs := List V → St → Hp → (St → Hp → Prop) → Prop
def PG (X : Cx) (target : Expr) (t : TG) : Prop :=
  ∀ (pins : List (Addr × Obj)) (s : Shared) (σ : St) (H : Hp) (v : V) (u : Value) (Q : St → Hp → Prop), Inv X pins σ H s → RelV v u → t v σ H Q →
    wpAny (model X.prog X.w) X.A (assign target X.env u) (fun _ s' => ∃ σ' H', Inv X pins σ' H' s' ∧ Q σ' H') X.xe s
def PGs (X : Cx) (ts : List Expr) (t : TGs) : Prop :=
  ∀ (pins : List (Addr × Obj)) (s : Shared) (σ : St) (H : Hp) (vs : List V) (us : List Value) (Q : St → Hp → Prop), Inv X pins σ H s → Vals vs us → t vs σ H Q →
    wpAny (model X.prog X.w) X.A (assignInOrder ((assignEach ts X.env).map (·.2)) us) (fun _ s' => ∃ σ' H', Inv X pins σ' H' s' ∧ Q σ' H') X.xe s
abbrev TSet := V → V → V → Hp → (Hp → Prop) → Prop
def PSet (X : Cx) (t : TSet) : Prop :=
  ∀ (pins : List (Addr × Obj)) (s : Shared) (σ : St) (H : Hp) (o i v : V) (ov iv u : Value) (Q : Hp → Prop), Inv X pins σ H s → RelV o ov → RelV i iv → RelV v u → t o i v H Q →
    wpAny (model X.prog X.w) X.A (setItem ov iv u) (fun _ s' => ∃ H', Inv X pins σ H' s' ∧ Q H') X.xe s
abbrev TIp := V → V → Hp → VK → Prop
section
variable {X : Cx} {pos : Pos}
def gName (i : Nat) : TG := fun v σ H Q => Q (σ.set i (some v)) H
theorem pg_name {i : Nat} {x : Str} (hN : X.N.Nodup) (hi : X.N[i]? = some x) (hx : Loc X.env.scope x) (hf : X.fn x = true ∨ X.env.scope.names.lookup x = some .local := by first | exact .inl rfl | exact .inr rfl | assumption) : PG X (.Name x pos) (gName i) := by
  intro pins s σ H v u Q I r h
  exact wpAny_assign_Name (store_ok I hN hi hx r (fun s' I' => ⟨_, H, I', h⟩) hf)
def gNil : TGs := fun vs σ H Q => vs = [] ∧ Q σ H
def gCons (t : TG) (u : TGs) : TGs := fun vs σ H Q => ∃ v r, vs = v :: r ∧ t v σ H fun σ' H' => u r σ' H' Q
theorem pgs_nil : PGs X [] gNil := by
  intro pins s σ H vs us Q I r h
  obtain ⟨e, h⟩ := h
  subst e
  cases r
  exact assignInOrder_nil ⟨σ, H, I, h⟩
theorem pgs_cons {e : Expr} {es : List Expr} {t : TG} {u : TGs} (h1 : PG X e t) (h2 : PGs X es u)
    (hs : (assignEach (e :: es) X.env).map (·.2) = assign e X.env :: (assignEach es X.env).map (·.2) := by rfl) : PGs X (e :: es) (gCons t u) := by
  intro pins s σ H vs us Q I r h
  obtain ⟨v, vr, e1, h⟩ := h
  subst e1
  cases r with
  | cons r rr =>
    rw [hs]
    refine assignInOrder_cons (thn (h1 pins s σ H _ _ _ I r h) fun _ s1 ⟨σ1, H1, I1, q1⟩ => ?_)
    exact h2 pins s1 σ1 H1 _ _ Q I1 rr q1
def gTup (K : PySem.W.Frag) (n : Nat) (t : TGs) : TG := fun v σ H Q => ∃ a xs, v = .ref a ∧ SqT K H a xs ∧ xs.length = n ∧ t xs σ H Q
theorem pg_tup {es : List Expr} {k : Nat} {t : TGs} {n : Nat} (hc : X.calm = true) (h : PGs X es t)
    (hn : (assignEach es X.env).length = n := by rfl) (hst : (assignEach es X.env).findIdx? (·.1) = none := by rfl) : PG X (.Tuple es k pos) (gTup X.K n t) := by
  intro pins s σ H v u Q I r hw
  obtain ⟨a, xs, e1, hq, hl, hw⟩ := hw
  subst e1
  cases r
  obtain ⟨its, rv, ht, hz⟩ := I.tuple hq
  refine assign_Tuple_tuple (I.ok.hd hc) ht (by simp [hn, ← hl, rv.length]) hst fun h' hx => ?_
  have I1 : Inv X pins σ H { s with heap := h' } := I.kept (t' := s.toks) fun b o e => hx b o (Nat.ne_of_lt (Heap.lt_size e)) e
  exact h pins _ σ H xs _ Q I1 (by simpa using rv) hw
def gSub (to ti : TE) (t : TSet) : TG := fun v σ H Q => to σ H fun o H1 => ti σ H1 fun i H2 => t o i v H2 fun H3 => Q σ H3
theorem pg_sub {o i : Expr} {to ti : TE} {t : TSet} (ho : PE X o to) (hi : PE X i ti) (hs : PSet X t)
    (ha : ∀ v, assign (.Subscript o i pos) X.env v = (do
      let ov ← holding [v] (eval o X.env)
      let iv ← holding [v, ov] (eval i X.env)
      standAt pos
      holding [v, ov, iv] (setItem ov iv v)
      release [v, ov, iv] []) := by intro _; rfl) : PG X (.Subscript o i pos) (gSub to ti t) := by
  intro pins s σ H v u Q I r h
  rw [ha]
  refine wpAny_bind (wpAny_holding (thn (ho pins s σ H _ I h) fun ov s1 ⟨x, H1, I1, r1, q1⟩ => ?_))
  refine wpAny_bind (wpAny_holding (thn (hi pins s1 σ H1 _ I1 q1) fun iv s2 ⟨y, H2, I2, r2, q2⟩ => ?_))
  refine wpAny_bind (wpAny_standAt (wpAny_bind (wpAny_holding (thn (hs pins s2 σ H2 x y v ov iv u _ I2 r1 r2 r q2) fun _ s3 ⟨H3, I3, q3⟩ => ?_))))
  exact wpAny_release ⟨σ, H3, I3, q3⟩
def tAsg (te : TE) (g : TG) : TS := fun D σ H => te σ H fun x H1 => g x σ H1 D.nx
theorem ps_asg {tg e : Expr} {te : TE} {g : TG} (he : PE X e te) (hg : PG X tg g) (hs : swapsWithSole [tg] e pos.line X.env = pure false := by rfl) (hw : swappedStores [tg] e X.env = pure none := by rfl)
    (h1 : (assignEach [tg] X.env).map (·.2) = [assign tg X.env] := by rfl) : PS X (.Assign [tg] e pos) (tAsg te g) := by
  intro pins s σ H D I h
  refine wpAny_Assign_stores (thn (he pins s σ H _ I h) fun v s1 ⟨x, H1, I1, r1, q1⟩ => ?_) hs hw
  rw [h1]
  exact thn (hg pins s1 σ H1 x v _ I1 r1 q1) fun _ s2 q => q
theorem ps_set {i : Nat} {x : Str} {e : Expr} {te : TE} {pos' : Pos} (hN : X.N.Nodup) (hi : X.N[i]? = some x) (hx : Loc X.env.scope x) (he : PE X e te) (hs : swapsWith e (some (.Name x pos')) pos.line X.env = pure false := by rfl) (hf : X.fn x = true ∨ X.env.scope.names.lookup x = some .local := by first | exact .inl rfl | exact .inr rfl | assumption) :
    PS X (.Assign [.Name x pos'] e pos) (tAsg te (gName i)) := by
  intro pins s σ H D I h
  refine wpAny_Assign_Name (thn (he pins s σ H _ I h) fun v s1 ⟨y, H1, I1, r1, q1⟩ => ?_) hs
  exact store_ok I1 hN hi hx r1 (fun s2 I2 => ⟨_, H1, I2, q1⟩) hf
def tAug (i : Nat) (te : TE) (ti : TIp) : TS := fun D σ H => ∃ x, σ[i]? = some (some x) ∧ te σ H fun y H1 => ti x y H1 fun z H2 => D.nx (σ.set i (some z)) H2
def ipI (f : Int → Int → Int) : TIp := fun x y H Q => ∃ i j, x = .int i ∧ y = .int j ∧ Q (.int (f i j)) H
end

section
variable {X : Cx} {pos : Pos}
def tWhile (c : TT) (tb : TS) : TS := fun D σ H => ∃ W : Nat → St → Hp → Prop, (∃ m, W m σ H) ∧ ∀ m σ H, W m σ H →
  c σ H fun b H1 => if b = true then ∃ N : St → Hp → Prop, (∀ σ' H', N σ' H' → ∃ m', m' < m ∧ W m' σ' H') ∧ tb { D with nx := N, ct := N, bk := D.nx } σ H1 else D.nx σ H1
theorem ps_while {c : Expr} {body : List Stmt} {tc : TT} {tb : TS} (hp : PassesOwn (model X.prog X.w) X.A X.env X.xe) (hc : PT X c tc) (hb : PSs X body tb) : PS X (.While c body [] pos) (tWhile tc tb) := by
  intro pins s σ H D I h
  obtain ⟨W, ⟨m0, w0⟩, turn⟩ := h
  refine wpAny_While (codeAny_whileLoop (fun n s' => ∃ σ' H', Inv X pins σ' H' s' ∧ W n σ' H') ?_ m0 ⟨σ, H, I, w0⟩)
  rintro n s1 ⟨σ1, H1, I1, w1⟩
  refine wpAny_passesOwn hp (thn (hc pins s1 σ1 H1 _ I1 (turn n σ1 H1 w1)) fun b s2 ⟨H2, I2, q2⟩ => ?_)
  cases b with
  | true =>
    obtain ⟨N, hN, q2⟩ := q2
    rw [if_pos rfl]
    refine wpAny_passesOwn hp (thn (hb pins s2 σ1 H2 _ I2 q2) fun f s3 q3 => ?_)
    cases f with
    | next =>
      obtain ⟨σ3, H3, I3, n3⟩ := q3
      obtain ⟨m', hm, w3⟩ := hN σ3 H3 n3
      exact ⟨m', hm, σ3, H3, I3, w3⟩
    | cont =>
      obtain ⟨σ3, H3, I3, n3⟩ := q3
      obtain ⟨m', hm, w3⟩ := hN σ3 H3 n3
      exact ⟨m', hm, σ3, H3, I3, w3⟩
    | brk => exact q3
    | ret v => exact q3
  | false =>
    rw [if_neg Bool.false_ne_true]
    exact wpAny_execs_nil ⟨σ1, H2, I2, q2⟩
end

structure It where
  go : Nat → Hp → Prop
  yld : Nat → Hp → V → Hp → Prop
  stop : Nat → Hp → Prop
def FpOk (X : Cx) (pins : List (Addr × Obj)) (H : Hp) (b : Addr) : Prop :=
  H b = none ∧ b ≠ X.env.locals ∧ b ∉ X.fs ∧ (b ∈ X.ex ∨ X.s₀.heap.objs.size ≤ b) ∧ (∀ x c, X.env.cells.lookup x = some c → c ≠ b) ∧ ∀ p ∈ X.pn ++ pins, p.1 ≠ b
theorem Inv.fpOk {X : Cx} {pins : List (Addr × Obj)} {σ : St} {H H' : Hp} {s : Shared} {b : Addr} (I : Inv X pins σ H s) (hb : s.heap.objs.size ≤ b) (hn : H' b = none) : FpOk X pins H' b := by
  refine ⟨hn, Nat.ne_of_gt (Nat.lt_of_lt_of_le I.lt hb), I.nofs hb, .inr (Nat.le_trans I.sz hb), fun x c e z => ?_, fun p hp z => ?_⟩
  · obtain ⟨v, q⟩ := I.cell x c e
    exact absurd (Nat.lt_of_lt_of_le q.lt (by rw [z]; exact hb)) (Nat.lt_irrefl _)
  · exact absurd (Nat.lt_of_lt_of_le (Heap.lt_size (I.pin p hp).1) (by rw [z]; exact hb)) (Nat.lt_irrefl _)
structure Turn (P : Program) (w : World) (K : PySem.W.Frag) (tg : Expr) (J : It) (fp : List Addr) (it : Addr) (tn : Nat → Heap → Prop) : Prop where
  mem : it ∈ fp
  obj : ∀ i h, tn i h → ∀ b ∈ fp, ∃ o, h.get? b = some o ∧ ∀ v, o.data ≠ .cell v
  keep : ∀ i h h', tn i h → (∀ b ∈ fp, ∀ o, h.get? b = some o → h'.get? b = some o) → tn i h'
  item : ∀ (X : Cx), X.prog = P → X.w = w → X.K = K → X.calm = true → ∀ (i : Nat) (pins : List (Addr × Obj)) (s : Shared) (σ : St) (H : Hp) (E : Value → Shared → Prop), Inv X pins σ H s → (∀ b ∈ fp, FpOk X pins H b) → tn i s.heap → J.go i H →
    wpAny (model P w) X.A (pyNext (.ref it)) (fun r s1 => ∃ u, r = some u ∧
      wpAny (model P w) X.A (letOwnedTupleGo tg (.ref it) u) (fun _ s2 => ∃ x H', Inv X pins σ H' s2 ∧ RelV x u ∧ J.yld i H x H' ∧ tn (i + 1) s2.heap ∧ ∀ b ∈ fp, H' b = none) E s1) E s
  done : ∀ (X : Cx), X.prog = P → X.w = w → X.K = K → X.calm = true → ∀ (i : Nat) (pins : List (Addr × Obj)) (s : Shared) (σ : St) (H : Hp) (E : Value → Shared → Prop), Inv X pins σ H s → (∀ b ∈ fp, FpOk X pins H b) → tn i s.heap → J.stop i H →
    wpAny (model P w) X.A (pyNext (.ref it)) (fun r s1 => r = none ∧ Inv X pins σ H s1) E s
  self : ∀ (A : Around) (i : Nat) (s : Shared) (Q : Value → Shared → Prop) (E : Value → Shared → Prop), tn i s.heap → Q (.ref it) s → wpAny (model P w) A (pyIter (.ref it)) Q E s
abbrev TI := St → Hp → (It → Hp → Prop) → Prop
def PIE (X : Cx) (pins : List (Addr × Obj)) (σ : St) (tg : Expr) (R : It → Hp → Prop) (itv : Value) (s2 : Shared) : Prop :=
  ∃ (it : Addr) (fp : List Addr) (tn : Nat → Heap → Prop) (J : It) (H' : Hp), itv = .ref it ∧ Inv X pins σ H' s2 ∧ Turn X.prog X.w X.K tg J fp it tn ∧ tn 0 s2.heap ∧ (∀ b ∈ fp, FpOk X pins H' b) ∧ R J H'
def PI (X : Cx) (tg iter : Expr) (wi : TI) : Prop :=
  ∀ (pins : List (Addr × Obj)) (s : Shared) (σ : St) (H : Hp) (R : It → Hp → Prop), Inv X pins σ H s → wi σ H R →
    wpAny (model X.prog X.w) X.A (eval iter X.env) (fun v s1 => wpAny (model X.prog X.w) X.A (pyIter v) (PIE X pins σ tg R) X.xe s1) X.xe s

theorem go_of {M : Model} {A : Around} {E : Value → Shared → Prop} {s : Shared} {tg : Expr} {it : Addr} {u : Value} {o : Obj} {n : String} {vs : Array Value} {Q : Unit → Shared → Prop} (ho : s.heap.get? it = some o) (hc : o.cls = .type n) (hd : o.data = .fields vs)
    (hn : ["enumerate", "zip", "dict_itemiterator", "dict_reverseitemiterator", "odict_iterator", "itertools.zip_longest", "itertools.pairwise"].contains n = false) (hQ : Q () s) : wpAny M A (letOwnedTupleGo tg (.ref it) u) Q E s := by
  unfold letOwnedTupleGo
  cases tg <;> first
    | exact wpAny_pure hQ
    | (cases u <;> first
        | exact wpAny_pure hQ
        | (refine wpAny_bind (wpAny_load ho ?_)
           rw [hc, hd]
           show wpAny M A (if (["enumerate", "zip", "dict_itemiterator", "dict_reverseitemiterator", "odict_iterator", "itertools.zip_longest", "itertools.pairwise"].contains n && vs[0]? == some (rawInt _)) = true then _ else _) Q E s
           rw [if_neg (by intro h; rw [hn, Bool.false_and] at h; cases h)]
           exact wpAny_pure hQ))

def Itl (K : PySem.W.Frag) (a : Addr) : It :=
  ⟨fun i H => ∃ xs x, SqL K H a xs ∧ xs[i]? = some x, fun i H x H' => H' = H ∧ ∀ xs, SqL K H a xs → xs[i]? = some x, fun i H => ∃ xs, SqL K H a xs ∧ xs.length ≤ i⟩
def Itr (lo : Int) (n : Nat) : It := ⟨fun i _ => i < n, fun i H x H' => H' = H ∧ x = .int (lo + i), fun i _ => n ≤ i⟩
theorem turn_list {P : Program} {w : World} {K : PySem.W.Frag} {tg : Expr} (a it : Addr) : Turn P w K tg (Itl K a) [it] it (fun i h => h.IsListIter it a i) where
  mem := by simp
  obj := fun i h st b hb => by
    have e : b = it := by simpa using hb
    subst e
    obtain ⟨o, e, c, d⟩ := st
    exact ⟨o, e, fun v z => by rw [d] at z; cases z⟩
  keep := fun i h h' st k => st.at fun o e => k it (by simp) o e
  item := by
    intro X hP hw hK hc i pins s σ H E I hf st hg
    subst hP hw hK
    obtain ⟨xs, x, hq, hx⟩ := hg
    obtain ⟨its, rv, p, hz⟩ := I.list hq
    obtain ⟨u, hu, ru⟩ := rv.get hx
    obtain ⟨f0, f1, f2, f3, f4, f5⟩ := hf it (by simp)
    refine wpAny_pyNext_list_item st p.isList (x := u) (by simpa using hu) fun h' st' sb => ?_
    have I1 : Inv X pins σ H { s with heap := h' } := I.turned (t' := s.toks) (fun b o hb e => (sb.2 b hb).trans e) f0 f1 f3 f4 f5
    obtain ⟨o, e, c, d⟩ := id st'
    exact ⟨u, rfl, go_of (s := { s with heap := h' }) e c d (by decide) ⟨x, H, I1, ru, ⟨rfl, fun ys hy => by rw [I.list_inj hy hq]; exact hx⟩, st', fun b hb => (hf b hb).1⟩⟩
  done := by
    intro X hP hw hK hc i pins s σ H E I hf st hg
    subst hP hw hK
    obtain ⟨xs, hq, hx⟩ := hg
    obtain ⟨its, rv, p, hz⟩ := I.list hq
    obtain ⟨f0, f1, f2, f3, f4, f5⟩ := hf it (by simp)
    have hl := rv.length
    exact wpAny_pyNext_list_end (I.ok.hd hc) st p.isList (by simp; omega) fun h' eb => ⟨rfl, I.turned (t' := s.toks) (fun b o hb e => eb b o hb e) f0 f1 f3 f4 f5⟩
  self := fun _ _ _ _ _ st h => wpAny_pyIter_listiter st h
theorem turn_range {P : Program} {w : World} {K : PySem.W.Frag} {tg : Expr} (it : Addr) (lo : Int) (n : Nat) : Turn P w K tg (Itr lo n) [it] it (fun i h => IsRangeIter h it (lo + (i : Nat) * 1) ((n : Int) - (i : Nat)) 1) where
  mem := by simp
  obj := fun i h st b hb => by
    have e : b = it := by simpa using hb
    subst e
    exact ⟨_, st, fun v z => by
      have z' : Data.fields _ = Data.cell v := z
      cases z'⟩
  keep := fun i h h' st k => k it (by simp) _ st
  item := by
    intro X hP hw hK hc i pins s σ H E I hf st hg
    subst hP hw hK
    obtain ⟨f0, f1, f2, f3, f4, f5⟩ := hf it (by simp)
    have W := Walks.range (prog := X.prog) (w := X.w) (I.ok.hd hc) it lo 1 n
    refine W.item i s _ _ hg st fun v h' tk hv st' kk => ?_
    obtain ⟨t, rfl⟩ := hv
    have I1 : Inv X pins σ H { s with heap := h', toks := tk } := I.turned (fun b o hb e => kk b o (by simpa using hb) e) f0 f1 f3 f4 f5
    refine ⟨_, rfl, go_of (s := { s with heap := h', toks := tk }) (n := "range_iterator") st' rfl rfl (by decide) ⟨.int (lo + i), H, I1, ⟨t, ?_⟩, ⟨rfl, rfl⟩, st', fun b hb => (hf b hb).1⟩⟩
    rw [Int.mul_one]
  done := by
    intro X hP hw hK hc i pins s σ H E I hf st hg
    subst hP hw hK
    obtain ⟨f0, f1, f2, f3, f4, f5⟩ := hf it (by simp)
    exact wpAny_pyNext_range_end (I.ok.hd hc) st (by have : n ≤ i := hg; omega) fun h' eb => ⟨rfl, I.turned (t' := s.toks) (fun b o hb e => eb b o hb e) f0 f1 f3 f4 f5⟩
  self := fun _ _ _ _ _ st h => wpAny_pyIter_rangeiter st h
end L2

namespace L2
open PySem PySem.Spec PyProof.Rows
section
variable {X : Cx} {tg : Expr}
def iList (K : PySem.W.Frag) (tl : TE) : TI := fun σ H R => tl σ H fun x H1 => ∃ a, x = .ref a ∧ (∃ xs, SqL K H1 a xs) ∧ R (Itl K a) H1
theorem pi_list {l : Expr} {tl : TE} (hl : PE X l tl) : PI X tg l (iList X.K tl) := by
  intro pins s σ H R I h
  refine thn (hl pins s σ H _ I h) fun v s1 ⟨x, H1, I1, r1, q1⟩ => ?_
  obtain ⟨a, e, ⟨xs, hq⟩, q⟩ := q1
  subst e
  cases r1
  obtain ⟨its, rv, p, hz⟩ := I1.list hq
  refine wpAny_pyIter_list p.isList ?_
  refine ⟨s1.heap.objs.size, [s1.heap.objs.size], _, _, H1, rfl, I1.kept (t' := s1.toks) fun b o e => Heap.get?_push_of_some _ e, turn_list a _, ⟨_, Heap.get?_push_size _ rfl, rfl, rfl⟩, fun b hb => ?_, q⟩
  have e : b = s1.heap.objs.size := by simpa using hb
  subst e
  exact I1.fpOk (Nat.le_refl _) (I1.hok.fresh (Nat.le_refl _))
theorem range_it {pins : List (Addr × Obj)} {σ : St} {H : Hp} {s : Shared} {R : It → Hp → Prop} {E : Value → Shared → Prop} {lo hi : Int} {t u v : Tok} {tk : Nat} (I : Inv X pins σ H s) (h1 : -(2 ^ 62) ≤ lo) (h2 : lo < 2 ^ 62) (h3 : -(2 ^ 62) ≤ hi) (h4 : hi < 2 ^ 62)
    (q : R (Itr lo (hi - lo).toNat) H) : wpAny (model X.prog X.w) X.A (pyIter (.ref s.heap.objs.size)) (PIE X pins σ tg R) E { s with heap := s.heap.push { cls := .type "range", data := .fields #[.int lo t, .int hi u, .int 1 v] }, toks := tk } := by
  refine wpAny_pyIter_range (IsRange.new ..) (small_one h1 h2 h3 h4) ?_
  have I1 : Inv X pins σ H { s with heap := s.heap.push { cls := .type "range", data := .fields #[.int lo t, .int hi u, .int 1 v] }, toks := tk } := I.kept fun b o e => Heap.get?_push_of_some _ e
  refine ⟨(s.heap.push { cls := .type "range", data := .fields #[.int lo t, .int hi u, .int 1 v] }).objs.size, [(s.heap.push { cls := .type "range", data := .fields #[.int lo t, .int hi u, .int 1 v] }).objs.size], _, _, H, rfl,
    I1.kept (t' := tk) fun b o e => Heap.get?_push_of_some _ e, turn_range _ lo (hi - lo).toNat, ?_, fun b hb => ?_, q⟩
  · have e1 : lo + ((0 : Nat) : Int) * 1 = lo := by simp
    have e2 : (((hi - lo).toNat : Nat) : Int) - ((0 : Nat) : Int) = Builtin.Range.rangeSize lo hi 1 := by rw [rangeSize_one]; split <;> omega
    show IsRangeIter _ _ (lo + ((0 : Nat) : Int) * 1) ((((hi - lo).toNat : Nat) : Int) - ((0 : Nat) : Int)) 1
    rw [e1, e2]
    exact Heap.get?_push_size _ rfl
  · have e : b = (s.heap.push { cls := .type "range", data := .fields #[.int lo t, .int hi u, .int 1 v] }).objs.size := by simpa using hb
    subst e
    exact I1.fpOk (Nat.le_refl _) (I1.hok.fresh (Nat.le_refl _))
def iRng1 (ta : TA) : TI := fun σ H R => ta σ H fun vs H1 => ∃ j : Int, vs = [.int j] ∧ -(2 ^ 62) ≤ j ∧ j < 2 ^ 62 ∧ R (Itr 0 j.toNat) H1
def iRng2 (ta : TA) : TI := fun σ H R => ta σ H fun vs H1 => ∃ i j : Int, vs = [.int i, .int j] ∧ (-(2 ^ 62) ≤ i ∧ i < 2 ^ 62 ∧ -(2 ^ 62) ≤ j ∧ j < 2 ^ 62) ∧ R (Itr i (j - i).toNat) H1
theorem pi_range1 {a : Expr} {ta : TA} {p pos : Pos} (hg : Gl X "range") (hm : X.mg "range" = none) (ha : PA X [a] ta) (hs : starEach [a] X.env = [(false, eval a X.env)] := by rfl) : PI X tg (.Call (.Name "range" p) [a] [] pos) (iRng1 ta) := by
  intro pins s σ H R I h
  refine Call_ (ld_blt I hg hm boot_range (PyProof.Rows.callWith_type1 (thn (ha pos pins s σ H _ I h) fun us s1 ⟨vs, H1, I1, r1, q1⟩ => ?_) hs rfl))
  obtain ⟨j, e, q1, q2, q⟩ := q1
  subst e
  cases r1 with
  | cons r rr =>
    cases rr
    obtain ⟨t, rfl⟩ := r
    exact call_range_1 (range_it I1 (by omega) (by omega) q1 q2 (by simpa using q))
theorem pi_range2 {a b : Expr} {ta : TA} {p pos : Pos} (hg : Gl X "range") (hm : X.mg "range" = none) (ha : PA X [a, b] ta) (hs : starEach [a, b] X.env = [(false, eval a X.env), (false, eval b X.env)] := by rfl) (hs2 : starEach [b] X.env = [(false, eval b X.env)] := by rfl) :
    PI X tg (.Call (.Name "range" p) [a, b] [] pos) (iRng2 ta) := by
  intro pins s σ H R I h
  refine Call_ (ld_blt I hg hm boot_range (PyProof.Rows.callWith_type1 (thn (ha pos pins s σ H _ I h) fun us s1 ⟨vs, H1, I1, r1, q1⟩ => ?_) (by rw [hs, hs2]) (by rw [hs2]; rfl)))
  obtain ⟨i, j, e, ⟨q1, q2, q3, q4⟩, q⟩ := q1
  subst e
  cases r1 with
  | cons r rr =>
    cases rr with
    | cons r' rr =>
      cases rr
      obtain ⟨t, rfl⟩ := r
      obtain ⟨t', rfl⟩ := r'
      exact call_range_2 (range_it I1 q1 q2 q3 q4 q)

def tFor (wi : TI) (g : TG) (tb : TS) : TS := fun D σ H => wi σ H fun J H1 => ∃ W : Nat → Nat → St → Hp → Prop, (∃ m, W 0 m σ H1) ∧ ∀ i m σ H, W i m σ H →
  (J.stop i H ∧ D.nx σ H) ∨ (J.go i H ∧ ∃ N : St → Hp → Prop, (∀ σ' H', N σ' H' → ∃ m', m' < m ∧ W (i + 1) m' σ' H') ∧ ∀ x H', J.yld i H x H' → g x σ H' fun σ2 H2 => tb { D with nx := N, ct := N, bk := D.nx } σ2 H2)
def pinsAt (fp : List Addr) (h : Heap) : List (Addr × Obj) := fp.filterMap fun b => (h.get? b).map fun o => (b, o)
theorem mem_pinsAt {fp : List Addr} {h : Heap} {b : Addr} {o : Obj} (hb : b ∈ fp) (e : h.get? b = some o) : (b, o) ∈ pinsAt fp h := List.mem_filterMap.mpr ⟨b, hb, by rw [e]; rfl⟩
theorem of_pinsAt {fp : List Addr} {h : Heap} {p : Addr × Obj} (hp : p ∈ pinsAt fp h) : p.1 ∈ fp ∧ h.get? p.1 = some p.2 := by
  obtain ⟨b, hb, e⟩ := List.mem_filterMap.mp hp
  cases q : h.get? b with
  | none => rw [q] at e; cases e
  | some o =>
    rw [q] at e
    have e' : (b, o) = p := Option.some.inj e
    subst e'
    exact ⟨hb, q⟩
theorem Inv.pinned {pins : List (Addr × Obj)} {σ : St} {H : Hp} {s : Shared} {fp : List Addr} (I : Inv X pins σ H s) (hf : ∀ b ∈ fp, FpOk X pins H b) (ho : ∀ b ∈ fp, ∃ o, s.heap.get? b = some o ∧ ∀ v, o.data ≠ .cell v) : Inv X (pins ++ pinsAt fp s.heap) σ H s :=
  I.pins_of fun p hp => (List.mem_append.mp hp).elim (fun z => I.pin p (List.mem_append_right _ z)) fun z => by
    obtain ⟨hb, e⟩ := of_pinsAt z
    obtain ⟨f0, f1, f2, _⟩ := hf p.1 hb
    obtain ⟨o, e', d⟩ := ho p.1 hb
    rw [e] at e'; cases e'
    exact ⟨e, f0, f1, f2, d⟩
theorem Inv.unpinned {pins pl : List (Addr × Obj)} {σ : St} {H : Hp} {s : Shared} (I : Inv X (pins ++ pl) σ H s) : Inv X pins σ H s := I.pins_of fun p hp => I.pin p (List.mem_append_right _ (List.mem_append_left _ hp))
theorem ps_for {iter : Expr} {body : List Stmt} {wi : TI} {g : TG} {tb : TS} {pos : Pos} (hp : PassesOwn (model X.prog X.w) X.A X.env X.xe) (hc : X.calm = true) (hi : PI X tg iter wi) (hg : PG X tg g) (hb : PSs X body tb)
    (hs : ∀ x, foldedSetIterable iter X.env x = pure x := by intro _; rfl) : PS X (.For tg iter body [] pos) (tFor wi g tb) := by
  intro pins s σ H D I h
  refine wpAny_For (thn (hi pins s σ H _ I h) fun v s1 h1 => thn h1 fun itv s2 h2 => ?_) hs
  obtain ⟨it, fp, tn, J, H2, e, I2, T, st2, f2, W, ⟨m0, w0⟩, turn⟩ := h2
  subst e
  -- what stays true of the iterator's objects through the loop
  have stat : ∀ {H' : Hp}, (∀ b ∈ fp, H' b = none) → ∀ b ∈ fp, FpOk X pins H' b := fun hn b hb => ⟨hn b hb, (f2 b hb).2⟩
  refine codeAny_forLoop_any (fun n s' => ∃ i σ' H', Inv X pins σ' H' s' ∧ tn i s'.heap ∧ (∀ b ∈ fp, H' b = none) ∧ W i n σ' H') ?_ m0 ⟨0, σ, H2, I2, st2, fun b hb => (f2 b hb).1, w0⟩
  rintro n s3 ⟨i, σ3, H3, I3, st3, fr3, w3⟩
  rcases turn i n σ3 H3 w3 with ⟨stop, qn⟩ | ⟨go, N, hN, step⟩
  · refine wpAny_passesOwn hp (thn (T.done X rfl rfl rfl hc i pins s3 σ3 H3 X.xe I3 (stat fr3) st3 stop) fun r s4 ⟨hr, I4⟩ => ?_)
    subst hr
    exact wpAny_execs_nil ⟨σ3, H3, I4, qn⟩
  · refine wpAny_passesOwn hp (thn (T.item X rfl rfl rfl hc i pins s3 σ3 H3 X.xe I3 (stat fr3) st3 go) fun r s4 ⟨u, hr, h4⟩ => ?_)
    subst hr
    refine wpAny_passesOwn hp (thn h4 fun _ s5 ⟨x, H5, I5, r5, y5, st5, fr5⟩ => ?_)
    have I5' := I5.pinned (stat fr5) (T.obj _ _ st5)
    refine wpAny_passesOwn hp (thn (hg _ s5 σ3 H5 x u _ I5' r5 (step x H5 y5)) fun _ s6 ⟨σ6, H6, I6, q6⟩ => ?_)
    refine wpAny_passesOwn hp (thn (hb _ s6 σ6 H6 _ I6 q6) fun f s7 q7 => ?_)
    have again : ∀ {σ7 : St} {H7 : Hp}, Inv X (pins ++ pinsAt fp s5.heap) σ7 H7 s7 → N σ7 H7 → ∃ m, m < n ∧ ∃ i σ' H', Inv X pins σ' H' s7 ∧ tn i s7.heap ∧ (∀ b ∈ fp, H' b = none) ∧ W i m σ' H' := fun {σ7 H7} I7 n7 => by
      obtain ⟨m', hm, w7⟩ := hN σ7 H7 n7
      refine ⟨m', hm, i + 1, σ7, H7, I7.unpinned, T.keep _ _ _ st5 fun b hb o e => (I7.pin (b, o) (List.mem_append_right _ (List.mem_append_right _ (mem_pinsAt hb e)))).1, fun b hb => ?_, w7⟩
      obtain ⟨o, e, d⟩ := T.obj _ _ st5 b hb
      exact (I7.pin (b, o) (List.mem_append_right _ (List.mem_append_right _ (mem_pinsAt hb e)))).2.1
    cases f with
    | next => obtain ⟨σ7, H7, I7, n7⟩ := q7; exact again I7 n7
    | cont => obtain ⟨σ7, H7, I7, n7⟩ := q7; exact again I7 n7
    | brk => obtain ⟨σ7, H7, I7, q7⟩ := q7; exact ⟨σ7, H7, I7.unpinned, q7⟩
    | ret v => obtain ⟨x7, σ7, H7, I7, r7, q7⟩ := q7; exact ⟨x7, σ7, H7, I7.unpinned, r7, q7⟩
end

theorem for_list {K : PySem.W.Frag} {a : Addr} {xs : List V} {g : TG} {tb : TS} {D : Ends} {σ : St} {H : Hp} (Pv : Nat → St → Hp → Prop) (h0 : Pv 0 σ H) (hl : ∀ i σ H, i ≤ xs.length → Pv i σ H → SqL K H a xs)
    (hs : ∀ i x σ H, xs[i]? = some x → Pv i σ H → g x σ H fun σ2 H2 => tb { D with nx := Pv (i + 1), ct := Pv (i + 1), bk := D.nx } σ2 H2) (hd : ∀ σ H, Pv xs.length σ H → D.nx σ H) :
    ∃ W : Nat → Nat → St → Hp → Prop, (∃ m, W 0 m σ H) ∧ ∀ i m σ H, W i m σ H →
      ((Itl K a).stop i H ∧ D.nx σ H) ∨ ((Itl K a).go i H ∧ ∃ N : St → Hp → Prop, (∀ σ' H', N σ' H' → ∃ m', m' < m ∧ W (i + 1) m' σ' H') ∧ ∀ x H', (Itl K a).yld i H x H' → g x σ H' fun σ2 H2 => tb { D with nx := N, ct := N, bk := D.nx } σ2 H2) := by
  refine ⟨fun i m σ H => m = xs.length - i ∧ i ≤ xs.length ∧ Pv i σ H, ⟨xs.length, by simp, Nat.zero_le _, h0⟩, ?_⟩
  rintro i m σ H ⟨rfl, hi, p⟩
  have q := hl i σ H hi p
  by_cases hlt : i < xs.length
  · refine .inr ⟨⟨xs, xs[i], q, by simp [hlt]⟩, Pv (i + 1), fun σ' H' p' => ⟨xs.length - (i + 1), by omega, rfl, hlt, p'⟩, fun x H' y => ?_⟩
    obtain ⟨e, y⟩ := y
    subst e
    exact hs i x σ _ (y xs q) p
  · have e : i = xs.length := by omega
    subst e
    exact .inl ⟨⟨xs, q, Nat.le_refl _⟩, hd σ H p⟩
theorem for_range {lo : Int} {n : Nat} {g : TG} {tb : TS} {D : Ends} {σ : St} {H : Hp} (Pv : Nat → St → Hp → Prop) (h0 : Pv 0 σ H)
    (hs : ∀ i σ H, i < n → Pv i σ H → g (.int (lo + i)) σ H fun σ2 H2 => tb { D with nx := Pv (i + 1), ct := Pv (i + 1), bk := D.nx } σ2 H2) (hd : ∀ σ H, Pv n σ H → D.nx σ H) :
    ∃ W : Nat → Nat → St → Hp → Prop, (∃ m, W 0 m σ H) ∧ ∀ i m σ H, W i m σ H →
      ((Itr lo n).stop i H ∧ D.nx σ H) ∨ ((Itr lo n).go i H ∧ ∃ N : St → Hp → Prop, (∀ σ' H', N σ' H' → ∃ m', m' < m ∧ W (i + 1) m' σ' H') ∧ ∀ x H', (Itr lo n).yld i H x H' → g x σ H' fun σ2 H2 => tb { D with nx := N, ct := N, bk := D.nx } σ2 H2) := by
  refine ⟨fun i m σ H => m = n - i ∧ i ≤ n ∧ Pv i σ H, ⟨n, by simp, Nat.zero_le _, h0⟩, ?_⟩
  rintro i m σ H ⟨rfl, hi, p⟩
  by_cases hlt : i < n
  · refine .inr ⟨hlt, Pv (i + 1), fun σ' H' p' => ⟨n - (i + 1), by omega, rfl, hlt, p'⟩, fun x H' y => ?_⟩
    obtain ⟨e, y⟩ := y
    subst e y
    exact hs i σ _ hlt p
  · have e : i = n := by omega
    subst e
    exact .inl ⟨Nat.le_refl _, hd σ H p⟩
end L2

namespace L2
open PySem PySem.Spec PyProof.Rows

abbrev R2 := V → V → Hp → VK → Prop
def OpR (X : Cx) (f : Value → Value → Sem Value) (r : R2) : Prop :=
  ∀ (pins : List (Addr × Obj)) (s : Shared) (σ : St) (H : Hp) (x y : V) (v u : Value) (Q : VK), Inv X pins σ H s → RelV x v → RelV y u → r x y H Q →
    wpAny (model X.prog X.w) X.A (f v u) (EP X pins σ Q) X.xe s
def UnR (X : Cx) (f : Value → Sem Value) (r : V → Hp → VK → Prop) : Prop :=
  ∀ (pins : List (Addr × Obj)) (s : Shared) (σ : St) (H : Hp) (x : V) (v : Value) (Q : VK), Inv X pins σ H s → RelV x v → r x H Q →
    wpAny (model X.prog X.w) X.A (f v) (EP X pins σ Q) X.xe s
def CallR (X : Cx) (f : Value) (r : List V → Hp → VK → Prop) : Prop :=
  ∀ (pins : List (Addr × Obj)) (s : Shared) (σ : St) (H : Hp) (xs : List V) (us : List Value) (Q : VK), Inv X pins σ H s → Vals xs us → r xs H Q →
    wpAny (model X.prog X.w) X.A (call f us) (EP X pins σ Q) X.xe s

def tOp (r : R2) (ta tb : TE) : TE := fun σ H Q => ta σ H fun x H1 => tb σ H1 fun y H2 => r x y H2 Q
def tUn (r : V → Hp → VK → Prop) (ta : TE) : TE := fun σ H Q => ta σ H fun x H1 => r x H1 Q
def rI (C : Int → Int → Prop) (g : Int → Int → V) : R2 := fun x y H Q => ∃ i j, x = .int i ∧ y = .int j ∧ C i j ∧ Q (g i j) H
def rI0 (g : Int → Int → V) : R2 := fun x y H Q => ∃ i j, x = .int i ∧ y = .int j ∧ Q (g i j) H
def rU (g : Int → V) : V → Hp → VK → Prop := fun x H Q => ∃ i, x = .int i ∧ Q (g i) H

section
variable {X : Cx} {a b c : Expr} {ta tb tc : TE} {pos : Pos}

theorem binT (ha : PE X a ta) (hb : PE X b tb) {pins : List (Addr × Obj)} {s : Shared} {σ : St} {H : Hp} {R : V → V → Hp → Prop} (I : Inv X pins σ H s)
    (h : ta σ H fun x H1 => tb σ H1 fun y H2 => R x y H2) {Q : Value → Shared → Prop} {f : Value → Value → Sem Value}
    (hf : ∀ v u s2 x y H2, Inv X pins σ H2 s2 → RelV x v → RelV y u → R x y H2 → wpAny (model X.prog X.w) X.A (f v u) Q X.xe s2) :
    wpAny (model X.prog X.w) X.A (eval a X.env) (fun v s₁ => wpAny (model X.prog X.w) X.A (eval b X.env) (fun u s₂ => wpAny (model X.prog X.w) X.A (f v u) Q X.xe s₂) X.xe s₁) X.xe s := by
  refine thn (ha pins s σ H _ I h) fun v s1 ⟨x, H1, I1, r1, q1⟩ => ?_
  refine thn (hb pins s1 σ H1 _ I1 q1) fun u s2 ⟨y, H2, I2, r2, q2⟩ => ?_
  exact hf v u s2 x y H2 I2 r1 r2 q2

theorem pe_op {op : Operator} {r : R2} (ho : OpR X (binaryOp op) r) (ha : PE X a ta) (hb : PE X b tb) : PE X (.BinOp a op b pos) (tOp r ta tb) := by
  intro pins s σ H Q I h
  exact wpAny_BinOp (binT ha hb I h fun v u s2 x y H2 I2 rx ry q => ho pins s2 σ H2 x y v u Q I2 rx ry q)
theorem pe_un {op : UnaryOp} {r : V → Hp → VK → Prop} (ho : UnR X (unaryOp op) r) (ha : PE X a ta) : PE X (.UnaryOp op a pos) (tUn r ta) := by
  intro pins s σ H Q I h
  exact UnaryOp_ (thn (ha pins s σ H _ I h) fun v s1 ⟨x, H1, I1, r1, q1⟩ => ho pins s1 σ H1 x v Q I1 r1 q1)

theorem opI {f : Value → Value → Sem Value} {C : Int → Int → Prop} {g : Int → Int → Int}
    (rule : ∀ (i j : Int) (t u : Tok) (s : Shared) (Q : Value → Shared → Prop) (E : Value → Shared → Prop), C i j → Q (.int (g i j) s.toks) { s with toks := s.toks + 1 } → wpAny (model X.prog X.w) X.A (f (.int i t) (.int j u)) Q E s) :
    OpR X f (rI C fun i j => .int (g i j)) := by
  intro pins s σ H x y v u Q I rx ry h
  obtain ⟨i, j, rfl, rfl, hc, q⟩ := h
  obtain ⟨t, rfl⟩ := rx
  obtain ⟨t', rfl⟩ := ry
  exact rule i j t t' s _ _ hc ⟨.int (g i j), H, I.tok _, ⟨_, rfl⟩, q⟩
theorem opI0 {f : Value → Value → Sem Value} {g : Int → Int → Int}
    (rule : ∀ (i j : Int) (t u : Tok) (s : Shared) (Q : Value → Shared → Prop) (E : Value → Shared → Prop), Q (.int (g i j) s.toks) { s with toks := s.toks + 1 } → wpAny (model X.prog X.w) X.A (f (.int i t) (.int j u)) Q E s) :
    OpR X f (rI0 fun i j => .int (g i j)) := by
  intro pins s σ H x y v u Q I rx ry h
  obtain ⟨i, j, rfl, rfl, q⟩ := h
  obtain ⟨t, rfl⟩ := rx
  obtain ⟨t', rfl⟩ := ry
  exact rule i j t t' s _ _ ⟨.int (g i j), H, I.tok _, ⟨_, rfl⟩, q⟩
theorem opB0 {f : Value → Value → Sem Value} {g : Int → Int → Bool}
    (rule : ∀ (i j : Int) (t u : Tok) (s : Shared) (Q : Value → Shared → Prop) (E : Value → Shared → Prop), Q (.bool (g i j)) s → wpAny (model X.prog X.w) X.A (f (.int i t) (.int j u)) Q E s) :
    OpR X f (rI0 fun i j => .bl (g i j)) := by
  intro pins s σ H x y v u Q I rx ry h
  obtain ⟨i, j, rfl, rfl, q⟩ := h
  obtain ⟨t, rfl⟩ := rx
  obtain ⟨t', rfl⟩ := ry
  exact rule i j t t' s _ _ ⟨.bl (g i j), H, I, rfl, q⟩

def CDiv (i j : Int) : Prop := 0 < j ∧ j < 1073741824
def CPow (i j : Int) : Prop := 0 ≤ j ∧ j ≤ 1000000 ∧ i.natAbs < 2 ^ 64
def CMul (i j : Int) : Prop := (-(2 ^ 64) < i ∧ i < 2 ^ 64) ∨ (-(2 ^ 64) < j ∧ j < 2 ^ 64)
theorem CMul.ok {i j : Int} (h : CMul i j) : IntMulOk i j := by
  rcases h with ⟨h1, h2⟩ | ⟨h1, h2⟩
  · exact .of_left (intBits_le_64 h1 h2)
  · exact .of_right (intBits_le_64 h1 h2)

theorem op_add : OpR X (binaryOp .Add) (rI0 fun i j => .int (i + j)) := opI0 fun _ _ _ _ _ _ _ q => add_int q
theorem op_sub : OpR X (binaryOp .Sub) (rI0 fun i j => .int (i - j)) := opI0 fun _ _ _ _ _ _ _ q => sub_int q
theorem op_mul : OpR X (binaryOp .Mult) (rI CMul fun i j => .int (i * j)) := opI fun _ _ _ _ _ _ _ hc q => mul_int q hc.ok
theorem op_fdiv : OpR X (binaryOp .FloorDiv) (rI CDiv fun i j => .int (i / j)) := opI fun i j _ _ _ _ _ hc q => by
  have h1 : (0 : Int) < j := hc.1
  have h2 : j < 1073741824 := hc.2
  exact floordiv_int (by omega) (by rw [Int.fdiv_eq_ediv_of_nonneg i (by omega)]; exact q) (.inl (PyProof.noPylong_small (by omega)))
theorem op_mod : OpR X (binaryOp .Mod) (rI (fun _ j => 0 < j) fun i j => .int (i % j)) := opI fun i j _ _ _ _ _ hc q => by
  have h1 : (0 : Int) < j := hc
  exact mod_int' (by omega) (by rw [Int.fmod_eq_emod_of_nonneg i (by omega)]; exact q)
theorem op_pow : OpR X (binaryOp .Pow) (rI CPow fun i j => .int (i ^ j.toNat)) := opI fun _ _ _ _ _ _ _ hc q => pow_int_small hc.1 hc.2.1 hc.2.2 q


theorem unI {f : Value → Sem Value} {g : Int → Int}
    (rule : ∀ (i : Int) (t : Tok) (s : Shared) (Q : Value → Shared → Prop) (E : Value → Shared → Prop), Q (.int (g i) s.toks) { s with toks := s.toks + 1 } → wpAny (model X.prog X.w) X.A (f (.int i t)) Q E s) :
    UnR X f (rU fun i => .int (g i)) := by
  intro pins s σ H x v Q I rx h
  obtain ⟨i, rfl, q⟩ := h
  obtain ⟨t, rfl⟩ := rx
  exact rule i t s _ _ ⟨.int (g i), H, I.tok _, ⟨_, rfl⟩, q⟩
theorem un_neg : UnR X (unaryOp .USub) (rU fun i => .int (-i)) := unI fun _ _ _ _ _ q => neg_int q

end

def scal : V → V → Bool
  | .non, .non => true | .non, .int _ => true | .int _, .non => true | .non, .bl _ => true | .bl _, .non => true | .non, .str _ => true | .str _, .non => true
  | .int _, .int _ => true | .bl _, .bl _ => true | .str _, .str _ => true | .byt _, .byt _ => true
  | .int _, .str _ => true | .str _, .int _ => true | .bl _, .str _ => true | .str _, .bl _ => true
  | _, _ => false
def rEq : R2 := fun x y H Q => scal x y = true ∧ Q (.bl (decide (x = y))) H
def rNe : R2 := fun x y H Q => scal x y = true ∧ Q (.bl (!decide (x = y))) H

theorem dec_int {i j : Int} : decide (V.int i = V.int j) = (i == j) := by
  rw [Bool.eq_iff_iff]
  simp
theorem dec_bl {i j : Bool} : decide (V.bl i = V.bl j) = (i == j) := by
  rw [Bool.eq_iff_iff]
  simp
theorem dec_str {i j : Str} : decide (V.str i = V.str j) = (i == j) := by
  rw [Bool.eq_iff_iff]
  simp
theorem dec_byt {i j : Array UInt8} : decide (V.byt i = V.byt j) = (i.toList == j.toList) := by
  rw [Bool.eq_iff_iff]
  cases i
  cases j
  simp

section
variable {X : Cx} {a b c : Expr} {ta tb tc : TE} {pos : Pos}
theorem fin_bl {pins : List (Addr × Obj)} {σ : St} {H : Hp} {s : Shared} {Q : VK} {k k' : Bool} (I : Inv X pins σ H s) (q : Q (.bl k) H) (e : k = k') : EP X pins σ Q (.bool k') s := by
  subst e
  exact ⟨.bl k, H, I, rfl, q⟩
theorem op_eq : OpR X (compareOp .Eq) rEq := by
  intro pins s σ H x y v u Q I rx ry h
  obtain ⟨hs, q⟩ := h
  cases x with
  | non =>
    cases rx
    cases y with
    | non => cases ry; exact PySem.EqNone.eq_none_none (fin_bl I q (by simp))
    | bl j => cases ry; exact PySem.EqNone.eq_none_bool (fin_bl I q (by simp))
    | int j => obtain ⟨t', rfl⟩ := ry; exact PySem.EqNone.eq_none_int (fin_bl I q (by simp))
    | str j => obtain ⟨t', rfl⟩ := ry; exact PySem.EqNone.eq_none_str (fin_bl I q (by simp))
    | _ => exact absurd (show false = true from hs) Bool.false_ne_true
  | bl i =>
    cases rx
    cases y with
    | non => cases ry; exact PySem.EqNone.eq_bool_none (fin_bl I q (by simp))
    | bl j => cases ry; exact eq_bool (fin_bl I q dec_bl)
    | str j => obtain ⟨t', rfl⟩ := ry; exact PySem.EqMixed.eq_bool_str (fin_bl I q (by simp))
    | _ => exact absurd (show false = true from hs) Bool.false_ne_true
  | int i =>
    obtain ⟨t, rfl⟩ := rx
    cases y with
    | non => cases ry; exact PySem.EqNone.eq_int_none (fin_bl I q (by simp))
    | int j => obtain ⟨t', rfl⟩ := ry; exact eq_int (fin_bl I q dec_int)
    | str j => obtain ⟨t', rfl⟩ := ry; exact PySem.EqMixed.eq_int_str (fin_bl I q (by simp))
    | _ => exact absurd (show false = true from hs) Bool.false_ne_true
  | str i =>
    obtain ⟨t, rfl⟩ := rx
    cases y with
    | non => cases ry; exact PySem.EqNone.eq_str_none (fin_bl I q (by simp))
    | bl j => cases ry; exact PySem.EqMixed.eq_str_bool (fin_bl I q (by simp))
    | int j => obtain ⟨t', rfl⟩ := ry; exact PySem.EqMixed.eq_str_int (fin_bl I q (by simp))
    | str j => obtain ⟨t', rfl⟩ := ry; exact eq_str (fin_bl I q dec_str)
    | _ => exact absurd (show false = true from hs) Bool.false_ne_true
  | byt i =>
    obtain ⟨t, rfl⟩ := rx
    cases y with
    | byt j => obtain ⟨t', rfl⟩ := ry; exact PySem.W.eq_bytes (fin_bl I q dec_byt)
    | _ => exact absurd (show false = true from hs) Bool.false_ne_true
  | _ => cases y <;> exact absurd (show false = true from hs) Bool.false_ne_true
theorem op_ne : OpR X (compareOp .NotEq) rNe := by
  intro pins s σ H x y v u Q I rx ry h
  obtain ⟨hs, q⟩ := h
  cases x with
  | non =>
    cases rx
    cases y with
    | non => cases ry; exact PySem.EqNone.ne_none_none (fin_bl I q (by simp))
    | bl j => cases ry; exact PySem.EqNone.ne_none_bool (fin_bl I q (by simp))
    | int j => obtain ⟨t', rfl⟩ := ry; exact PySem.EqNone.ne_none_int (fin_bl I q (by simp))
    | str j => obtain ⟨t', rfl⟩ := ry; exact PySem.EqNone.ne_none_str (fin_bl I q (by simp))
    | _ => exact absurd (show false = true from hs) Bool.false_ne_true
  | bl i =>
    cases rx
    cases y with
    | non => cases ry; exact PySem.EqNone.ne_bool_none (fin_bl I q (by simp))
    | bl j => cases ry; exact ne_bool (fin_bl I q (congrArg not dec_bl))
    | str j => obtain ⟨t', rfl⟩ := ry; exact PySem.EqMixed.ne_bool_str (fin_bl I q (by simp))
    | _ => exact absurd (show false = true from hs) Bool.false_ne_true
  | int i =>
    obtain ⟨t, rfl⟩ := rx
    cases y with
    | non => cases ry; exact PySem.EqNone.ne_int_none (fin_bl I q (by simp))
    | int j => obtain ⟨t', rfl⟩ := ry; exact ne_int (fin_bl I q (congrArg not dec_int))
    | str j => obtain ⟨t', rfl⟩ := ry; exact PySem.EqMixed.ne_int_str (fin_bl I q (by simp))
    | _ => exact absurd (show false = true from hs) Bool.false_ne_true
  | str i =>
    obtain ⟨t, rfl⟩ := rx
    cases y with
    | non => cases ry; exact PySem.EqNone.ne_str_none (fin_bl I q (by simp))
    | bl j => cases ry; exact PySem.EqMixed.ne_str_bool (fin_bl I q (by simp))
    | int j => obtain ⟨t', rfl⟩ := ry; exact PySem.EqMixed.ne_str_int (fin_bl I q (by simp))
    | str j => obtain ⟨t', rfl⟩ := ry; exact ne_str (fin_bl I q (congrArg not dec_str))
    | _ => exact absurd (show false = true from hs) Bool.false_ne_true
  | byt i =>
    obtain ⟨t, rfl⟩ := rx
    cases y with
    | byt j => obtain ⟨t', rfl⟩ := ry; exact PySem.W.ne_bytes (fin_bl I q (congrArg not dec_byt))
    | _ => exact absurd (show false = true from hs) Bool.false_ne_true
  | _ => cases y <;> exact absurd (show false = true from hs) Bool.false_ne_true

theorem op_lt : OpR X (compareOp .Lt) (rI0 fun i j => .bl (decide (i < j))) := opB0 fun _ _ _ _ _ _ _ q => lt_int q
theorem op_le : OpR X (compareOp .LtE) (rI0 fun i j => .bl (decide (i ≤ j))) := opB0 fun _ _ _ _ _ _ _ q => le_int q
theorem op_gt : OpR X (compareOp .Gt) (rI0 fun i j => .bl (decide (j < i))) := opB0 fun _ _ _ _ _ _ _ q => gt_int q
theorem op_ge : OpR X (compareOp .GtE) (rI0 fun i j => .bl (decide (j ≤ i))) := opB0 fun _ _ _ _ _ _ _ q => ge_int q
theorem op_in_str : OpR X (compareOp .In) (fun x y H Q => ∃ i j, x = .str i ∧ y = .str j ∧ Q (.bl (!(Builtin.Str.occurrences j i 0 j.length 1).isEmpty)) H) := by
  intro pins s σ H x y v u Q I rx ry h
  obtain ⟨i, j, rfl, rfl, q⟩ := h
  obtain ⟨t, rfl⟩ := rx
  obtain ⟨t', rfl⟩ := ry
  exact in_str (fin_bl I q rfl)

theorem op_isN : OpR X (compareOp .Is) (fun x y H Q => y = .non ∧ Q (.bl (decide (x = .non))) H) := by
  intro pins s σ H x y v u Q I rx ry h
  obtain ⟨rfl, q⟩ := h
  cases ry
  refine is_none_gen (fin_bl I q ?_)
  cases x <;> first
    | (cases rx; rfl)
    | (obtain ⟨t, rfl⟩ := rx; rfl)
theorem op_notN : OpR X (compareOp .IsNot) (fun x y H Q => y = .non ∧ Q (.bl (!decide (x = .non))) H) := by
  intro pins s σ H x y v u Q I rx ry h
  obtain ⟨rfl, q⟩ := h
  cases ry
  refine isnot_none_gen (fin_bl I q ?_)
  cases x <;> first
    | (cases rx; rfl)
    | (obtain ⟨t, rfl⟩ := rx; rfl)

theorem op_notin_str : OpR X (compareOp .NotIn) (fun x y H Q => ∃ i j, x = .str i ∧ y = .str j ∧ Q (.bl (!(!(Builtin.Str.occurrences j i 0 j.length 1).isEmpty))) H) := by
  intro pins s σ H x y v u Q I rx ry h
  obtain ⟨i, j, rfl, rfl, q⟩ := h
  obtain ⟨t, rfl⟩ := rx
  obtain ⟨t', rfl⟩ := ry
  exact notIn_str (fin_bl I q rfl)

theorem OpR.or {f : Value → Value → Sem Value} {r r' : R2} (h : OpR X f r) (h' : OpR X f r') : OpR X f (fun x y H Q => r x y H Q ∨ r' x y H Q) := by
  intro pins s σ H x y v u Q I rx ry q
  rcases q with q | q
  · exact h pins s σ H x y v u Q I rx ry q
  · exact h' pins s σ H x y v u Q I rx ry q

theorem nomark (b : Expr) {op : CmpOp} (h : op ≠ .In := by decide) (h2 : op ≠ .NotIn := by decide) : behindInMarks op b = false := by
  have e1 : (op == CmpOp.In) = false := by cases op <;> first | rfl | exact absurd rfl h
  have e2 : (op == CmpOp.NotIn) = false := by cases op <;> first | rfl | exact absurd rfl h2
  cases b <;> simp [behindInMarks, e1, e2]
theorem pe_cmpR {op : CmpOp} {r : R2} (ho : OpR X (compareOp op) r) (ha : PE X a ta) (hb : PE X b tb) (hm : behindInMarks op b = false) : PE X (.Compare a [op] [b] pos) (tOp r ta tb) := by
  intro pins s σ H Q I h
  exact wpAny_Compare1 (binT ha hb I h fun v u s2 x y H2 I2 rx ry q => ho pins s2 σ H2 x y v u Q I2 rx ry q) hm
def tTest (t : TE) : TT := fun σ H Q => t σ H fun x H' => ∃ k, x = .bl k ∧ Q k H'
theorem pt_cmpR {op : CmpOp} {r : R2} (ho : OpR X (compareOp op) r) (ha : PE X a ta) (hb : PE X b tb) (hm : behindInMarks op b = false) : PT X (.Compare a [op] [b] pos) (tTest (tOp r ta tb)) := by
  intro pins s σ H Q I h
  refine wpAny_isTrue_Compare1 (thn (ha pins s σ H _ I h) fun v s1 ⟨x, H1, I1, r1, q1⟩ => thn (hb pins s1 σ H1 _ I1 q1) fun u s2 ⟨y, H2, I2, r2, q2⟩ =>
    thn (ho pins s2 σ H2 x y v u _ I2 r1 r2 q2) fun c s3 ⟨z, H3, I3, r3, k, e, q3⟩ => ?_) hm
  subst e
  cases r3
  exact wpAny_truthy_bool ⟨H3, I3, q3⟩
def tChain (r r' : R2) (ta tb tc : TE) : TE := fun σ H Q => ta σ H fun x H1 => tb σ H1 fun y H2 => r x y H2 fun z H3 => ∃ k, z = .bl k ∧
  (if k = true then tc σ H3 fun w' H4 => r' y w' H4 Q else Q (.bl false) H3)
theorem pe_chain {op op' : CmpOp} {r r' : R2} (ho : OpR X (compareOp op) r) (ho' : OpR X (compareOp op') r') (ha : PE X a ta) (hb : PE X b tb) (hc : PE X c tc)
    (hm : lastMarks [op, op'] [b, c] = false := by with_unfolding_all rfl) : PE X (.Compare a [op, op'] [b, c] pos) (tChain r r' ta tb tc) := by
  intro pins s σ H Q I h
  refine Compare_chain (thn (ha pins s σ H _ I h) fun v s1 ⟨x, H1, I1, r1, q1⟩ => chain_link (thn (hb pins s1 σ H1 _ I1 q1) fun u s2 ⟨y, H2, I2, r2, q2⟩ =>
    thn (ho pins s2 σ H2 x y v u _ I2 r1 r2 q2) fun d s3 ⟨z, H3, I3, r3, k, e, q3⟩ => ?_)) hm
  subst e
  cases r3
  refine wpAny_truthy_bool ?_
  cases k with
  | false => exact ite_ff ⟨.bl false, H3, I3, rfl, q3⟩
  | true => exact ite_tt (chain_last (thn (hc pins s3 σ H3 _ I3 q3) fun w' s4 ⟨z', H4, I4, r4, q4⟩ => ho' pins s4 σ H4 y z' u w' Q I4 r2 r4 q4))
theorem pt_chain {op op' : CmpOp} {r r' : R2} (ho : OpR X (compareOp op) r) (ho' : OpR X (compareOp op') r') (ha : PE X a ta) (hb : PE X b tb) (hc : PE X c tc)
    (hm : lastMarks [op, op'] [b, c] = false := by with_unfolding_all rfl) : PT X (.Compare a [op, op'] [b, c] pos) (tTest (tChain r r' ta tb tc)) := by
  intro pins s σ H Q I h
  refine isTrue_chain (thn (ha pins s σ H _ I h) fun v s1 ⟨x, H1, I1, r1, q1⟩ => test_link (thn (hb pins s1 σ H1 _ I1 q1) fun u s2 ⟨y, H2, I2, r2, q2⟩ =>
    thn (ho pins s2 σ H2 x y v u _ I2 r1 r2 q2) fun d s3 ⟨z, H3, I3, r3, k, e, q3⟩ => ?_)) hm
  subst e
  cases r3
  refine wpAny_truthy_bool ?_
  cases k with
  | false =>
    obtain ⟨k', e', q'⟩ := q3
    cases e'
    exact ite_ff ⟨H3, I3, q'⟩
  | true =>
    refine ite_tt (test_last (thn (hc pins s3 σ H3 _ I3 q3) fun w' s4 ⟨z', H4, I4, r4, q4⟩ => thn (ho' pins s4 σ H4 y z' u w' _ I4 r2 r4 q4) fun d' s5 ⟨z2, H5, I5, r5, k2, e2, q5⟩ => ?_))
    subst e2
    cases r5
    exact wpAny_truthy_bool ⟨H5, I5, q5⟩

theorem line63 : (sizeLine : Nat) < 2 ^ 63 := by rw [sizeLine_eq]; decide

theorem op_add_str : OpR X (binaryOp .Add) (fun x y H Q => ∃ i j, x = .str i ∧ y = .str j ∧ i.length + j.length ≤ sizeLine ∧ Q (.str (i ++ j)) H) := by
  intro pins s σ H x y v u Q I rx ry h
  obtain ⟨i, j, rfl, rfl, hz, q⟩ := h
  obtain ⟨t, rfl⟩ := rx
  obtain ⟨t', rfl⟩ := ry
  exact add_str (fun t' tk => ⟨.str (i ++ j), H, I.tok _, ⟨_, rfl⟩, q⟩) hz


theorem vals1 {x : V} {us : List Value} (r : Vals [x] us) : ∃ u, us = [u] ∧ RelV x u := by
  cases r with
  | cons r1 r2 => cases r2; exact ⟨_, rfl, r1⟩
theorem vals2 {x y : V} {us : List Value} (r : Vals [x, y] us) : ∃ u w', us = [u, w'] ∧ RelV x u ∧ RelV y w' := by
  cases r with
  | cons r1 r2 =>
    cases r2 with
    | cons r3 r4 => cases r4; exact ⟨_, _, rfl, r1, r3⟩
end
end L2

namespace L2
open PySem PySem.Spec PyProof.Rows

structure ObjM (h : Heap) (x dx C : Addr) (mA : Str → Option Value) : Prop where
  obj : h.get? x = some (PySem.W.instObj C dx)
  ns : h.Ns1 dx mA
  ne : dx ≠ x

theorem lookIn_ns {h : Heap} {dx : Addr} {mA : Str → Option Value} (n : h.Ns1 dx mA) : ∃ od, h.get? dx = some od ∧ ∀ name, PySem.W.lookIn name od = some (mA name) := by
  obtain ⟨o, es, ep, ho, hd, hk, _, hm⟩ := n
  refine ⟨o, ho, fun name => ?_⟩
  have e := hm name
  unfold nsFind findBy at e
  rw [← Array.find?_toList] at e
  unfold PySem.W.lookIn
  rw [hd]
  dsimp only
  split
  · rename_i y q
    rw [q] at e
    exact congrArg some e
  · rename_i q
    rw [q] at e
    have a : es.toList.any (·.refKey) = false := by
      rw [List.any_eq_false]
      intro y hy
      obtain ⟨z, t, hkey⟩ := hk y (Array.mem_toList_iff.mp hy)
      simp [DictEntry.refKey, hkey]
    have a' : ¬ es.toList.any (·.refKey) = true := by rw [a]; exact Bool.false_ne_true
    rw [if_neg a']
    exact congrArg some e

theorem ObjM.look {h : Heap} {x dx C : Addr} {mA : Str → Option Value} (I : ObjM h x dx C mA) : ∃ od, PySem.W.InstAt h x (PySem.W.instObj C dx) C (some od) ∧ ∀ name, PySem.W.lookIn name od = some (mA name) :=
  let ⟨od, ho, hl⟩ := lookIn_ns I.ns
  ⟨od, ⟨I.obj, rfl, rfl, ho⟩, hl⟩

section
variable {prog : Program} {w : World} {A : Around} {E : Value → Shared → Prop} {s : Shared} {K : PySem.W.Frag} {x dx C f : Addr} {mA : Str → Option Value} {name : Str} {v : Value}

theorem get_map {expr : Bool} {Q : Value → Shared → Prop} (X : K.In s.heap) (I : ObjM s.heap x dx C mA) (hg : PySem.W.plainGet K C name = true) (hh : PySem.W.hasDictIn K C = true)
    (ha : PySem.W.findIn K (.ref C) name = some none) (hv : mA name = some v) (hv' : PySem.W.handedIn v = true) (h : Q v { s with toks := s.toks + 1 }) :
    wpAny (model prog w) A (getAttr (.ref x) name expr) Q E s := by
  obtain ⟨od, J, hl⟩ := I.look
  exact PySem.W.get_value X J (PySem.W.plainGet_of hg).1 (PySem.W.findObj_own hh ha rfl (by rw [hl, hv])) hv' h


theorem get_meth {pl : Sem Bool} {Q : Value × List Value → Shared → Prop} (X : K.In s.heap) (I : ObjM s.heap x dx C mA) (hg : PySem.W.plainGet K C name = true)
    (hf : PySem.W.findIn K (.ref C) name = some (some (.ref f))) (ht : PySem.W.isFn K (.ref f) = true) (hv : mA name = none) (h : Q (.ref f, [.ref x]) s) :
    wpAny (model prog w) A (getMethod (.ref x) name pl) Q E s := by
  obtain ⟨od, J, hl⟩ := I.look
  exact PySem.W.method_fn X J (PySem.W.plainGet_of hg).1 (PySem.W.plainGet_of hg).2 hf (beq_iff_eq.mp ht) (by show (PySem.W.lookIn name od).map (·.isSome) = some false; rw [hl, hv]; rfl) h

theorem set_map {ns : List Str} {Q : Unit → Shared → Prop} (X : K.In s.heap) (I : ObjM s.heap x dx C mA)
    (hs : PySem.W.findIn K (.ref C) "__setattr__" = some (some (.builtin "object.__setattr__"))) (hp : PySem.W.plainOver K C = true) (ht : PySem.W.takerIn K C name = some none) (hh : PySem.W.hasDictIn K C = true)
    (hw : PySem.Within mA ns) (hsz : ns.length ≤ sizeLine)
    (h : ∀ h', ObjM h' x dx C (fun y => if y = name then some v else mA y) → Heap.SameBut dx s.heap h' → Q () { s with heap := h', toks := s.toks + 2 }) :
    wpAny (model prog w) A (setAttr (.ref x) name v) Q E s := by
  obtain ⟨od, J, hl⟩ := I.look
  refine PySem.W.set_plain X J hs (PySem.W.osa_open (s := { s with toks := s.toks + 1 }) (r := none) X J hp ht fun b => ?_)
  obtain ⟨cd, hc, hd'⟩ := PySem.W.any_some hh
  have hx : s.heap.get? x = some ⟨.ref C, some dx, .plain, #[]⟩ := I.obj
  refine wpAny_bind (wpAny_pure (wpAny_bind (wpAny_bind (wpAny_loadPart hx (wpAny_bind (PySem.W.Looks.here (s := { s with toks := s.toks + 1 }) (PySem.W.looks_clsIn X hc) ?_))))))
  rw [hd']
  refine wpAny_pure (a := some dx) (wpAny_bind (wpAny_pure (wpAny_bind ?_)))
  refine wpAny_nsSet1 (s := { s with toks := s.toks + 1 }) I.ns fun h' hn2 hs2 => ?_
  obtain ⟨oD, esD, epD, hoD, hdD, hcD⟩ := hn2.count (PySem.Within.cons name v hw)
  refine wpAny_bind (wpAny_lookBehind hoD (by rw [hdD]; exact pastItsLine_dict (Nat.le_trans hcD (by rw [List.length_cons]; omega))) ?_)
  exact wpAny_pure (h _ ⟨(hs2.2 _ (Ne.symm I.ne)).trans I.obj, hn2, I.ne⟩ hs2)

theorem make_map {R : Result → Shared → Prop} {vs : List Value} {kw : List (Str × Value)} (X : K.In s.heap) (hm : PySem.W.makesIn K C = true)
    (hi : PySem.W.findIn K (.ref C) "__init__" = some (some (.ref f))) (hf : PySem.W.typeIn K (.ref f) = some (.type "function"))
    (h : codeAny (model prog w) (A.under (.builtin "type.__call__" ⟨.ref C :: vs, kw⟩)) (.call (.ref f) ⟨.ref (s.heap.objs.size + 1) :: vs, kw⟩) (PySem.W.InitBack (s.heap.objs.size + 1) R)
      { s with heap := (s.heap.push PySem.W.emptyDict).push (PySem.W.instObj C s.heap.objs.size) }) :
    codeAny (model prog w) A (.call (.ref C) ⟨vs, kw⟩) R s := by
  obtain ⟨hh, g, d, t, os⟩ := s
  exact PySem.W.make_core (PySem.W.makes_of X hm) (PySem.W.looks_findIn X hi) (fun self => PySem.W.bind_fn X self hf) (.inl rfl) h
end

def putF (f : Str) (v : V) : List (Str × V) → List (Str × V)
  | [] => [(f, v)]
  | (g, x) :: r => if g = f then (g, v) :: r else (g, x) :: putF f v r
theorem lookup_putF (f g : Str) (v : V) : ∀ fs : List (Str × V), (putF f v fs).lookup g = if g = f then some v else fs.lookup g
  | [] => by
    show List.lookup g [(f, v)] = _
    by_cases h : g = f
    · have hb : (g == f) = true := beq_iff_eq.mpr h
      simp only [List.lookup, hb, if_pos h]
    · have hb : (g == f) = false := beq_eq_false_iff_ne.mpr h
      simp only [List.lookup, hb, if_neg h]
  | (k, x) :: r => by
    have ih := lookup_putF f g v r
    rw [show putF f v ((k, x) :: r) = (if k = f then (k, v) :: r else (k, x) :: putF f v r) from rfl]
    by_cases hk : k = f
    · rw [if_pos hk]
      by_cases h : g = k
      · have hb : (g == k) = true := beq_iff_eq.mpr h
        simp only [List.lookup, hb, if_pos (h.trans hk)]
      · have hb : (g == k) = false := beq_eq_false_iff_ne.mpr h
        simp only [List.lookup, hb, if_neg (fun e : g = f => h (e.trans hk.symm))]
    · rw [if_neg hk]
      by_cases h : g = k
      · have hb : (g == k) = true := beq_iff_eq.mpr h
        simp only [List.lookup, hb, if_neg (fun e : g = f => hk (h.symm.trans e))]
      · have hb : (g == k) = false := beq_eq_false_iff_ne.mpr h
        simp only [List.lookup, hb]
        exact ih
theorem keys_putF (f : Str) (v : V) : ∀ fs : List (Str × V), f ∈ (putF f v fs).map (·.1) ∧ ∀ g, g ∈ fs.map (·.1) → g ∈ (putF f v fs).map (·.1)
  | [] => ⟨by simp [putF], fun g h => by simp at h⟩
  | (k, x) :: r => by
    obtain ⟨i1, i2⟩ := keys_putF f v r
    rw [show putF f v ((k, x) :: r) = (if k = f then (k, v) :: r else (k, x) :: putF f v r) from rfl]
    by_cases hk : k = f
    · rw [if_pos hk]
      subst hk
      exact ⟨by simp, fun g h => by simpa using h⟩
    · rw [if_neg hk]
      refine ⟨?_, fun g h => ?_⟩
      · rw [List.map_cons]
        exact List.mem_cons_of_mem _ i1
      · rw [List.map_cons] at h ⊢
        rcases List.mem_cons.mp h with e | e
        · exact List.mem_cons.mpr (.inl e)
        · exact List.mem_cons_of_mem _ (i2 g e)
theorem length_putF (f : Str) (v : V) : ∀ fs : List (Str × V), (putF f v fs).length ≤ fs.length + 1
  | [] => by simp [putF]
  | (k, x) :: r => by
    have ih := length_putF f v r
    rw [show putF f v ((k, x) :: r) = (if k = f then (k, v) :: r else (k, x) :: putF f v r) from rfl]
    by_cases hk : k = f
    · rw [if_pos hk, List.length_cons, List.length_cons]; omega
    · rw [if_neg hk, List.length_cons, List.length_cons]; omega

theorem RelO.some_of {v : V} {o : Option Value} (r : RelO (some v) o) : ∃ u, o = some u ∧ RelV v u := by
  cases o with
  | none => exact (show False from r).elim
  | some u => exact ⟨u, rfl, r⟩
theorem RelO.none_of {o : Option Value} (r : RelO none o) : o = none := by
  cases o with
  | none => rfl
  | some u => exact (show False from r).elim
theorem handed_of {v : V} {u : Value} (r : RelV v u) : PySem.W.handedIn u = true := by
  cases v with
  | non => cases (show u = Value.none from r); rfl
  | bl b => cases (show u = Value.bool b from r); rfl
  | int i => obtain ⟨t, e⟩ := (show ∃ t, u = Value.int i t from r); cases e; rfl
  | str x => obtain ⟨t, e⟩ := (show ∃ t, u = Value.str x t from r); cases e; rfl
  | byt b => obtain ⟨t, e⟩ := (show ∃ t, u = Value.bytes b t from r); cases e; rfl
  | flt b => obtain ⟨t, e⟩ := (show ∃ t, u = Value.float b t from r); cases e; rfl
  | ref a => cases (show u = Value.ref a from r); rfl
  | ty n => cases (show u = Value.type n from r); rfl

section
variable {P : Program} {w : World} {H H' : Hp} {h h' : Heap} {a C dx : Addr} {fs fs' : List (Str × V)}
theorem ins_get (hok : HOk P w H h) (e : H a = some (.ins C dx fs)) : ∃ mA, ObjM h a dx C mA ∧ (∀ f, RelO (fs.lookup f) (mA f)) ∧ PySem.Within mA (fs.map (·.1)) ∧ fs.length ≤ 1000 ∧ H dx = some (.own a) := by
  obtain ⟨d, z, ne, ob, mA, n, r, q⟩ := (show ObjOk P w H h a (.ins C dx fs) from hok a _ e)
  exact ⟨mA, ⟨ob, n, ne⟩, r, q, z, d⟩
end

structure Cls (K : PySem.W.Frag) (C : Addr) : Prop where
  pg : PySem.W.plainGet K C Str.empty = true
  hd : PySem.W.hasDictIn K C = true
  po : PySem.W.plainOver K C = true
  sa : PySem.W.findIn K (.ref C) "__setattr__" = some (some (.builtin "object.__setattr__"))
theorem Cls.get {K : PySem.W.Frag} {C : Addr} (c : Cls K C) (f : Str) : PySem.W.plainGet K C f = true := c.pg
def NoAttr (K : PySem.W.Frag) (C : Addr) (f : Str) : Prop := PySem.W.findIn K (.ref C) f = some none
theorem NoAttr.taker {K : PySem.W.Frag} {C : Addr} {f : Str} (n : NoAttr K C f) : PySem.W.takerIn K C f = some none := by
  unfold PySem.W.takerIn
  rw [show PySem.W.findIn K (.ref C) f = some none from n]
  rfl
structure Con (K : PySem.W.Frag) (C : Addr) (f : Str) (v : V) (u : Value) : Prop where
  at_ : PySem.W.findIn K (.ref C) f = some (some u)
  rel : RelV v u
  get : PySem.W.specialIn K u "__get__" = some none
  cp : PySem.W.copiedNames.contains f = false
structure Meth (K : PySem.W.Frag) (C : Addr) (m : Str) (f : Addr) : Prop where
  at_ : PySem.W.findIn K (.ref C) m = some (some (.ref f))
  fn : PySem.W.isFn K (.ref f) = true
  kp : PySem.W.keepIn K (.ref f) = true

section
variable {X : Cx} {pins : List (Addr × Obj)} {σ : St} {H : Hp} {s : Shared} {a C dx : Addr} {fs : List (Str × V)} {f : Str} {v : V} {A : Around} {E : Value → Shared → Prop}

theorem getattr_ok {b : Bool} {Q : Value → Shared → Prop} (I : Inv X pins σ H s) (e : H a = some (.ins C dx fs)) (c : Cls X.K C) (n : NoAttr X.K C f) (l : fs.lookup f = some v)
    (h : ∀ u s', Inv X pins σ H s' → RelV v u → Q u s') : wpAny (model X.prog X.w) A (getAttr (.ref a) f b) Q E s := by
  obtain ⟨mA, O, r, _, _, _⟩ := ins_get I.hok e
  obtain ⟨u, hu, ru⟩ := RelO.some_of (v := v) (o := mA f) (by rw [← l]; exact r f)
  exact get_map I.kIn O (c.get f) c.hd n hu (handed_of ru) (h u _ (I.tok _) ru)


theorem getmeth_ok {m : Str} {g : Addr} {pl : Sem Bool} {Q : Value × List Value → Shared → Prop} (I : Inv X pins σ H s) (e : H a = some (.ins C dx fs)) (c : Cls X.K C) (k : Meth X.K C m g) (l : fs.lookup m = none)
    (h : Q (.ref g, [.ref a]) s) : wpAny (model X.prog X.w) A (getMethod (.ref a) m pl) Q E s := by
  obtain ⟨mA, O, r, _, _, _⟩ := ins_get I.hok e
  have hn : mA m = none := RelO.none_of (by rw [← l]; exact r m)
  exact get_meth I.kIn O (c.get m) k.at_ k.fn hn h

theorem setattr_ok {y : V} {u : Value} {Q : Unit → Shared → Prop} (I : Inv X pins σ H s) (e : H a = some (.ins C dx fs)) (c : Cls X.K C) (n : NoAttr X.K C f) (hl : fs.length < 1000) (ry : RelV y u)
    (h : ∀ s', Inv X pins σ (upd H a (.ins C dx (putF f y fs))) s' → Q () s') : wpAny (model X.prog X.w) A (setAttr (.ref a) f u) Q E s := by
  obtain ⟨mA, O, r, wi, _, ho⟩ := ins_get I.hok e
  have hz : (fs.map (·.1)).length ≤ sizeLine := by rw [List.length_map, sizeLine_eq]; omega
  refine set_map I.kIn O c.sa c.po n.taker c.hd wi hz fun h' O' sb => h _ ?_
  have hd : ∃ o, h'.get? dx = some o := let ⟨o, _, _, e', _⟩ := O'.ns; ⟨o, e'⟩
  refine I.write (x := a) (e := dx) (by rw [e]; exact True.intro) (.inr ho) (fun b q hb z => (sb.2 b hb).trans z) hd ?_
  refine ⟨by rw [upd_ne O.ne]; exact ho, ?_, O.ne, O'.obj, _, O'.ns, fun g => ?_, fun g hg => ?_⟩
  · have := length_putF f y fs; omega
  · show RelO ((putF f y fs).lookup g) (if g = f then some u else mA g)
    rw [lookup_putF]
    by_cases q : g = f
    · rw [if_pos q, if_pos q]; exact ry
    · rw [if_neg q, if_neg q]; exact r g
  · by_cases q : g = f
    · rw [q]; exact (keys_putF f y fs).1
    · refine (keys_putF f y fs).2 g (wi g fun z => hg ?_)
      show (if g = f then some u else mA g) = none
      rw [if_neg q]; exact z

theorem Inv.made (I : Inv X pins σ H s) : Inv X pins σ (upd (upd H s.heap.objs.size (.own (s.heap.objs.size + 1))) (s.heap.objs.size + 1) (.ins C s.heap.objs.size []))
    { s with heap := (s.heap.push PySem.W.emptyDict).push (PySem.W.instObj C s.heap.objs.size) } := by
  have e1 : (s.heap.push PySem.W.emptyDict).get? s.heap.objs.size = some PySem.W.emptyDict := Heap.get?_push_size s.heap rfl
  have e2 : ((s.heap.push PySem.W.emptyDict).push (PySem.W.instObj C s.heap.objs.size)).get? (s.heap.objs.size + 1) = some (PySem.W.instObj C s.heap.objs.size) := by
    have := Heap.get?_push_size (s.heap.push PySem.W.emptyDict) (o := PySem.W.instObj C s.heap.objs.size) rfl
    rwa [Heap.size_push] at this
  have e3 : (s.heap.push PySem.W.emptyDict).Ns s.heap.objs.size (fun _ => none) := ⟨PySem.W.emptyDict, #[], _, e1, rfl, (fun e he => absurd he (by simp)), fun _ => rfl⟩
  have I1 := I.laid (a := s.heap.objs.size) (o := .own (s.heap.objs.size + 1)) (h' := s.heap.push PySem.W.emptyDict) (t' := s.toks) (fun b u q => Heap.get?_push_of_some _ q) (Nat.le_refl _) ⟨_, e1⟩
  refine I1.laid (a := s.heap.objs.size + 1) (o := .ins C s.heap.objs.size []) (t' := s.toks) (fun b u q => Heap.get?_push_of_some _ q) (Nat.le_of_eq (Heap.size_push _ _)) ?_
  have ne : s.heap.objs.size ≠ s.heap.objs.size + 1 := Nat.ne_of_lt (Nat.lt_succ_self _)
  refine ⟨by rw [upd_ne ne, upd_same], Nat.zero_le _, ne, e2, fun _ => none, (Heap.Ns1.of_empty e3).at fun o q => Heap.get?_push_of_some _ q, fun _ => True.intro, fun y hy => absurd rfl hy⟩

theorem attr_of {prog : Program} {w : World} {env : Env} {e : Expr} {f : Str} {pos : Pos} {s : Shared} {Q : Value → Shared → Prop} (hb : attributeBase e f env (eval e env) = eval e env)
    (h : wpAny (model prog w) A (eval e env) (fun o s₁ => wpAny (model prog w) A (getAttr o f true) Q E s₁) E s) : wpAny (model prog w) A (eval (.Attribute e f pos) env) Q E s :=
  Attribute_any_ h (by rw [arm_eval_Attribute, hb])
end

def tFld (K : PySem.W.Frag) (ta : TE) (f : Str) : TE := fun σ H Q => ta σ H fun x H1 => ∃ a C dx fs v, x = .ref a ∧ H1 a = some (.ins C dx fs) ∧ Cls K C ∧ NoAttr K C f ∧ fs.lookup f = some v ∧ Q v H1
def sFld (K : PySem.W.Frag) (ta tv : TE) (f : Str) : TS := fun D σ H => tv σ H fun y H1 => ta σ H1 fun x H2 => ∃ a C dx fs, x = .ref a ∧ H2 a = some (.ins C dx fs) ∧ Cls K C ∧ NoAttr K C f ∧ fs.length < 1000 ∧
  D.nx σ (upd H2 a (.ins C dx (putF f y fs)))
def InOp (X : Cx) (op : Operator) (rd : V → V → Hp → VK → Prop) : Prop :=
  ∀ (pins : List (Addr × Obj)) (s : Shared) (σ : St) (H : Hp) (x y : V) (u v : Value) (Q : VK), Inv X pins σ H s → RelV x u → RelV y v → rd x y H Q → wpAny (model X.prog X.w) X.A (inplaceOp op u v) (EP X pins σ Q) X.xe s
def sFldAug (K : PySem.W.Frag) (ta tv : TE) (rd : V → V → Hp → VK → Prop) (f : Str) : TS := fun D σ H => ta σ H fun x H1 => ∃ a C dx fs v, x = .ref a ∧ H1 a = some (.ins C dx fs) ∧ Cls K C ∧ NoAttr K C f ∧ fs.lookup f = some v ∧
  tv σ H1 fun y H2 => rd v y H2 fun z H3 => ∃ dx' fs', H3 a = some (.ins C dx' fs') ∧ fs'.length < 1000 ∧ D.nx σ (upd H3 a (.ins C dx' (putF f z fs')))

section
variable {X : Cx} {o e value : Expr} {f : Str} {pos pos' tpos : Pos} {ta tv : TE}
theorem pe_fld (he : PE X e ta) (hb : attributeBase e f X.env (eval e X.env) = eval e X.env) : PE X (.Attribute e f pos) (tFld X.K ta f) := by
  intro pins s σ H Q I h
  refine attr_of hb (thn (he pins s σ H _ I h) fun u s1 ⟨x, H1, I1, rx, a, C, dx, fs, v, ex, ea, c, n, l, q⟩ => ?_)
  subst ex
  obtain rfl : u = Value.ref a := rx
  exact getattr_ok I1 ea c n l fun u' s2 I2 ru => ⟨v, H1, I2, ru, q⟩
theorem ps_fld (ha : PE X o ta) (hv : PE X value tv) (hs : swapsWith value (some (.Attribute o f pos')) pos.line X.env = pure false) : PS X (.Assign [.Attribute o f pos'] value pos) (sFld X.K ta tv f) := by
  intro pins s σ H D I h
  refine plainObj_wpAny_Assign_Attribute (thn (hv pins s σ H _ I h) fun u s1 ⟨y, H1, I1, ry, q⟩ => thn (ha pins s1 σ H1 _ I1 q) fun ov s2 ⟨x, H2, I2, rx, a, C, dx, fs, ex, ea, c, n, l, q2⟩ => ?_) hs
  subst ex
  obtain rfl : ov = Value.ref a := rx
  exact setattr_ok I2 ea c n l ry fun s3 I3 => ⟨σ, _, I3, q2⟩
theorem ps_fldaug {op : Operator} {rd : V → V → Hp → VK → Prop} (ha : PE X o ta) (hv : PE X value tv) (hop : InOp X op rd) : PS X (.AugAssign (.Attribute o f tpos) op value pos) (sFldAug X.K ta tv rd f) := by
  intro pins s σ H D I h
  refine wpAny_AugAssign_AttributeAny (thn (ha pins s σ H _ I h) fun ov s1 ⟨x, H1, I1, rx, a, C, dx, fs, v, ex, ea, c, n, l, q⟩ => ?_)
  subst ex
  obtain rfl : ov = Value.ref a := rx
  refine getattr_ok I1 ea c n l fun u s2 I2 ru => thn (hv pins s2 σ H1 _ I2 q) fun w3 s3 ⟨y, H2, I3, ry, q3⟩ => thn (hop pins s3 σ H2 v y u w3 _ I3 ru ry q3) fun w4 s4 ⟨z, H3, I4, rz, dx', fs', ea', l', q4⟩ => ?_
  exact setattr_ok I4 ea' c n l' rz fun s5 I5 => ⟨σ, _, I5, q4⟩
def rAdd : V → V → Hp → VK → Prop := fun x y H Q => ∃ i j, x = .int i ∧ y = .int j ∧ Q (.int (i + j)) H
theorem in_add : InOp X .Add rAdd := by
  rintro pins s σ H x y u v Q I rx ry ⟨i, j, rfl, rfl, q⟩
  obtain ⟨t, rfl⟩ := (show ∃ t, u = Value.int i t from rx)
  obtain ⟨t', rfl⟩ := (show ∃ t', v = Value.int j t' from ry)
  exact PyProof.Rows.iadd_int ⟨.int (i + j), H, I.tok _, ⟨_, rfl⟩, q⟩

end

section
variable {X : Cx} {pins : List (Addr × Obj)} {σ : St} {H : Hp} {s : Shared} {A : Around} {E : Value → Shared → Prop} {Q : Value → Shared → Prop} {c : Value} {b : Bool}
inductive TyOf (K : PySem.W.Frag) (H : Hp) : V → Value → Prop where
  | non : TyOf K H .non (.type "NoneType")
  | bl (x : Bool) : TyOf K H (.bl x) (.type "bool")
  | int (i : Int) : TyOf K H (.int i) (.type "int")
  | str (x : Str) : TyOf K H (.str x) (.type "str")
  | flt (x : UInt64) : TyOf K H (.flt x) (.type "float")
  | lst {a : Addr} {xs : List V} (e : H a = some (.lst xs)) : TyOf K H (.ref a) (.type "list")
  | frz {a : Addr} {o : Obj} {xs : List V} (e : H a = some (.frz o (.lst xs))) : TyOf K H (.ref a) (.type "list")
  | tup {a : Addr} {xs : List V} (e : H a = some (.tup xs)) : TyOf K H (.ref a) (.type "tuple")
  | dK {a : Addr} {kvs : List (Key × V)} (e : H a = some (.dK kvs)) : TyOf K H (.ref a) (.type "dict")
  | dT {a : Addr} {kvs : List (List Key × V)} (e : H a = some (.dT kvs)) : TyOf K H (.ref a) (.type "dict")
  | ins {a C dx : Addr} {fs : List (Str × V)} (e : H a = some (.ins C dx fs)) (cl : Cls K C) (ha : PySem.W.findIn K (.ref C) "__class__" = some (some (.builtin "object.__class__")))
      (hn : PySem.W.specialIn K (.builtin "object.__class__") "__get__" = some (some (.builtin "getset_descriptor.__get__"))) (htk : PySem.W.takesIn K (.builtin "object.__class__") = some true)
      (hm : PySem.W.mroIn K C (.type "object") = some true) : TyOf K H (.ref a) (.ref C)
theorem isinst_ok {x : V} {u t : Value} (I : Inv X pins σ H s) (rx : RelV x u) (ty : TyOf X.K H x t) (e : PySem.W.kitOne X.K t c = some b) (h : ∀ tk, Q (.bool b) { s with toks := tk }) :
    wpAny (model X.prog X.w) A (call (.builtin "isinstance") [u, c]) Q E s := by
  cases ty with
  | non => cases (show u = Value.none from rx); exact PySem.W.kia_one PySem.W.kitx_none I.kIn True.intro e (fun z => nomatch z) h
  | bl y => cases (show u = Value.bool y from rx); exact PySem.W.kia_one PySem.W.kitx_bool I.kIn True.intro e (fun z => nomatch z) h
  | int i => obtain ⟨t, q⟩ := (show ∃ t, u = Value.int i t from rx); cases q; exact PySem.W.kia_one PySem.W.kitx_int I.kIn True.intro e (fun z => nomatch z) h
  | str y => obtain ⟨t, q⟩ := (show ∃ t, u = Value.str y t from rx); cases q; exact PySem.W.kia_one PySem.W.kitx_str I.kIn True.intro e (fun z => nomatch z) h
  | flt y => obtain ⟨t, q⟩ := (show ∃ t, u = Value.float y t from rx); cases q; exact PySem.W.kia_one PySem.W.kitx_float I.kIn True.intro e (fun z => nomatch z) h
  | @lst a xs ea =>
    cases (show u = Value.ref a from rx)
    obtain ⟨_, _, n, _, h1⟩ := (show ObjOk X.prog X.w H s.heap a (.lst xs) from I.hok a _ ea)
    exact PySem.W.kia_one PySem.W.kitx_list I.kIn ⟨_, h1, rfl⟩ e (fun z => nomatch z) h
  | @frz a ob xs ea =>
    cases (show u = Value.ref a from rx)
    obtain ⟨_, _, _, n, _, h1⟩ := (show ObjOk X.prog X.w H s.heap a (.frz ob (.lst xs)) from I.hok a _ ea)
    exact PySem.W.kia_one PySem.W.kitx_list I.kIn ⟨_, h1, rfl⟩ e (fun z => nomatch z) h
  | @tup a xs ea =>
    cases (show u = Value.ref a from rx)
    obtain ⟨_, _, _, p⟩ := (show ObjOk X.prog X.w H s.heap a (.tup xs) from I.hok a _ ea)
    obtain ⟨o, h1, h2, _⟩ := p
    exact PySem.W.kia_one PySem.W.kitx_tuple I.kIn ⟨o, h1, h2⟩ e (fun z => nomatch z) h
  | @dK a kvs ea =>
    cases (show u = Value.ref a from rx)
    obtain ⟨_, _, vs, _, p⟩ := (show ObjOk X.prog X.w H s.heap a (.dK kvs) from I.hok a _ ea)
    obtain ⟨o, es, ep, h1, h2, _⟩ := p
    exact PySem.W.kia_one PySem.W.kitx_dict I.kIn ⟨o, h1, h2.1⟩ e (fun z => nomatch z) h
  | @dT a kvs ea =>
    cases (show u = Value.ref a from rx)
    obtain ⟨_, _, xs, _, o, es, ep, h1, h2, _⟩ := (show ObjOk X.prog X.w H s.heap a (.dT kvs) from I.hok a _ ea)
    exact PySem.W.kia_one PySem.W.kitx_dict I.kIn ⟨o, h1, h2.1⟩ e (fun z => nomatch z) h
  | @ins a C dx fs ea cl ha hn htk hm =>
    cases (show u = Value.ref a from rx)
    obtain ⟨mA, O, _⟩ := ins_get I.hok ea
    obtain ⟨od, J, _⟩ := O.look
    exact PySem.W.kia_one (PySem.W.kitx_own (cl.get _) cl.hd ha hn htk hm) I.kIn J e (fun z => nomatch z) h
end
end L2

namespace L2
open PySem PySem.Spec PyProof.Rows

structure Room (k : Nat) (A : Around) : Prop where
  hd : A.handled = none
  dp : A.depth + 3 * k + 5 < recursionLimit
  un : A.units + 16 * k + 200 < cLine
theorem Room.mono {j k : Nat} {A : Around} (r : Room k A) (h : j ≤ k) : Room j A := ⟨r.hd, by have := r.dp; omega, by have := r.un; omega⟩
theorem Room.deeper {k : Nat} {A : Around} (r : Room (k + 1) A) (env : Env) : Room k (A.deeper env) :=
  ⟨r.hd, by have := r.dp; show A.depth + 1 + 3 * k + 5 < _; omega, by have := r.un; show A.units + 3 + 16 * k + 200 < _; omega⟩
theorem Room.in1 {k : Nat} {A : Around} (r : Room (k + 1) A) : Room k A.in1 :=
  ⟨r.hd, by have := r.dp; show A.depth + 3 * k + 5 < _; omega, by have := r.un; show A.units + 1 + 16 * k + 200 < _; omega⟩
theorem make_depth {A : Around} {C : Addr} {us : List Value} {kw : List (Str × Value)} : (A.under (.builtin "type.__call__" ⟨.ref C :: us, kw⟩)).depth = A.depth + 1 := by
  first | rfl | simp [Around.under, Code.weight, Code.isCreation, Code.isGuard, Code.isCaller, Code.frames, Code.isFrame, guardIds]
theorem make_units {A : Around} {C : Addr} {us : List Value} {kw : List (Str × Value)} : (A.under (.builtin "type.__call__" ⟨.ref C :: us, kw⟩)).units = A.units + 1 := by
  first | rfl | simp [Around.under, Code.cUnits, Code.frames, Code.isFrame]
theorem Room.make {k : Nat} {A : Around} (r : Room (k + 1) A) (C : Addr) (us : List Value) (kw : List (Str × Value)) : Room k (A.under (.builtin "type.__call__" ⟨.ref C :: us, kw⟩)) :=
  ⟨r.hd, by have := r.dp; rw [make_depth]; omega, by have := r.un; rw [make_units]; omega⟩
theorem Room.depth {k : Nat} {A : Around} (r : Room k A) : A.depth < recursionLimit := by have := r.dp; omega
theorem Room.units {k : Nat} {A : Around} (r : Room k A) : A.units + 64 < cLine := by have := r.un; omega

def tNil : TA := fun _ H Q => Q [] H
def tCons (ta : TE) (tr : TA) : TA := fun σ H Q => ta σ H fun x H1 => tr σ H1 fun xs H2 => Q (x :: xs) H2
section
variable {X : Cx} {e : Expr} {es : List Expr} {te : TE} {t : TA} {pos : Pos}
theorem pa_nil : PA X [] tNil := fun _ _ _ _ H Q I h => Calls.spliced_nil ⟨[], H, I, .nil, h⟩
theorem pa_cons (ha : PE X e te) (hr : PA X es t) (hs : starEach (e :: es) X.env = (false, eval e X.env) :: starEach es X.env := by rfl) : PA X (e :: es) (tCons te t) := by
  intro pos pins s σ H Q I h
  rw [hs]
  show wpAny _ _ (spliced ((false, eval e X.env) :: backTo pos (starEach es X.env))) _ _ s
  refine Calls.spliced_cons (thn (ha pins s σ H _ I h) fun u s1 ⟨x, H1, I1, r1, q1⟩ => ?_)
  exact thn (hr pos pins s1 σ H1 _ I1 q1) fun us s2 ⟨xs, H2, I2, r2, q2⟩ => ⟨x :: xs, H2, I2, .cons r1 r2, q2⟩

def tTup (t : TA) : TE := fun σ H Q => t σ H fun xs H1 => xs.length ≤ sizeLine ∧ ∀ p, H1 p = none → Q (.ref p) (upd H1 p (.tup xs))
def tLst (t : TA) : TE := fun σ H Q => t σ H fun xs H1 => xs.length ≤ sizeLine ∧ ∀ p, H1 p = none → Q (.ref p) (upd H1 p (.lst xs))
theorem pe_tup {x1} (h : PA X es t) : PE X (.Tuple es x1 pos) (tTup t) := by
  intro pins s σ H Q I hq
  refine wpAny_Tuple_spliced (thn (h pos pins s σ H _ I hq) fun us s1 ⟨xs, H1, I1, r, z, q⟩ => ⟨by rw [← r.length]; exact z, ?_⟩)
  have hf : H1 s1.heap.objs.size = none := I1.hok.fresh (Nat.le_refl _)
  refine ⟨.ref s1.heap.objs.size, upd H1 s1.heap.objs.size (.tup xs), I1.laid (t' := s1.toks) (fun b u e => Heap.get?_push_of_some _ e) (Nat.le_refl _) ?_, rfl, q _ hf⟩
  exact ⟨z, us, r, ⟨_, Heap.get?_push_size _ rfl, rfl, _, rfl⟩⟩
theorem pe_lst (h : PA X es t) : PE X (.List es pos) (tLst t) := by
  intro pins s σ H Q I hq
  refine wpAny_List_spliced (thn (h pos pins s σ H _ I hq) fun us s1 ⟨xs, H1, I1, r, z, q⟩ => ⟨by rw [← r.length]; exact z, ?_⟩)
  have hf : H1 s1.heap.objs.size = none := I1.hok.fresh (Nat.le_refl _)
  refine ⟨.ref s1.heap.objs.size, upd H1 s1.heap.objs.size (.lst xs), I1.laid (t' := s1.toks) (fun b u e => Heap.get?_push_of_some _ e) (Nat.le_refl _) ?_, rfl, q _ hf⟩
  exact ⟨z, us, 0, r, Heap.get?_push_size _ rfl⟩
end

abbrev Sp := List V → Hp → VK → XK → Prop
abbrev CXT := List Env → Hp → Shared → XK → Value → Shared → Prop

structure Env0 (P : Program) (w : World) (K : PySem.W.Frag) (mg : Str → Option Value) (base : Heap) (A : Around) (outer : List Env) (s : Shared) (H : Hp) : Prop where
  frames : A.frames = some outer
  mod : Mod K mg base
  bs : ∀ b o, base.get? b = some o → s.heap.get? b = some o ∧ H b = none
  bsz : base.objs.size ≤ s.heap.objs.size
  funs : s.heap.FunFrames base outer
  frf : ∀ b ∈ frs outer, H b = none
  hok : HOk P w H s.heap
  bare : AllBare s.gens
def CE (outer : List Env) (P : Program) (w : World) (H : Hp) (s : Shared) (Q : VK) (u : Value) (s' : Shared) : Prop :=
  ∃ v H', s'.os = s.os ∧ AllBare s'.gens ∧ Un (frs outer) [] H H' s.heap s'.heap ∧ HOk P w H' s'.heap ∧ RelV v u ∧ Q v H'
def CR (CX : CXT) (outer : List Env) (P : Program) (w : World) (H : Hp) (s : Shared) (Q : VK) (E : XK) (r : Result) (s' : Shared) : Prop :=
  match r with
  | .ok (.ret u) => CE outer P w H s Q u s'
  | .ok _ => False
  | .error e => CX outer H s E e s'
structure FnOk (P : Program) (w : World) (K : PySem.W.Frag) (mg : Str → Option Value) (base : Heap) (CX : CXT) (k : Nat) (f : Addr) (fd : FuncData) (ps : List Str) (sp : Sp) : Prop where
  len : ∀ vs H Q E, sp vs H Q E → vs.length = ps.length
  run : ∀ (A : Around) (outer : List Env) (s : Shared) (H : Hp) (args : Args) (us : List Value) (vs : List V) (Q : VK) (E : XK), Room k A → Env0 P w K mg base A outer s H → BindsTo s fd args (ps.zip us) → Vals vs us → sp vs H Q E →
    codeAny (model P w) A (.call (.ref f) args) (CR CX outer P w H s Q E) s
theorem FnOk.mono {P : Program} {w : World} {K : PySem.W.Frag} {mg : Str → Option Value} {base : Heap} {CX : CXT} {j k : Nat} {f : Addr} {fd : FuncData} {ps : List Str} {sp : Sp} (F : FnOk P w K mg base CX j f fd ps sp) (h : j ≤ k) :
    FnOk P w K mg base CX k f fd ps sp := ⟨F.len, fun A outer s H args us vs Q E hr => F.run A outer s H args us vs Q E (hr.mono h)⟩

theorem Env0.make {P : Program} {w : World} {K : PySem.W.Frag} {mg : Str → Option Value} {base : Heap} {A : Around} {outer : List Env} {s : Shared} {H : Hp} (e : Env0 P w K mg base A outer s H) (C : Addr) (us : List Value) (kw : List (Str × Value)) :
    Env0 P w K mg base (A.under (.builtin "type.__call__" ⟨.ref C :: us, kw⟩)) outer s H := ⟨by first | exact e.frames | (simpa [Around.under, Code.envs, Code.isFrame, pushEnvs] using e.frames), e.mod, e.bs, e.bsz, e.funs, e.frf, e.hok, e.bare⟩
theorem Env0.in1 {P : Program} {w : World} {K : PySem.W.Frag} {mg : Str → Option Value} {base : Heap} {A : Around} {outer : List Env} {s : Shared} {H : Hp} (e : Env0 P w K mg base A outer s H) :
    Env0 P w K mg base A.in1 outer s H := ⟨e.frames, e.mod, e.bs, e.bsz, e.funs, e.frf, e.hok, e.bare⟩

section
variable {X : Cx} {pins : List (Addr × Obj)} {σ : St} {H : Hp} {s s' : Shared}
theorem Inv.env0 (I : Inv X pins σ H s) : Env0 X.prog X.w X.K X.mg X.base X.A X.stack s H :=
  ⟨I.ok.frames, I.ok.mod, I.bs, Nat.le_trans I.ok.bsz I.sz, I.stack, I.stkFree, I.hok, I.bare⟩
theorem Inv.after {Q : VK} {u : Value} (I : Inv X pins σ H s) (h : CE X.stack X.prog X.w H s Q u s') : EP X pins σ Q u s' := by
  obtain ⟨v, H', os, bare, un, hok, r, q⟩ := h
  obtain ⟨hh, g, d, t, os'⟩ := s'
  obtain rfl : os' = s.os := os
  exact ⟨v, H', I.call (h' := hh) (g' := g) (d' := d) (t' := t) (ch := []) un hok bare (fun b z => absurd z (by simp)), r, q⟩
end

def tCall (sp : Sp) (dvs : List V) (E : XK) (t : TA) : TE := fun σ H Q => t σ H fun vs H1 => sp (vs ++ dvs) H1 Q E
def tMeth (C : Addr) (m : Str) (sp : Sp) (dvs : List V) (E : XK) (ta : TE) (t : TA) : TE := fun σ H Q => ta σ H fun x H1 => ∃ a dx fs, x = .ref a ∧ H1 a = some (.ins C dx fs) ∧ fs.lookup m = none ∧
  t σ H1 fun vs H2 => sp (x :: (vs ++ dvs)) H2 Q E
def tMake (C : Addr) (sp : Sp) (dvs : List V) (E : XK) (t : TA) : TE := fun σ H Q => t σ H fun vs H1 => ∀ x dx, H1 x = none → H1 dx = none → dx ≠ x →
  sp (.ref x :: (vs ++ dvs)) (upd (upd H1 dx (.own x)) x (.ins C dx [])) (fun v H2 => v = .non ∧ Q (.ref x) H2) E

def Binds (K : PySem.W.Frag) (fd : FuncData) (ps : List Str) (ds : List Value) : Prop :=
  ∀ (s : Shared) (us : List Value), K.In s.heap → (us ++ ds).length = ps.length → BindsTo s fd ⟨us, []⟩ (ps.zip (us ++ ds))
theorem Binds.all {K : PySem.W.Frag} {fd : FuncData} {ps : List Str} (h : ∀ us : List Value, us.length = ps.length → bindArgs fd ⟨us, []⟩ = pure (ps.zip us)) : Binds K fd ps [] := fun s us _ hl => by
  rw [List.append_nil] at hl ⊢
  exact .of_eq (h us hl)

def Passes (CX : CXT) (X : Cx) (E : XK) : Prop := ∀ (pins : List (Addr × Obj)) (σ : St) (H : Hp) (s : Shared) (e : Value) (s' : Shared), Inv X pins σ H s → CX X.stack H s E e s' → X.xe e s'

section
variable {X : Cx} {CX : CXT} {k : Nat} {f C : Addr} {fd : FuncData} {ps : List Str} {sp : Sp} {dvs : List V} {ds : List Value} {E : XK} {x m : Str} {p pos apos : Pos} {e o : Expr} {es : List Expr} {ta : TE} {t : TA}

theorem run_fn {pins : List (Addr × Obj)} {σ : St} {H : Hp} {s : Shared} {Q : VK} {us : List Value} {vs : List V} (F : FnOk X.prog X.w X.K X.mg X.base CX k f fd ps sp) (hr : Room k X.A) (hb : Binds X.K fd ps ds) (hd : Vals dvs ds) (hx : Passes CX X E)
    (I : Inv X pins σ H s) (r : Vals vs us) (h : sp (vs ++ dvs) H Q E) : wpAny (model X.prog X.w) X.A (call (.ref f) us) (EP X pins σ Q) X.xe s := by
  have r2 : Vals (vs ++ dvs) (us ++ ds) := r.append hd
  have hl : (us ++ ds).length = ps.length := by rw [← r2.length]; exact F.len _ _ _ _ h
  refine wpAny_call (codeAny_mono (F.run X.A X.stack s H ⟨us, []⟩ (us ++ ds) (vs ++ dvs) Q E hr I.env0 (hb s us I.kIn hl) r2 h) fun r s' hq => ?_)
  cases r with
  | error e => exact hx pins σ H s e s' I hq
  | ok fl =>
    cases fl with
    | ret u => exact I.after hq
    | next => exact False.elim hq
    | brk => exact False.elim hq
    | cont => exact False.elim hq

theorem pe_call (F : FnOk X.prog X.w X.K X.mg X.base CX k f fd ps sp) (hr : Room k X.A) (hg : Gl X x) (hm : X.mg x = some (.ref f)) (hk : PySem.W.keepIn X.K (.ref f) = true) (hb : Binds X.K fd ps ds) (hd : Vals dvs ds) (hx : Passes CX X E)
    (ha : PA X (e :: es) t) (hdb : (x == ("__debug__" : Str)) = false := by decide) (he : starEach (e :: es) X.env = (false, eval e X.env) :: starEach es X.env := by rfl) (hpl : (backTo pos (starEach es X.env)).any (·.1) = false := by rfl) :
    PE X (.Call (.Name x p) (e :: es) [] pos) (tCall sp dvs E t) := by
  intro pins s σ H Q I h
  refine wpAny_Call_Name_kw (ld_glob I hg hm ?_ hdb)
  refine PySem.W.callWith_K (h₀ := X.base) I.ok.mod.kin hk (thn (ha pos pins s σ H _ I h) fun us s1 ⟨vs, H1, I1, r, q⟩ => ⟨I1.kIn, ?_⟩) he hpl
  exact run_fn F hr hb hd hx I1 r q

theorem pe_meth {pl : Sem Bool} (he : PE X o ta) (c : Cls X.K C) (hm : Meth X.K C m f) (F : FnOk X.prog X.w X.K X.mg X.base CX k f fd ps sp) (hr : Room k X.A) (hb : Binds X.K fd ps ds) (hd : Vals dvs ds) (hx : Passes CX X E) (ha : PA X (e :: es) t)
    (hst : starEach (e :: es) X.env = (false, eval e X.env) :: starEach es X.env := by rfl) (hpl : (backTo pos (starEach es X.env)).any (·.1) = false := by rfl)
    (ht : eval (.Call (.Attribute o m apos) (e :: es) [] pos) X.env = (do
      let ov ← eval o X.env
      standAt apos.atName
      let (f, first) ← holding [ov] (getMethod ov m pl)
      callWith pos f first (backTo pos (starEach (e :: es) X.env)) (backToKw pos (keywordEach [] X.env))) := by rfl) :
    PE X (.Call (.Attribute o m apos) (e :: es) [] pos) (tMeth C m sp dvs E ta t) := by
  intro pins s σ H Q I h
  refine PySem.W.methodCall_KW (pl := pl) (thn (he pins s σ H _ I h) fun u s1 ⟨x, H1, I1, rx, a, dx, fs, ex, ea, l, q⟩ => ?_) ht
  subst ex
  obtain rfl : u = Value.ref a := rx
  refine getmeth_ok I1 ea c hm l ?_
  refine PySem.W.callWith_K (first := [.ref a]) (h₀ := X.base) I.ok.mod.kin hm.kp (thn (ha pos pins s1 σ H1 _ I1 q) fun us s2 ⟨vs, H2, I2, r, q2⟩ => ⟨I2.kIn, ?_⟩) hst hpl
  exact run_fn (us := .ref a :: us) (vs := .ref a :: vs) F hr hb hd hx I2 (.cons rfl r) q2
theorem pe_meth0 {pl : Sem Bool} (he : PE X o ta) (c : Cls X.K C) (hm : Meth X.K C m f) (F : FnOk X.prog X.w X.K X.mg X.base CX k f fd ps sp) (hr : Room k X.A) (hb : Binds X.K fd ps ds) (hd : Vals dvs ds) (hx : Passes CX X E)
    (ht : eval (.Call (.Attribute o m apos) [] [] pos) X.env = (do
      let ov ← eval o X.env
      standAt apos.atName
      let (f, first) ← holding [ov] (getMethod ov m pl)
      callWith pos f first (backTo pos (starEach [] X.env)) (backToKw pos (keywordEach [] X.env))) := by rfl) :
    PE X (.Call (.Attribute o m apos) [] [] pos) (tMeth C m sp dvs E ta tNil) := by
  intro pins s σ H Q I h
  refine PySem.W.methodCall_KW (pl := pl) (thn (he pins s σ H _ I h) fun u s1 ⟨x, H1, I1, rx, a, dx, fs, ex, ea, l, q⟩ => ?_) ht
  subst ex
  obtain rfl : u = Value.ref a := rx
  refine getmeth_ok I1 ea c hm l ?_
  exact PySem.W.callWith_K0 (first := [.ref a]) I1.kIn hm.kp (run_fn (us := [.ref a]) (vs := [.ref a]) F hr hb hd hx I1 (.cons rfl .nil) q)

structure Mk (K : PySem.W.Frag) (C f : Addr) : Prop where
  makes : PySem.W.makesIn K C = true
  init : PySem.W.findIn K (.ref C) "__init__" = some (some (.ref f))
  fn : PySem.W.isFn K (.ref f) = true
  kp : PySem.W.keepIn K (.ref C) = true

theorem run_make {pins : List (Addr × Obj)} {σ : St} {H : Hp} {s : Shared} {Q : VK} {us : List Value} {vs : List V} (M : Mk X.K C f) (F : FnOk X.prog X.w X.K X.mg X.base CX k f fd ps sp) (hr : Room (k + 1) X.A) (hb : Binds X.K fd ps ds) (hd : Vals dvs ds)
    (hx : Passes CX X E) (I : Inv X pins σ H s) (r : Vals vs us)
    (h : ∀ x dx, H x = none → H dx = none → dx ≠ x → sp (.ref x :: (vs ++ dvs)) (upd (upd H dx (.own x)) x (.ins C dx [])) (fun v H2 => v = .non ∧ Q (.ref x) H2) E) :
    wpAny (model X.prog X.w) X.A (call (.ref C) us) (EP X pins σ Q) X.xe s := by
  have hq := h (s.heap.objs.size + 1) s.heap.objs.size (I.hok.fresh (Nat.le_succ _)) (I.hok.fresh (Nat.le_refl _)) (Nat.ne_of_lt (Nat.lt_succ_self _))
  have I2 := Inv.made (C := C) I
  have r2 : Vals (V.ref (s.heap.objs.size + 1) :: (vs ++ dvs)) (Value.ref (s.heap.objs.size + 1) :: (us ++ ds)) := .cons rfl (r.append hd)
  have hl : (Value.ref (s.heap.objs.size + 1) :: us ++ ds).length = ps.length := by
    have e := r2.length
    rw [F.len _ _ _ _ hq] at e
    exact e.symm
  refine wpAny_call (make_map (f := f) I.kIn M.makes M.init (beq_iff_eq.mp M.fn) (codeAny_mono (F.run _ X.stack _ _ ⟨Value.ref (s.heap.objs.size + 1) :: us, []⟩ (Value.ref (s.heap.objs.size + 1) :: (us ++ ds)) _ _ E (hr.make C us [])
    (I2.env0.make C us []) (hb _ (Value.ref (s.heap.objs.size + 1) :: us) I2.kIn hl) r2 hq) fun r s' hq' => ?_))
  cases r with
  | error e => exact hx pins σ _ _ e s' I2 hq'
  | ok fl =>
    cases fl with
    | ret u =>
      obtain ⟨v, H', I3, rv, ev, q3⟩ := I2.after hq'
      subst ev
      exact ⟨rv, ⟨V.ref (s.heap.objs.size + 1), H', I3, rfl, q3⟩⟩
    | next => exact False.elim hq'
    | brk => exact False.elim hq'
    | cont => exact False.elim hq'
theorem pe_make (M : Mk X.K C f) (F : FnOk X.prog X.w X.K X.mg X.base CX k f fd ps sp) (hr : Room (k + 1) X.A) (hg : Gl X x) (hm : X.mg x = some (.ref C)) (hb : Binds X.K fd ps ds) (hd : Vals dvs ds) (hx : Passes CX X E)
    (ha : PA X (e :: es) t) (hdb : (x == ("__debug__" : Str)) = false := by decide) (he : starEach (e :: es) X.env = (false, eval e X.env) :: starEach es X.env := by rfl) (hpl : (backTo pos (starEach es X.env)).any (·.1) = false := by rfl) :
    PE X (.Call (.Name x p) (e :: es) [] pos) (tMake C sp dvs E t) := by
  intro pins s σ H Q I h
  refine wpAny_Call_Name_kw (ld_glob I hg hm ?_ hdb)
  refine PySem.W.callWith_K (h₀ := X.base) I.ok.mod.kin M.kp (thn (ha pos pins s σ H _ I h) fun us s1 ⟨vs, H1, I1, r, q⟩ => ⟨I1.kIn, ?_⟩) he hpl
  exact run_make M F hr hb hd hx I1 r q
end

def PK (X : Cx) (kws : List Keyword) (t : TA) : Prop :=
  ∀ (pos : Pos) (pins : List (Addr × Obj)) (s : Shared) (σ : St) (H : Hp) (Q : List V → Hp → Prop), Inv X pins σ H s → t σ H Q → wpAny (model X.prog X.w) X.A (evalAll ((backToKw pos (keywordEach kws X.env)).map (·.2))) (AP X pins σ Q) X.xe s
section
variable {X : Cx} {CX : CXT} {k : Nat} {f C : Addr} {fd : FuncData} {ps ks : List Str} {sp : Sp} {E : XK} {x m : Str} {p pos apos kpos : Pos} {e o : Expr} {es : List Expr} {kws : List Keyword} {te ta : TE} {t tk : TA} {nm : Option Str}
theorem pk_nil : PK X [] tNil := fun _ _ _ _ H Q I h => wpAny_evalAll_nil ⟨[], H, I, .nil, h⟩
theorem pk_cons (ha : PE X e te) (hr : PK X kws t) : PK X (⟨nm, e, kpos⟩ :: kws) (tCons te t) := by
  intro pos pins s σ H Q I h
  show wpAny _ _ (evalAll ((do let v ← eval e X.env; standAt pos; pure v) :: (backToKw pos (keywordEach kws X.env)).map (·.2))) _ _ s
  refine wpAny_evalAll_cons (wpAny_bind (thn (ha pins s σ H _ I h) fun u s1 ⟨x, H1, I1, r1, q1⟩ => wpAny_bind (wpAny_standAt (wpAny_pure ?_))))
  exact thn (hr pos pins s1 σ H1 _ I1 q1) fun us s2 ⟨xs, H2, I2, r2, q2⟩ => ⟨x :: xs, H2, I2, .cons r1 r2, q2⟩

structure KBinds (K : PySem.W.Frag) (fd : FuncData) (ps ks : List Str) (g : List Value → List Value → List Value) (gV : List V → List V → List V) : Prop where
  to : ∀ (s : Shared) (us ws : List Value), K.In s.heap → (g us ws).length = ps.length → BindsTo s fd ⟨us, ks.zip ws⟩ (ps.zip (g us ws))
  rel : ∀ {vs : List V} {us : List Value} {zs : List V} {ws : List Value}, Vals vs us → Vals zs ws → Vals (gV vs zs) (g us ws)
variable {g : List Value → List Value → List Value} {gV : List V → List V → List V}
end

structure FnScope (N P : List Str) (sc : Scope) : Prop where
  kind : sc.kind = .function
  co : sc.isCoroutine = false
  gen : sc.isGenerator = false
  nd : N.Nodup
  pre : N.take P.length = P
  par : ∀ x ∈ P, sc.names.lookup x = some .local ∨ sc.names.lookup x = some .cell
  nofree : ∀ y ∈ sc.names, y.2 ≠ .free

theorem bindL_out {kindOf : Str → Option NameKind} {x : Str} : ∀ {binds : List (Str × Value)} {m : Str → Option Value}, (∀ v, (x, v) ∉ binds) → bindL kindOf binds m x = m x
  | [], _, _ => rfl
  | (n, v) :: r, m, h => by
    unfold bindL
    rw [bindL_out fun w hw => h w (List.mem_cons_of_mem _ hw)]
    split
    · have : x ≠ n := by rintro rfl; exact h v List.mem_cons_self
      simp [this]
    · rfl
theorem bindC_out {kindOf : Str → Option NameKind} {x : Str} : ∀ {binds : List (Str × Value)} {m : Str → Option Value}, (∀ v, (x, v) ∉ binds) → bindC kindOf binds m x = m x
  | [], _, _ => rfl
  | (n, v) :: r, m, h => by
    unfold bindC
    rw [bindC_out fun w hw => h w (List.mem_cons_of_mem _ hw)]
    split
    · rfl
    · have : x ≠ n := by rintro rfl; exact h v List.mem_cons_self
      simp [this]
theorem bindL_get {kindOf : Str → Option NameKind} {x : Str} {v : Value} : ∀ {P : List Str} {vs : List Value} {i : Nat} {m : Str → Option Value}, P.Nodup → P[i]? = some x → vs[i]? = some v → kindOf x = some .local →
    bindL kindOf (P.zip vs) m x = some v
  | [], _, _, _, _, h, _, _ => by simp at h
  | _ :: _, [], _, _, _, _, h, _ => by simp at h
  | p :: P, w :: vs, 0, m, nd, h1, h2, hk => by
    simp at h1 h2; subst h1; subst h2
    show bindL kindOf ((p, w) :: P.zip vs) m p = _
    unfold bindL
    rw [bindL_out fun v hv => (List.nodup_cons.mp nd).1 (List.of_mem_zip hv).1, if_pos hk]
    simp
  | p :: P, w :: vs, i + 1, m, nd, h1, h2, hk => by
    show bindL kindOf ((p, w) :: P.zip vs) m x = _
    unfold bindL
    exact bindL_get (i := i) (List.nodup_cons.mp nd).2 (by simpa using h1) (by simpa using h2) hk
theorem bindC_get {kindOf : Str → Option NameKind} {x : Str} {v : Value} : ∀ {P : List Str} {vs : List Value} {i : Nat} {m : Str → Option Value}, P.Nodup → P[i]? = some x → vs[i]? = some v → kindOf x ≠ some .local →
    bindC kindOf (P.zip vs) m x = some v
  | [], _, _, _, _, h, _, _ => by simp at h
  | _ :: _, [], _, _, _, _, h, _ => by simp at h
  | p :: P, w :: vs, 0, m, nd, h1, h2, hk => by
    simp at h1 h2; subst h1; subst h2
    show bindC kindOf ((p, w) :: P.zip vs) m p = _
    unfold bindC
    rw [bindC_out fun v hv => (List.nodup_cons.mp nd).1 (List.of_mem_zip hv).1, if_neg hk]
    simp
  | p :: P, w :: vs, i + 1, m, nd, h1, h2, hk => by
    show bindC kindOf ((p, w) :: P.zip vs) m x = _
    unfold bindC
    exact bindC_get (i := i) (List.nodup_cons.mp nd).2 (by simpa using h1) (by simpa using h2) hk

def start (N : List Str) (vs : List V) : St := vs.map some ++ List.replicate (N.length - vs.length) none

def cxOf (CX : CXT) (P : Program) (w : World) (K : PySem.W.Frag) (mg : Str → Option Value) (base : Heap) (N : List Str) (qual : Str) (scope : Scope) (f : Addr) (cd : Value) (A : Around) (outer : List Env) (s : Shared) (H : Hp) (E : XK) : Cx where
  prog := P
  w := w
  K := K
  mg := mg
  base := base
  A := A.deeper (envOfC qual scope s.heap.objs.size f cd)
  N := N
  s₀ := s
  H₀ := H
  env := envOfC qual scope s.heap.objs.size f cd
  outer := outer
  stack := envOfC qual scope s.heap.objs.size f cd :: outer
  ex := []
  calm := true
  fn := fun _ => true
  pn := []
  xe := fun e s' => wpAny (model P w) (A.deeper (envOfC qual scope s.heap.objs.size f cd)) (leaving (envOfC qual scope s.heap.objs.size f cd) e) (fun _ s'' => CX outer H s E e s'') (fun e' s'' => CX outer H s E e' s'') s'

theorem cell_has {sc : Scope} {n : Nat} {x : Str} (h : sc.names.lookup x = some .cell) : ∃ c, (cellsFrom n sc.names []).lookup x = some c := by
  have q := PySem.W.cellsFrom_some sc.names n [] (.inl h)
  exact Option.isSome_iff_exists.mp q

theorem inv_start {CX : CXT} {P : Program} {w : World} {K : PySem.W.Frag} {mg : Str → Option Value} {base : Heap} {N ps : List Str} {qual : Str} {scope : Scope} {f : Addr} {cd : Value} {A : Around} {outer : List Env} {s s1 : Shared} {H : Hp} {E : XK} {us : List Value} {vs : List V}
    (S : FnScope N ps scope) (hd : A.handled = none) (e0 : Env0 P w K mg base A outer s H) (hl : vs.length = ps.length) (r : Vals vs us)
    (x : InCallC s s.heap.objs.size (bindL (envOfC qual scope s.heap.objs.size f cd).kindOf (ps.zip us) fun _ => none) (cellsFrom (s.heap.objs.size + 1) scope.names []) (bindC (envOfC qual scope s.heap.objs.size f cd).kindOf (ps.zip us) fun _ => none) s1) :
    Inv (cxOf CX P w K mg base N qual scope f cd A outer s H E) [] (start N vs) H s1 := by
  have hpl : ps.length ≤ N.length := by have := congrArg List.length S.pre; rw [List.length_take] at this; omega
  obtain ⟨h1, tk, rfl, hk⟩ := x.done
  have noA : ∀ b : Addr, b ∉ (cxOf CX P w K mg base N qual scope f cd A outer s H E).ex := fun b z => absurd (show b ∈ ([] : List Addr) from z) (by simp)
  refine ⟨⟨e0.mod, S.kind, rfl, rfl, Nat.le_refl _, fun y z c h1 h2 => ?_, fun y hy => ?_, fun y c _ h => ?_, fun _ => hd, Around.frames_deeper e0.frames, .inr ⟨rfl, rfl⟩, fun b z => absurd z (noA b), e0.bs, e0.bsz, fun b _ _ => noA b, fun b z => absurd z (noA b), e0.funs, e0.frf⟩,
    rfl, e0.bare, Un.kept hk, ⟨_, x.toInCall.ns, fun i y v h1 h2 h3 => ?_⟩, fun y c h => ⟨_, x.cell y c h⟩, e0.hok.fresh (Nat.le_refl _), fun y c h => ?_, fun p hp => absurd (show p ∈ ([] : List (Addr × Obj)) from hp) (by simp), e0.hok.kept hk, ?_⟩
  · exact name_of_addr x.apart (PySem.mem_of_lookup h1) (PySem.mem_of_lookup h2)
  · have hy : scope.names.lookup y = some .cell ∨ scope.names.lookup y = some .free := hy
    rcases hy with hy | hy
    · exact cell_has hy
    · exact absurd rfl (S.nofree _ (PySem.mem_of_lookup hy))
  · exact Nat.le_of_lt (x.above y c (PySem.mem_of_lookup h))
  · have hi : i < vs.length := by
      unfold start at h2
      by_cases hi : i < vs.length
      · exact hi
      · rw [List.getElem?_append_right (by simpa using hi)] at h2
        rw [List.getElem?_replicate] at h2
        split at h2 <;> cases h2
    have ha : vs[i]? = some v := by
      unfold start at h2
      rw [List.getElem?_append_left (by simpa using hi), List.getElem?_map] at h2
      cases e : vs[i]? with
      | none => rw [e] at h2; cases h2
      | some a => rw [e] at h2; cases h2; rfl
    obtain ⟨u, hu, rv⟩ := r.get ha
    have hp : ps[i]? = some y := by
      rw [← S.pre, List.getElem?_take_of_lt (by omega)]; exact h1
    have ndP : ps.Nodup := by rw [← S.pre]; exact S.nd.sublist (List.take_sublist _ _)
    refine ⟨u, rv, ?_⟩
    rcases S.par y (List.mem_of_getElem? hp) with k | k
    · exact .inl ⟨k, bindL_get ndP hp hu k⟩
    · obtain ⟨c, e⟩ := cell_has (n := s.heap.objs.size + 1) k
      refine .inr ⟨.inl k, c, e, ?_⟩
      have q := x.cell y c e
      rw [bindC_get ndP hp hu (by show scope.names.lookup y ≠ _; rw [k]; decide)] at q
      exact q
  · exact e0.hok.fresh (Nat.le_of_lt (x.above y c (PySem.mem_of_lookup h)))
  · unfold start
    show _ = N.length
    rw [List.length_append, List.length_map, List.length_replicate]
    omega

theorem fn_of {CX : CXT} {P : Program} {w : World} {K : PySem.W.Frag} {mg : Str → Option Value} {base : Heap} {k : Nat} {f : Addr} {name qual : Str} {params : Arguments} {body : List Stmt} {scope : Scope} {dV kV doc pm cdv ct oc : Value} {an od : Option Addr}
    {osl : Array (Option Value)} {N ps : List Str} {sp : Sp} (lk : K.lookup f = some ⟨oc, od, .func (PySem.W.fnOf name qual params body scope dV kV doc pm an cdv ct), osl⟩) (hcd : PySem.W.codeIn K cdv qual = true) (S : FnScope N ps scope)
    (len : ∀ vs H Q E, sp vs H Q E → vs.length = ps.length)
    (hbody : ∀ (A : Around) (outer : List Env) (s : Shared) (H : Hp) (vs : List V) (Q : VK) (E : XK), Room k (A.deeper (envOfC qual scope s.heap.objs.size f cdv)) → sp vs H Q E →
      ∃ t, PSs (cxOf CX P w K mg base N qual scope f cdv A outer s H E) body t ∧ t { nx := fun _ H' => Q .non H', rt := Q } (start N vs) H) :
    FnOk P w K mg base CX (k + 1) f (PySem.W.fnOf name qual params body scope dV kV doc pm an cdv ct) ps sp := by
  refine ⟨len, fun A outer s H args us vs Q E hr e0 hb r hsp => ?_⟩
  have hl := len _ _ _ _ hsp
  have KX : K.In s.heap := e0.mod.kin.keeps fun b o e => (e0.bs b o e).1
  have lim : s.heap.NoLimit := e0.mod.nolimit.keeps fun b o e => (e0.bs b o e).1
  have hkind : ∀ y ∈ ps.zip us, scope.names.lookup y.1 = some .local ∨ (scope.names.lookup y.1 = some .cell ∧ ((cellsFrom (s.heap.objs.size + 1) scope.names []).lookup y.1).isSome = true) := fun ⟨n, v⟩ hy => by
    rcases S.par n (List.of_mem_zip hy).1 with q | q
    · exact .inl q
    · exact .inr ⟨q, PySem.W.cellsFrom_some _ _ _ (.inl q)⟩
  refine codeAny_call_function hr.depth (KX _ _ lk) rfl S.co S.gen rfl (PySem.W.codeRec_of KX hcd) (hb _ _ _ _ ?_)
  refine wpAny_newFunctionEnv_cells S.kind hkind fun env he s1 x => ?_
  subst he
  refine ⟨lim.keeps x.toInCall.keep, codeAny_func ?_⟩
  obtain ⟨t, ht, hq⟩ := hbody A outer s H vs Q E (hr.deeper _) hsp
  have I : Inv (cxOf CX P w K mg base N qual scope f cdv A outer s H E) [] (start N vs) H s1 := inv_start S hr.hd e0 hl r x
  refine wpAny_mono (ht [] s1 (start N vs) H _ I hq) (fun fl s' hs => ?_) fun e s' hs => hs
  have fin : ∀ {σ' : St} {H' : Hp} {v : V} {u : Value}, Inv (cxOf CX P w K mg base N qual scope f cdv A outer s H E) [] σ' H' s' → RelV v u → Q v H' → CE outer P w H s Q u s' :=
    fun {σ' H' v u} J rv q => ⟨v, H', J.os, J.bare, J.base, J.hok, rv, q⟩
  cases fl with
  | ret u =>
    obtain ⟨v, σ', H', J, rv, q⟩ := hs
    exact fin J rv q
  | next =>
    obtain ⟨σ', H', J, q⟩ := hs
    exact fin (v := V.non) (u := Value.none) J rfl q
  | brk =>
    obtain ⟨_, _, _, q⟩ := hs
    exact False.elim q
  | cont =>
    obtain ⟨_, _, _, q⟩ := hs
    exact False.elim q
end L2

namespace L2
open PySem PySem.Spec PyProof.Rows
section
variable {X : Cx} {x : Str} {p pos : Pos} {e : Expr} {es : List Expr} {t : TA} {id T : String} {r : List V → Hp → VK → Prop}

def tCB (r : List V → Hp → VK → Prop) (t : TA) : TE := fun σ H Q => t σ H fun vs H1 => r vs H1 Q
theorem pe_callB (hc : CallR X (.builtin id) r) (hg : Gl X x) (hm : X.mg x = none) (hv : bootBuiltins x = some (.builtin id)) (ha : PA X (e :: es) t) (hn : x ≠ "__name__" := by decide) (hdb : (x == ("__debug__" : Str)) = false := by decide)
    (he : starEach (e :: es) X.env = (false, eval e X.env) :: starEach es X.env := by rfl) (hpl : (backTo pos (starEach es X.env)).any (·.1) = false := by rfl) : PE X (.Call (.Name x p) (e :: es) [] pos) (tCB r t) := by
  intro pins s σ H Q I h
  refine wpAny_Call_Name_kw (ld_blt I hg hm hv ?_ hn hdb)
  exact PyProof.Rows.callWith_builtin1 (thn (ha pos pins s σ H _ I h) fun us s1 ⟨vs, H1, I1, r1, q1⟩ => hc pins s1 σ H1 vs us Q I1 r1 q1) he hpl
theorem pe_callTy (hc : CallR X (.type T) r) (hg : Gl X x) (hm : X.mg x = none) (hv : bootBuiltins x = some (.type T)) (ha : PA X (e :: es) t) (hn : x ≠ "__name__" := by decide) (hdb : (x == ("__debug__" : Str)) = false := by decide)
    (he : starEach (e :: es) X.env = (false, eval e X.env) :: starEach es X.env := by rfl) (hpl : (backTo pos (starEach es X.env)).any (·.1) = false := by rfl) : PE X (.Call (.Name x p) (e :: es) [] pos) (tCB r t) := by
  intro pins s σ H Q I h
  refine wpAny_Call_Name_kw (ld_blt I hg hm hv ?_ hn hdb)
  exact PyProof.Rows.callWith_type1 (thn (ha pos pins s σ H _ I h) fun us s1 ⟨vs, H1, I1, r1, q1⟩ => hc pins s1 σ H1 vs us Q I1 r1 q1) he hpl
end
end L2

namespace HT
open PySem PyProof.Rows



section
open PySem.SeqAt
open PySem.AutoSeq1 (wpAny_loadPart')
open PySem.MeetsSeq PySem.MeetsSeq2 PySem.MeetsSeq3

end

section
variable {prog : Program} {w : World} {A : Around} {E : Value → Shared → Prop} {s : Shared}



def sIx (n d : Nat) : Option Int → Nat
  | none => d
  | some v => if v < 0 then (v + (n : Int)).toNat else min v.toNat n
theorem sIx_nat (n d k : Nat) : sIx n d (some (k : Int)) = min k n := by
  show (if (k : Int) < 0 then ((k : Int) + (n : Int)).toNat else min (k : Int).toNat n) = min k n
  rw [if_neg (by omega), Int.toNat_natCast]
theorem sIx_le (n d : Nat) (hd : d ≤ n) (o : Option Int) : sIx n d o ≤ n := by
  cases o with
  | none => exact hd
  | some v =>
    show (if v < 0 then (v + (n : Int)).toNat else min v.toNat n) ≤ n
    by_cases hv : v < 0
    · rw [if_pos hv]; omega
    · rw [if_neg hv]; exact Nat.min_le_right _ _

end
end HT

namespace L2
open PySem PySem.Spec PyProof.Rows

abbrev TO := St → Hp → (Option Int → Hp → Prop) → Prop
def PO (X : Cx) (e : Option Expr) (t : TO) : Prop :=
  ∀ (pins : List (Addr × Obj)) (s : Shared) (σ : St) (H : Hp) (Q : Option Int → Hp → Prop), Inv X pins σ H s → t σ H Q →
    wpAny (model X.prog X.w) X.A (evalPart e X.env) (fun u s' => ∃ o H', Inv X pins σ H' s' ∧ IsPart u o ∧ Q o H') X.xe s
def tNoPart : TO := fun _ H Q => Q none H
def tPart (t : TE) : TO := fun σ H Q => t σ H fun x H1 => ∃ i, x = .int i ∧ Q (some i) H1

theorem intsAre_of {ns : List Int} : ∀ {us : List Value}, Vals (ns.map V.int) us → IntsAre us ns := by
  induction ns with
  | nil => intro us r; rw [List.map_nil] at r; cases r; exact .nil
  | cons n ns ih =>
    intro us r
    rw [List.map_cons] at r
    cases r with
    | cons r1 r2 =>
      obtain ⟨t, e⟩ := r1
      subst e
      exact .cons n t (ih r2)

section
variable {X : Cx} {e : Expr} {te : TE} {lo hi : Option Expr} {tl th : TO} {pos p2 : Pos}

theorem po_none : PO X none tNoPart := by
  intro pins s σ H Q I h
  rw [evalPart_none]
  exact wpAny_pure ⟨none, H, I, .none, h⟩
theorem po_some (h : PE X e te) : PO X (some e) (tPart te) := by
  intro pins s σ H Q I hw
  rw [evalPart_some]
  refine thn (h pins s σ H _ I hw) fun u s1 ⟨x, H1, I1, r1, q1⟩ => ?_
  obtain ⟨i, rfl, q⟩ := q1
  obtain ⟨t, rfl⟩ := r1
  exact ⟨some i, H1, I1, .int i t, q⟩

def SlR (X : Cx) (r : V → Option Int → Option Int → Hp → VK → Prop) : Prop :=
  ∀ (pins : List (Addr × Obj)) (s : Shared) (σ : St) (H : Hp) (x : V) (v vl vu : Value) (lo hi : Option Int) (sl : Addr) (Q : VK), Inv X pins σ H s → RelV x v → s.heap.IsSliceOf sl vl vu .none → IsPart vl lo → IsPart vu hi → r x lo hi H Q →
    ∃ T id, typeLookup (.type T) "__getitem__" = pure (some (.builtin id)) ∧ s.TypeIs v T ∧ wpAny (model X.prog X.w) X.A (getItem v (.ref sl)) (EP X pins σ Q) X.xe s
theorem SlR.or {r r' : V → Option Int → Option Int → Hp → VK → Prop} (h : SlR X r) (h' : SlR X r') : SlR X (fun x lo hi H Q => r x lo hi H Q ∨ r' x lo hi H Q) := by
  intro pins s σ H x v vl vu lo hi sl Q I rx hs pl pu q
  rcases q with q | q
  · exact h pins s σ H x v vl vu lo hi sl Q I rx hs pl pu q
  · exact h' pins s σ H x v vl vu lo hi sl Q I rx hs pl pu q
def tSl (r : V → Option Int → Option Int → Hp → VK → Prop) (te : TE) (tl th : TO) : TE := fun σ H Q => te σ H fun x H1 => tl σ H1 fun l H2 => th σ H2 fun u H3 => r x l u H3 Q
theorem pe_slice {r : V → Option Int → Option Int → Hp → VK → Prop} (hr : SlR X r) (he : PE X e te) (hl : PO X lo tl) (hu : PO X hi th) : PE X (.Subscript e (.Slice lo hi none p2) pos) (tSl r te tl th) := by
  intro pins s σ H Q I h
  refine Subscript_ (thn (he pins s σ H _ I h) fun v s1 ⟨x, H1, I1, r1, q1⟩ => ?_)
  refine wpAny_Slice (thn (hl pins s1 σ H1 _ I1 q1) fun vl s2 ⟨l, H2, I2, pl, q2⟩ => thn (hu pins s2 σ H2 _ I2 q2) fun vu s3 ⟨u, H3, I3, pu, q3⟩ => ?_)
  rw [evalPart_none]
  refine wpAny_pure ?_
  have I4 : Inv X pins σ H3 { s3 with heap := s3.heap.push { cls := .type "slice", data := .fields #[vl, vu, .none] } } := I3.kept (t' := s3.toks) fun b ob q => Heap.get?_push_of_some _ q
  obtain ⟨T, id, hT, ht, hg⟩ := hr pins { s3 with heap := s3.heap.push { cls := .type "slice", data := .fields #[vl, vu, .none] } } σ H3 x v vl vu l u s3.heap.objs.size Q I4 r1 (Heap.IsSliceOf.new ..) pl pu q3
  show wpAny (model X.prog X.w) X.A (subscriptTail e (.Slice lo hi none p2) v (.ref s3.heap.objs.size)) (EP X pins σ Q) X.xe { s3 with heap := s3.heap.push { cls := .type "slice", data := .fields #[vl, vu, .none] } }
  exact tail_any (ops := [.ref s3.heap.objs.size, v]) ht hT hg (by with_unfolding_all rfl)

def cutV (xs : List V) (lo hi : Option Int) : List V := (xs.drop (HT.sIx xs.length 0 lo)).take (HT.sIx xs.length xs.length hi - HT.sIx xs.length 0 lo)
theorem cutV_length (xs : List V) (lo hi : Option Int) : (cutV xs lo hi).length ≤ xs.length := by
  unfold cutV
  rw [List.length_take, List.length_drop]
  omega

end
end L2

namespace L2
open PySem PySem.Spec PyProof.Rows

def ixN (n : Nat) (i : Int) : Option Nat := if 0 ≤ i then (if i < n then some i.toNat else none) else if -(n : Int) ≤ i then some (i + n).toNat else none
def atI {α : Type} (xs : List α) (i : Int) : Option α := (ixN xs.length i).bind fun j => xs[j]?
theorem ixN_seq {n : Nat} {i : Int} {j : Nat} (h : ixN n i = some j) : seqIndex? i n = some j ∧ j < n ∧ -(n : Int) ≤ i ∧ i < n := by
  unfold ixN at h
  by_cases h0 : 0 ≤ i
  · rw [if_pos h0] at h
    by_cases h1 : i < n
    · rw [if_pos h1] at h
      have e : i.toNat = j := Option.some.inj h
      exact ⟨by rw [seqIndex_of h0 h1, e], by omega, by omega, h1⟩
    · rw [if_neg h1] at h; cases h
  · rw [if_neg h0] at h
    by_cases h1 : -(n : Int) ≤ i
    · rw [if_pos h1] at h
      have e : (i + n).toNat = j := Option.some.inj h
      exact ⟨by rw [seqIndex_neg (by omega) h1, e], by omega, h1, by omega⟩
    · rw [if_neg h1] at h; cases h
theorem atI_get {α : Type} {xs : List α} {i : Int} {v : α} (h : atI xs i = some v) : ∃ j, seqIndex? i xs.length = some j ∧ xs[j]? = some v ∧ j < xs.length ∧ -(xs.length : Int) ≤ i ∧ i < xs.length := by
  unfold atI at h
  cases e : ixN xs.length i with
  | none => rw [e] at h; cases h
  | some j =>
    rw [e] at h
    obtain ⟨h1, h2, h3, h4⟩ := ixN_seq e
    exact ⟨j, h1, h, h2, h3, h4⟩
theorem atI_nat {α : Type} {xs : List α} {j : Nat} {v : α} (h : xs[j]? = some v) : atI xs (j : Int) = some v := by
  have hj : j < xs.length := (List.getElem?_eq_some_iff.mp h).1
  have e : ixN xs.length (j : Int) = some j := by
    unfold ixN
    rw [if_pos (by omega), if_pos (by omega)]; simp
  unfold atI; rw [e]; exact h

def PlainIx (b : Expr) : Prop := ∀ o i, subscripted b false o i = operate [o, i] (getItem o i)
def IxR (X : Cx) (r : R2) : Prop :=
  ∀ (value slice : Expr) (pins : List (Addr × Obj)) (s : Shared) (σ : St) (H : Hp) (x y : V) (v u : Value) (Q : VK), Inv X pins σ H s → RelV x v → RelV y u → r x y H Q →
    subscripted slice false v u = operate [v, u] (getItem v u) → wpAny (model X.prog X.w) X.A (subscriptTail value slice v u) (EP X pins σ Q) X.xe s
def MtR (X : Cx) (id : String) (r : V → List V → Hp → VK → Prop) : Prop :=
  ∀ (pins : List (Addr × Obj)) (s : Shared) (σ : St) (H : Hp) (x : V) (xs : List V) (v : Value) (us : List Value) (Q : VK), Inv X pins σ H s → RelV x v → Vals xs us → r x xs H Q →
    wpAny (model X.prog X.w) X.A (call (.builtin id) (v :: us)) (EP X pins σ Q) X.xe s
section
variable {X : Cx} {a b : Expr} {ta tb : TE} {pos : Pos}
theorem IxR.or {r r' : R2} (h : IxR X r) (h' : IxR X r') : IxR X (fun x y H Q => r x y H Q ∨ r' x y H Q) := by
  intro value slice pins s σ H x y v u Q I rx ry q hs
  rcases q with q | q
  · exact h value slice pins s σ H x y v u Q I rx ry q hs
  · exact h' value slice pins s σ H x y v u Q I rx ry q hs
theorem MtR.or {id : String} {r r' : V → List V → Hp → VK → Prop} (h : MtR X id r) (h' : MtR X id r') : MtR X id (fun x xs H Q => r x xs H Q ∨ r' x xs H Q) := by
  intro pins s σ H x xs v us Q I rx rs q
  rcases q with q | q
  · exact h pins s σ H x xs v us Q I rx rs q
  · exact h' pins s σ H x xs v us Q I rx rs q
theorem pe_ix {r : R2} (hr : IxR X r) (ha : PE X a ta) (hb : PE X b tb) (hs : PlainIx b) : PE X (.Subscript a b pos) (tOp r ta tb) := by
  intro pins s σ H Q I h
  exact Subscript_ (binT ha hb I h fun v u s2 x y H2 I2 rx ry q => hr a b pins s2 σ H2 x y v u Q I2 rx ry q (hs _ _))

def rIxL (K : PySem.W.Frag) : R2 := fun x y H Q => ∃ p xs i v, x = .ref p ∧ y = .int i ∧ SqL K H p xs ∧ atI xs i = some v ∧ Q v H
def rIxT (K : PySem.W.Frag) : R2 := fun x y H Q => ∃ p xs i v, x = .ref p ∧ y = .int i ∧ SqT K H p xs ∧ atI xs i = some v ∧ Q v H
def rIxS : R2 := fun x y H Q => ∃ z i c, x = .str z ∧ y = .int i ∧ z.length ≤ sizeLine ∧ atI z.cps.toList i = some c ∧ Q (.str ⟨#[c]⟩) H
theorem ix_list : IxR X (rIxL X.K) := by
  intro value slice pins s σ H x y v u Q I rx ry h hs
  obtain ⟨p, xs, i, z, rfl, rfl, hq, he, q⟩ := h
  cases rx
  obtain ⟨t, rfl⟩ := ry
  obtain ⟨its, r, pl, hz⟩ := I.list hq
  obtain ⟨j, h1, h2, h3, h4, h5⟩ := atI_get he
  obtain ⟨w, ew, rw'⟩ := r.get h2
  have hl := r.length
  have hn := line63
  have fin : EP X pins σ Q w s := ⟨z, H, I, rw', q⟩
  by_cases h0 : 0 ≤ i
  · have hj : i.toNat = j := by
      rw [seqIndex_of h0 h5] at h1
      exact Option.some.inj h1
    exact item_listR pl.isList h0 (by omega) (by rw [hj]; simpa using ew) fin hs
  · have hj : (i + (its.toArray.size : Int)).toNat = j := by
      rw [seqIndex_neg (by omega) h4] at h1
      rw [List.size_toArray, ← hl]
      exact Option.some.inj h1
    exact subscriptTail_builtinR (x := w) pl.isList.typeIs slot_list_getitem.lookup
      (wpAny_getItem_list_neg (Q := fun r s' => r = w ∧ EP X pins σ Q r s') pl.isList (by omega) (by rw [List.size_toArray] <;> omega) (by omega) (by rw [hj]; simpa using ew) ⟨rfl, fin⟩) hs
theorem ix_tup : IxR X (rIxT X.K) := by
  intro value slice pins s σ H x y v u Q I rx ry h hs
  obtain ⟨p, xs, i, z, rfl, rfl, hq, he, q⟩ := h
  cases rx
  obtain ⟨t, rfl⟩ := ry
  obtain ⟨its, r, pl, hz⟩ := I.tuple hq
  obtain ⟨j, h1, h2, h3, h4, h5⟩ := atI_get he
  obtain ⟨w, ew, rw'⟩ := r.get h2
  have hl := r.length
  have hn := line63
  have fin : EP X pins σ Q w s := ⟨z, H, I, rw', q⟩
  exact subscriptTail_builtinR (x := w) pl.typeIs slot_tuple_getitem.lookup
    (getItem_tuple (j := j) (Q := fun r s' => r = w ∧ EP X pins σ Q r s') pl (by omega) (by omega) (by rw [List.size_toArray, ← hl]; exact h1) (by simpa using ew) ⟨rfl, fin⟩) hs
theorem ix_str : IxR X rIxS := by
  intro value slice pins s σ H x y v u Q I rx ry h hs
  obtain ⟨z, i, c, rfl, rfl, hz, he, q⟩ := h
  obtain ⟨t, rfl⟩ := rx
  obtain ⟨t', rfl⟩ := ry
  obtain ⟨j, h1, h2, h3, h4, h5⟩ := atI_get he
  have hl : z.cps.toList.length = z.length := by simp [Str.length]
  rw [hl] at h1 h4 h5
  have hn := line63
  exact tail_any (typeIs_str s z t) slot_str_getitem.lookup (getItem_str (c := c) (by
    have e1 : decide (i < -(2 ^ 63 : Int)) = false := decide_eq_false (by omega)
    have e2 : decide (i ≥ 2 ^ 63) = false := decide_eq_false (by omega)
    rw [e1, e2, Bool.or_false]) (by rw [h1]; simpa using h2) ⟨.str ⟨#[c]⟩, H, I.tok _, ⟨_, rfl⟩, q⟩) hs

theorem mapSeq_set (its : List Value) (n j : Nat) (u : Value) : Obj.mapSeq (·.setIfInBounds j u) { cls := .type "list", data := .seq its.toArray n } = { cls := .type "list", data := .seq (its.set j u).toArray n } := by
  simp [Obj.mapSeq]
theorem Inv.lst {pins : List (Addr × Obj)} {σ : St} {H : Hp} {s : Shared} {p : Addr} {xs : List V} (I : Inv X pins σ H s) (h : H p = some (.lst xs)) :
    ∃ (its : List Value) (n : Nat), Vals xs its ∧ s.heap.get? p = some { cls := .type "list", data := .seq its.toArray n } ∧ xs.length ≤ sizeLine := by
  obtain ⟨z, its, n, r, e⟩ := I.hok p _ h
  exact ⟨its, n, r, e, z⟩
theorem Inv.lstUpd {pins : List (Addr × Obj)} {σ : St} {H : Hp} {s : Shared} {p : Addr} {xs ys : List V} {its its' : List Value} {n n' : Nat} {f : Obj → Obj} (I : Inv X pins σ H s) (h : H p = some (.lst xs))
    (ho : s.heap.get? p = some { cls := .type "list", data := .seq its.toArray n }) (hf : f { cls := .type "list", data := .seq its.toArray n } = { cls := .type "list", data := .seq its'.toArray n' }) (r : Vals ys its') (hz : ys.length ≤ sizeLine) (t : Nat) :
    Inv X pins σ (upd H p (.lst ys)) { s with heap := s.heap.update p f, toks := t } := by
  have e : (s.heap.update p f).get? p = some { cls := .type "list", data := .seq its'.toArray n' } := by
    rw [Heap.get?_update_self f ho (by rw [hf] <;> rfl), hf]
  refine I.write (x := p) (e := p) (by rw [h]; trivial) (.inl rfl) (fun b u hb q => (Heap.get?_update_other _ _ (Ne.symm hb)).trans q) ⟨_, e⟩ ?_
  exact ⟨hz, its', n', r, e⟩
def rSetL : V → V → V → Hp → (Hp → Prop) → Prop := fun o i v H Q => ∃ p xs k j, o = .ref p ∧ i = .int k ∧ H p = some (.lst xs) ∧ ixN xs.length k = some j ∧ Q (upd H p (.lst (xs.set j v)))
theorem set_list : PSet X rSetL := by
  intro pins s σ H o i v ov iv u Q I ro ri rv h
  obtain ⟨p, xs, k, j, rfl, rfl, hp, hj, q⟩ := h
  cases ro
  obtain ⟨t, rfl⟩ := ri
  obtain ⟨its, n, r, ho, hz⟩ := I.lst hp
  obtain ⟨h1, h2, h3, h4⟩ := ixN_seq hj
  have hl := r.length
  have hn := line63
  have I' : Inv X pins σ (upd H p (.lst (xs.set j v))) { s with heap := s.heap.update p (Obj.mapSeq (·.setIfInBounds j u)) } :=
    I.lstUpd hp ho (mapSeq_set its n j u) (r.set rv j) (by rw [List.length_set]; exact hz) s.toks
  by_cases h0 : 0 ≤ k
  · have hk : k.toNat = j := by
      rw [seqIndex_of h0 h4] at h1
      exact Option.some.inj h1
    exact PySem.W.ki_setAt ho h0 (by omega) (by rw [List.size_toArray, ← hl]; exact h4) (by rw [hk]; exact ⟨_, I', q⟩)
  · have hk : (k + (its.toArray.size : Int)).toNat = j := by
      rw [seqIndex_neg (by omega) h3] at h1
      rw [List.size_toArray, ← hl]
      exact Option.some.inj h1
    exact PySem.W.ki_setBack ho (by omega) (by rw [List.size_toArray, ← hl]; exact h3) (by omega) (by rw [hk]; exact ⟨_, I', q⟩)

theorem slice_bounds (lo hi : Option Int) (n : Nat) : (sliceBounds lo hi none n).1 = ((HT.sIx n 0 lo : Nat) : Int) ∧ (sliceBounds lo hi none n).2.1 = ((HT.sIx n n hi : Nat) : Int) ∧ (sliceBounds lo hi none n).2.2 = 1 := by
  refine ⟨?_, ?_, rfl⟩
  · cases lo with
    | none => simp [sliceBounds, HT.sIx]
    | some i =>
      simp only [sliceBounds, HT.sIx, Option.getD_none, show (1 : Int) > 0 by decide, if_true]
      by_cases h : i < 0
      · simp only [h, if_true] <;> omega
      · simp only [h, if_false] <;> omega
  · cases hi with
    | none => simp [sliceBounds, HT.sIx]
    | some i =>
      simp only [sliceBounds, HT.sIx, Option.getD_none, show (1 : Int) > 0 by decide, if_true]
      by_cases h : i < 0
      · simp only [h, if_true] <;> omega
      · simp only [h, if_false] <;> omega
theorem slicePick_cut (its : List Value) (lo hi : Option Int) : slicePick its.toArray lo hi none = ((its.drop (HT.sIx its.length 0 lo)).take (HT.sIx its.length its.length hi - HT.sIx its.length 0 lo)).toArray := by
  obtain ⟨h1, h2, h3⟩ := slice_bounds lo hi its.toArray.size
  unfold slicePick
  rw [h1, h2, h3]
  simp only [sliceRange_one, pick_run, List.size_toArray] <;> rfl
def rSlL (K : PySem.W.Frag) : V → Option Int → Option Int → Hp → VK → Prop := fun x lo hi H Q => ∃ a xs, x = .ref a ∧ SqL K H a xs ∧ ∀ p, H p = none → Q (.ref p) (upd H p (.lst (cutV xs lo hi)))
theorem sl_list : SlR X (rSlL X.K) := by
  intro pins s σ H x v vl vu lo hi sl Q I rx hs pl pu h
  obtain ⟨a, xs, rfl, hx, q⟩ := h
  cases rx
  obtain ⟨its, r, ht, hz⟩ := I.list hx
  have hlen := r.length
  refine ⟨"list", _, slot_list_getitem.lookup, ht.isList.typeIs, ?_⟩
  refine wpAny_getItem_list_slice ht.isList hs pl pu .none (by simp) ?_ (by rw [List.size_toArray] <;> omega)
  rw [slicePick_cut, ← hlen]
  refine ⟨.ref s.heap.objs.size, _, I.laid (t' := s.toks) (o := .lst (cutV xs lo hi)) (fun b ob q => Heap.get?_push_of_some _ q) (Nat.le_refl _) ?_, rfl, q _ (I.hok.fresh (Nat.le_refl _))⟩
  exact ⟨Nat.le_trans (cutV_length xs lo hi) hz, _, 0, (r.drop (HT.sIx xs.length 0 lo)).take (HT.sIx xs.length xs.length hi - HT.sIx xs.length 0 lo), Heap.get?_push_size _ rfl⟩

def flatV : V → Bool
  | .non => true
  | .bl _ => true
  | .int _ => true
  | .str _ => true
  | _ => false
def eqV : V → V → Bool
  | .non, .non => true
  | .bl a, .bl b => a == b
  | .bl a, .int b => (if a then 1 else 0) == b
  | .int a, .bl b => a == (if b then 1 else 0)
  | .int a, .int b => a == b
  | .str a, .str b => a == b
  | _, _ => false
theorem eqAt_V {A : Around} {s : Shared} {y x : V} {u v : Value} (ry : RelV y u) (rx : RelV x v) (fy : flatV y = true) (fx : flatV x = true) : SeqAt.EqAt A s u v (eqV y x) := by
  cases y with
  | non =>
    cases ry
    cases x with
    | non => cases rx; exact SeqAt.EqAt.same _
    | bl b => cases rx; exact SeqAt.EqAt.none_bool b
    | int b => obtain ⟨t, rfl⟩ := rx; exact SeqAt.EqAt.none_int b t
    | str b => obtain ⟨t, rfl⟩ := rx; exact SeqAt.EqAt.none_str b t
    | _ => exact absurd (show false = true from fx) Bool.false_ne_true
  | bl a =>
    cases ry
    cases x with
    | non => cases rx; exact SeqAt.EqAt.bool_none a
    | bl b => cases rx; exact SeqAt.EqAt.bool_bool a b
    | int b => obtain ⟨t, rfl⟩ := rx; exact SeqAt.EqAt.bool_int a b t
    | str b => obtain ⟨t, rfl⟩ := rx; exact SeqAt.EqAt.bool_str a b t
    | _ => exact absurd (show false = true from fx) Bool.false_ne_true
  | int a =>
    obtain ⟨t', rfl⟩ := ry
    cases x with
    | non => cases rx; exact SeqAt.EqAt.int_none a t'
    | bl b => cases rx; exact SeqAt.EqAt.int_bool a t' b
    | int b => obtain ⟨t, rfl⟩ := rx; exact SeqAt.EqAt.int_int a t' b t
    | str b => obtain ⟨t, rfl⟩ := rx; exact SeqAt.EqAt.int_str a t' b t
    | _ => exact absurd (show false = true from fx) Bool.false_ne_true
  | str a =>
    obtain ⟨t', rfl⟩ := ry
    cases x with
    | non => cases rx; exact SeqAt.EqAt.str_none a t'
    | bl b => cases rx; exact SeqAt.EqAt.str_bool a t' b
    | int b => obtain ⟨t, rfl⟩ := rx; exact SeqAt.EqAt.str_int a t' b t
    | str b => obtain ⟨t, rfl⟩ := rx; exact SeqAt.EqAt.str_str a t' b t
    | _ => exact absurd (show false = true from fx) Bool.false_ne_true
  | _ => exact absurd (show false = true from fy) Bool.false_ne_true
def eqU (x : V) (u : Value) : Bool := match u with
  | .none => eqV .non x
  | .bool b => eqV (.bl b) x
  | .int i _ => eqV (.int i) x
  | .str z _ => eqV (.str z) x
  | _ => false
theorem eqU_of {x y : V} {u : Value} (r : RelV y u) (f : flatV y = true) : eqU x u = eqV y x := by
  cases y with
  | non => cases r; rfl
  | bl b => cases r; rfl
  | int i => obtain ⟨t, rfl⟩ := r; rfl
  | str z => obtain ⟨t, rfl⟩ := r; rfl
  | _ => exact absurd (show false = true from f) Bool.false_ne_true
theorem any_eqU {x : V} : ∀ {xs : List V} {us : List Value}, Vals xs us → xs.all flatV = true → us.any (eqU x) = xs.any fun y => eqV y x
  | _, _, .nil, _ => rfl
  | y :: xs, u :: us, .cons r t, f => by
    rw [List.all_cons, Bool.and_eq_true] at f
    rw [List.any_cons, List.any_cons, eqU_of r f.1, any_eqU t f.2]
theorem mem_eqAt {A : Around} {s : Shared} {x : V} {v : Value} (rx : RelV x v) (fx : flatV x = true) : ∀ {xs : List V} {us : List Value}, Vals xs us → xs.all flatV = true → ∀ u ∈ us, SeqAt.EqAt A s u v (eqU x u)
  | _, _, .nil, _ => fun u hu => by cases hu
  | y :: xs, u :: us, .cons r t, f => fun u' hu => by
    rw [List.all_cons, Bool.and_eq_true] at f
    rcases List.mem_cons.mp hu with rfl | hu
    · rw [eqU_of r f.1]; exact eqAt_V r rx f.1 fx
    · exact mem_eqAt rx fx t f.2 u' hu
def inV (x : V) (xs : List V) : Bool := xs.any fun y => eqV y x
def rIn (K : PySem.W.Frag) (neg : Bool) : R2 := fun x y H Q => ∃ p xs, y = .ref p ∧ (SqL K H p xs ∨ SqT K H p xs) ∧ flatV x = true ∧ xs.all flatV = true ∧ Q (.bl (if neg then !inV x xs else inV x xs)) H
theorem op_in_seq : OpR X (compareOp .In) (rIn X.K false) := by
  intro pins s σ H x y v u Q I rx ry h
  obtain ⟨p, xs, rfl, hq, fx, fs, q⟩ := h
  cases ry
  rcases hq with hq | hq
  · obtain ⟨its, r, pl, hz⟩ := I.list hq
    refine SeqAt.in_listAt (eqU x) pl.isList (fun w hw => mem_eqAt rx fx r fs w (by simpa using hw)) ⟨.bl _, H, I, rfl, ?_⟩
    rw [show its.toArray.any (eqU x) = its.any (eqU x) by simp, any_eqU r fs]
    exact q
  · obtain ⟨its, r, pl, hz⟩ := I.tuple hq
    refine SeqAt.in_tupleAt (eqU x) pl (fun w hw => mem_eqAt rx fx r fs w (by simpa using hw)) ⟨.bl _, H, I, rfl, ?_⟩
    rw [show its.toArray.any (eqU x) = its.any (eqU x) by simp, any_eqU r fs]
    exact q
theorem op_notIn_seq : OpR X (compareOp .NotIn) (rIn X.K true) := by
  intro pins s σ H x y v u Q I rx ry h
  obtain ⟨p, xs, rfl, hq, fx, fs, q⟩ := h
  cases ry
  rcases hq with hq | hq
  · obtain ⟨its, r, pl, hz⟩ := I.list hq
    refine SeqAt.notIn_listAt (eqU x) pl.isList (fun w hw => mem_eqAt rx fx r fs w (by simpa using hw)) ⟨.bl _, H, I, rfl, ?_⟩
    rw [show its.toArray.any (eqU x) = its.any (eqU x) by simp, any_eqU r fs]
    exact q
  · obtain ⟨its, r, pl, hz⟩ := I.tuple hq
    refine SeqAt.notIn_tupleAt (eqU x) pl (fun w hw => mem_eqAt rx fx r fs w (by simpa using hw)) ⟨.bl _, H, I, rfl, ?_⟩
    rw [show its.toArray.any (eqU x) = its.any (eqU x) by simp, any_eqU r fs]
    exact q

theorem call_len_seq : CallR X (.builtin "len") (fun xs H Q => ∃ p ys, xs = [.ref p] ∧ (SqL X.K H p ys ∨ SqT X.K H p ys) ∧ Q (.int ys.length) H) := by
  intro pins s σ H xs us Q I r h
  obtain ⟨p, ys, rfl, hq, q⟩ := h
  obtain ⟨u, rfl, rx⟩ := vals1 r
  cases rx
  have hn := line63
  rcases hq with hq | hq
  · obtain ⟨its, r', pl, hz⟩ := I.list hq
    have hlen := r'.length
    exact Calls.call_len_list pl.isList (by simp only [List.size_toArray] <;> omega) ⟨.int ys.length, H, I.tok _, ⟨s.toks + 1, by rw [List.size_toArray, hlen]⟩, q⟩
  · obtain ⟨its, r', pl, hz⟩ := I.tuple hq
    have hlen := r'.length
    exact len_tuple pl (by simp only [List.size_toArray] <;> omega) ⟨.int ys.length, H, I.tok _, ⟨s.toks + 1, by rw [List.size_toArray, hlen]⟩, q⟩
theorem call_len_str : CallR X (.builtin "len") (fun xs H Q => ∃ z, xs = [.str z] ∧ z.length ≤ sizeLine ∧ Q (.int z.length) H) := by
  intro pins s σ H xs us Q I r h
  obtain ⟨z, rfl, hz, q⟩ := h
  obtain ⟨u, rfl, t, rfl⟩ := vals1 r
  have hn := line63
  exact len_str (by omega) ⟨.int z.length, H, I.tok _, ⟨_, rfl⟩, q⟩
theorem CallR.or {f : Value} {r r' : List V → Hp → VK → Prop} (h : CallR X f r) (h' : CallR X f r') : CallR X f (fun xs H Q => r xs H Q ∨ r' xs H Q) := by
  intro pins s σ H xs us Q I rs q
  rcases q with q | q
  · exact h pins s σ H xs us Q I rs q
  · exact h' pins s σ H xs us Q I rs q

def tyV (K : PySem.W.Frag) (T : String) (x : V) (H : Hp) : Prop := match x with
  | .str _ => T = "str"
  | .int _ => T = "int"
  | .ref p => (T = "list" ∧ ∃ xs, SqL K H p xs) ∨ (T = "tuple" ∧ ∃ o, K.lookup p = some o ∧ o.cls = .type "tuple" ∧ o.dict = none) ∨
      (T = "dict" ∧ ((∃ kvs, H p = some (.dK kvs)) ∨ ∃ kvs, H p = some (.dT kvs))) ∨ (T = "set" ∧ ∃ S n, H p = some (.set S n))
  | _ => False
theorem tyV_is {pins : List (Addr × Obj)} {σ : St} {H : Hp} {s : Shared} {T : String} {x : V} {v : Value} (I : Inv X pins σ H s) (r : RelV x v) (ty : tyV X.K T x H) :
    s.TypeIs v T ∧ ∀ a, v = .ref a → ∃ ob, s.heap.get? a = some ob ∧ ob.dict = none := by
  cases x with
  | str z =>
    obtain ⟨t, rfl⟩ := r
    cases (show T = "str" from ty)
    exact ⟨typeIs_str s z t, fun _ e => nomatch e⟩
  | int i =>
    obtain ⟨t, rfl⟩ := r
    cases (show T = "int" from ty)
    exact ⟨typeIs_int s i t, fun _ e => nomatch e⟩
  | ref p =>
    cases r
    rcases ty with ⟨rfl, xs, hq⟩ | ⟨rfl, o, hk, hc, hd⟩ | ⟨rfl, hk⟩ | ⟨rfl, S, n, hk⟩
    · obtain ⟨its, _, pl, _⟩ := I.list hq
      refine ⟨pl.isList.typeIs, fun a e => ?_⟩
      cases e
      obtain ⟨o, n, e, c, hd, _⟩ := pl
      exact ⟨o, e, hd⟩
    · refine ⟨⟨o, I.kIn p o hk, hc⟩, fun a e => ?_⟩
      cases e
      exact ⟨o, I.kIn _ o hk, hd⟩
    · have z : ∃ o, s.heap.get? p = some o ∧ o.ExactDict := by
        rcases hk with ⟨kvs, hk⟩ | ⟨kvs, hk⟩
        · obtain ⟨_, _, _, _, o, _, _, e, ex, _⟩ := I.hok p _ hk
          exact ⟨o, e, ex⟩
        · obtain ⟨_, _, _, _, o, _, _, e, ex, _⟩ := I.hok p _ hk
          exact ⟨o, e, ex⟩
      obtain ⟨o, e, ex⟩ := z
      refine ⟨⟨o, e, ex.1⟩, fun a e2 => ?_⟩
      cases e2
      exact ⟨o, e, ex.2.1⟩
    · obtain ⟨o, _, _, _, e, ex, _⟩ := I.hok p _ hk
      refine ⟨⟨o, e, ex.1⟩, fun a e2 => ?_⟩
      cases e2
      exact ⟨o, e, ex.2.1⟩
  | _ => exact False.elim ty
def tBM0 (K : PySem.W.Frag) (T : String) (r : V → List V → Hp → VK → Prop) (to : TE) : TE := fun σ H Q => to σ H fun x H1 => tyV K T x H1 ∧ r x [] H1 Q
def tBM (K : PySem.W.Frag) (T : String) (r : V → List V → Hp → VK → Prop) (to : TE) (t : TA) : TE := fun σ H Q => to σ H fun x H1 => tyV K T x H1 ∧ t σ H1 fun xs H2 => r x xs H2 Q
variable {o e : Expr} {es : List Expr} {to : TE} {t : TA} {name : Str} {apos cpos : Pos} {T id : String} {r : V → List V → Hp → VK → Prop}
theorem pe_bm0 (pa : PlainAttrs T) (slot : Slot T name id) (hty : typeOf (.builtin id) = pure (.type "method_descriptor")) (hm : MtR X id r) (ho : PE X o to)
    (hbase : attributeBase o name X.env (eval o X.env) = eval o X.env := by rfl) (hline : (apos.endLine == cpos.line) = true := by rfl) : PE X (.Call (.Attribute o name apos) [] [] cpos) (tBM0 X.K T r to) := by
  intro pins s σ H Q I h
  refine wpAny_Call_method0_late hbase hline (thn (ho pins s σ H _ I h) fun v s1 ⟨x, H1, I1, r1, ty, q1⟩ => ?_)
  obtain ⟨h1, h2⟩ := tyV_is I1 r1 ty
  exact ⟨T, id, pa, slot, hty, h1, h2, Calls.callWith_builtin rfl (PySem.evalArgs_none (hm pins s1 σ H1 x [] v [] Q I1 r1 .nil q1))⟩
theorem pe_bm (pa : PlainAttrs T) (slot : Slot T name id) (hty : typeOf (.builtin id) = pure (.type "method_descriptor")) (hm : MtR X id r) (ho : PE X o to) (ha : PA X (e :: es) t)
    (hbase : attributeBase o name X.env (eval o X.env) = eval o X.env := by rfl)
    (hfew : ((backTo cpos (starEach (e :: es) X.env)).all (fun x => !x.1) && (backToKw cpos (keywordEach [] X.env)).all (fun x => x.1.isSome)
      && decide ((e :: es).length + ([] : List Keyword).length + (if ([] : List Keyword).isEmpty then 0 else 1) < 30)) = true := by rfl)
    (hline : (apos.endLine == cpos.line) = true := by rfl) (hs : starEach (e :: es) X.env = (false, eval e X.env) :: starEach es X.env := by rfl) (hplain : (backTo cpos (starEach es X.env)).any (·.1) = false := by rfl) :
    PE X (.Call (.Attribute o name apos) (e :: es) [] cpos) (tBM X.K T r to t) := by
  intro pins s σ H Q I h
  refine wpAny_Call_method_late hbase hfew hline rfl (thn (ho pins s σ H _ I h) fun v s1 ⟨x, H1, I1, r1, ty, q1⟩ => ?_)
  obtain ⟨h1, h2⟩ := tyV_is I1 r1 ty
  refine ⟨T, id, pa, slot, hty, h1, h2, ?_⟩
  have hA := ha cpos pins s1 σ H1 _ I1 q1
  rw [hs] at hA ⊢
  refine Calls.callWith_builtin (by show (false || (backTo cpos (starEach es X.env)).any (·.1)) = false; rw [hplain] <;> rfl) (Calls.evalArgs_plain ?_)
  exact thn hA fun us s2 ⟨vs, H2, I2, r2, q2⟩ => hm pins s2 σ H2 x vs v us Q I2 r1 r2 q2
/- xs.append(e), list.index on a module's tuple .. are MtR facts of 06m -/
end
end L2

namespace L2
open PySem PySem.Spec PyProof.Rows

def MtM (X : Cx) (id : String) (r : V → List V → Hp → VK → Prop) : Prop :=
  ∀ (pins : List (Addr × Obj)) (s : Shared) (σ : St) (H : Hp) (x : V) (xs : List V) (v : Value) (us : List Value) (Q : VK), Inv X pins σ H s → RelV x v → Vals xs us → r x xs H Q →
    wpAny (model X.prog X.w) X.A (call (.builtin id) (v :: us)) (EP X pins σ Q) X.xe s

theorem Vals.one : ∀ {x : V} {us : List Value}, Vals [x] us → ∃ u, us = [u] ∧ RelV x u
  | _, _, .cons r .nil => ⟨_, rfl, r⟩
theorem Vals.two : ∀ {x y : V} {us : List Value}, Vals [x, y] us → ∃ u v, us = [u, v] ∧ RelV x u ∧ RelV y v
  | _, _, _, .cons r (.cons q .nil) => ⟨_, _, rfl, r, q⟩
theorem Vals.zero : ∀ {us : List Value}, Vals [] us → us = []
  | _, .nil => rfl
theorem Vals.dropLast {xs : List V} {us : List Value} (h : Vals xs us) : Vals xs.dropLast us.dropLast := by
  induction h with
  | nil => exact .nil
  | cons r t ih =>
    cases t with
    | nil => exact .nil
    | cons q t' => exact .cons r ih
theorem Vals.eraseIdx : ∀ {xs : List V} {us : List Value} (i : Nat), Vals xs us → Vals (xs.eraseIdx i) (us.eraseIdx i)
  | _, _, _, .nil => .nil
  | _, _, 0, .cons _ t => t
  | _, _, i + 1, .cons r t => .cons r (Vals.eraseIdx i t)
theorem Vals.rep {xs : List V} {us : List Value} (h : Vals xs us) : ∀ k : Nat, Vals (List.replicate k xs).flatten (List.replicate k us).flatten
  | 0 => .nil
  | k + 1 => by
    rw [List.replicate_succ, List.replicate_succ, List.flatten_cons, List.flatten_cons]
    exact Vals.append h (Vals.rep h k)
theorem erase_last {α : Type} (l : List α) : l.eraseIdx (l.length - 1) = l.dropLast := by
  induction l with
  | nil => rfl
  | cons a r ih =>
    cases r with
    | nil => rfl
    | cons b r =>
      have e : (a :: b :: r).length - 1 = ((b :: r).length - 1) + 1 := by
        have h1 : (a :: b :: r).length = r.length + 2 := rfl
        have h2 : (b :: r).length = r.length + 1 := rfl
        omega
      rw [e, List.eraseIdx_cons_succ, ih]
      all_goals rfl

section
variable {X : Cx} {pins : List (Addr × Obj)} {σ : St} {H : Hp} {s : Shared} {l b : Addr} {xs ys zs : List V}

theorem Inv.lset {its its' : List Value} {n : Nat} {f : Array Value → Array Value} {t' : Nat} (I : Inv X pins σ H s) (hH : H l = some (.lst xs))
    (e : s.heap.get? l = some { cls := .type "list", data := .seq its.toArray n }) (hf : f its.toArray = its'.toArray) (hv : Vals ys its') (hz : ys.length ≤ sizeLine) :
    Inv X pins σ (upd H l (.lst ys)) { s with heap := s.heap.update l (Obj.mapSeq f), toks := t' } := by
  have q := PySem.IsL.update e f
  rw [hf] at q
  refine I.write (x := l) (e := l) (by rw [hH]; exact trivial) (.inl rfl) (fun b' u hb hu => (Heap.get?_update_other s.heap (Obj.mapSeq f) (Ne.symm hb)).trans hu) ⟨_, q⟩ ?_
  exact ⟨hz, its', _, hv, q⟩
theorem Inv.lnew {its : List Value} {t' : Nat} (I : Inv X pins σ H s) (hv : Vals ys its) (hz : ys.length ≤ sizeLine) :
    Inv X pins σ (upd H s.heap.objs.size (.lst ys)) { s with heap := s.heap.push { cls := .type "list", data := .seq its.toArray }, toks := t' } :=
  I.laid (fun _ _ q => Heap.get?_push_of_some _ q) (Nat.le_refl _) ⟨hz, its, 0, hv, Heap.get?_push_size _ rfl⟩
theorem Inv.fresh (I : Inv X pins σ H s) : H s.heap.objs.size = none := I.hok.fresh (Nat.le_refl _)
theorem Inv.lstM (I : Inv X pins σ H s) (hH : H l = some (.lst xs)) : xs.length ≤ sizeLine ∧ ∃ (its : List Value) (n : Nat), Vals xs its ∧ xs.length = its.length ∧ s.heap.get? l = some { cls := .type "list", data := .seq its.toArray n } := by
  obtain ⟨z, its, n, r, e⟩ := I.hok l _ hH
  exact ⟨z, its, n, r, r.length, e⟩

theorem notLongL {n : Nat} (h : n ≤ sizeLine) : Builtin.List.listTooLong n = false := by
  unfold Builtin.List.listTooLong
  exact decide_eq_false (by omega)
end

section
variable {X : Cx}

def rAppend : V → List V → Hp → VK → Prop := fun x vs H Q => ∃ l xs y, x = .ref l ∧ vs = [y] ∧ H l = some (.lst xs) ∧ xs.length < sizeLine ∧ Q .non (upd H l (.lst (xs ++ [y])))
theorem mt_append : MtM X "list.append" rAppend := by
  intro pins s σ H x vs v us Q I rx rv h
  obtain ⟨l, xs, y, rfl, rfl, hH, hz, q⟩ := h
  cases rx
  obtain ⟨u, rfl, ru⟩ := rv.one
  obtain ⟨z, its, n, r, hl, e⟩ := I.lstM hH
  refine call_meets F.slot_list_append ⟨_, e, rfl⟩ F.entry_list_append (F.args_list_append_2 _ _) (PySem.list_append l its.toArray n u (by rw [List.size_toArray]; omega)) ⟨e, ?_⟩
  refine ⟨.non, _, I.lset (its' := its ++ [u]) hH e (by simp) (r.append (.cons ru .nil)) ?_, rfl, q⟩
  rw [List.length_append, List.length_singleton]
  omega

def rExtend : V → List V → Hp → VK → Prop := fun x vs H Q => ∃ l b xs zs, x = .ref l ∧ vs = [.ref b] ∧ H l = some (.lst xs) ∧ H b = some (.lst zs) ∧ xs.length + zs.length ≤ sizeLine ∧ Q .non (upd H l (.lst (xs ++ zs)))
theorem mt_extend : MtM X "list.extend" rExtend := by
  intro pins s σ H x vs v us Q I rx rv h
  obtain ⟨l, b, xs, zs, rfl, rfl, hH, hB, hz, q⟩ := h
  cases rx
  obtain ⟨u, rfl, ru⟩ := rv.one
  cases ru
  obtain ⟨z, its, n, r, hl, e⟩ := I.lstM hH
  obtain ⟨z2, its2, n2, r2, hl2, e2⟩ := I.lstM hB
  have hsz : its.toArray.size + its2.toArray.size ≤ sizeLine := by rw [List.size_toArray, List.size_toArray]; omega
  have hlong : ¬ (!its.toArray.isEmpty && Builtin.List.listTooLong (its.toArray.size + its2.toArray.size)) = true := by
    rw [notLongL hsz, Bool.and_false]
    exact Bool.false_ne_true
  refine call_meets F.slot_list_extend ⟨_, e, rfl⟩ F.entry_list_extend (F.args_list_extend_2 _ _)
    (AutoSeq1.list_extend_list_list_0 l its.toArray n b its2.toArray n2 hlong (by rw [List.size_toArray]; omega) (by omega)) ⟨e, e2, ?_⟩
  refine ⟨.non, _, I.lset (its' := its ++ its2) hH e (by simp) (r.append r2) ?_, rfl, q⟩
  rw [List.length_append]
  omega

def rPop : V → List V → Hp → VK → Prop := fun x vs H Q => ∃ l xs y, x = .ref l ∧ vs = [] ∧ H l = some (.lst xs) ∧ xs[xs.length - 1]? = some y ∧ Q y (upd H l (.lst xs.dropLast))
theorem mt_pop : MtM X "list.pop" rPop := by
  intro pins s σ H x vs v us Q I rx rv h
  obtain ⟨l, xs, y, rfl, rfl, hH, hy, q⟩ := h
  cases rx
  have hus := rv.zero
  subst hus
  obtain ⟨z, its, n, r, hl, e⟩ := I.lstM hH
  obtain ⟨u, hu, ru⟩ := r.get hy
  have hy' : its.toArray[its.toArray.size - 1]? = some u := by
    show its.toArray[its.length - 1]? = some u
    rw [← Array.getElem?_toList, ← hl]
    exact hu
  refine call_meets F.slot_list_pop ⟨_, e, rfl⟩ F.entry_list_pop (F.args_list_pop_1 _) (MeetsSeq.list_pop_last l its.toArray n u hy' (by rw [List.size_toArray]; omega)) ⟨e, ?_⟩
  refine ⟨y, _, I.lset (its' := its.dropLast) hH e ?_ r.dropLast ?_, ru, q⟩
  · show its.toArray.eraseIdxIfInBounds (its.toArray.size - 1) = its.dropLast.toArray
    rw [List.size_toArray, List.eraseIdxIfInBounds_toArray, erase_last]
  · rw [List.length_dropLast]
    omega




def rCat : R2 := fun x y H Q => ∃ l b xs zs, x = .ref l ∧ y = .ref b ∧ H l = some (.lst xs) ∧ H b = some (.lst zs) ∧ xs.length + zs.length ≤ sizeLine ∧ ∀ p, H p = none → Q (.ref p) (upd H p (.lst (xs ++ zs)))
theorem op_cat : OpR X (binaryOp .Add) rCat := by
  intro pins s σ H x y v u Q I rx ry h
  obtain ⟨l, b, xs, zs, rfl, rfl, hH, hB, hz, q⟩ := h
  cases rx
  cases ry
  obtain ⟨z, its, n, r, hl, e⟩ := I.lstM hH
  obtain ⟨z2, its2, n2, r2, hl2, e2⟩ := I.lstM hB
  refine PySem.P.add_list e e2 ?_ (by rw [List.size_toArray, List.size_toArray]; omega)
  have ea : its.toArray ++ its2.toArray = (its ++ its2).toArray := by simp
  rw [ea]
  exact ⟨.ref _, _, I.lnew (t' := s.toks) (r.append r2) (by rw [List.length_append]; omega), rfl, q _ I.fresh⟩

end

section
variable {prog : Program} {w : World} {A : Around} {E : Value → Shared → Prop} {s : Shared}
set_option maxRecDepth 100000 in
end

section
variable {X : Cx}
end
end L2

namespace Att
open PySem PySem.W PySem.Calls PyProof.Rows

theorem ints_of_wellAll {P : Params} {h : Heap} : ∀ (ns : List Int) (vs : List Value), WellAll P h vs (ns.map WData.int) → IntsAre vs ns := by
  intro ns
  induction ns with
  | nil =>
    intro vs w
    rw [List.map_nil] at w
    cases w
    exact .nil
  | cons n ns ih =>
    intro vs w
    rw [List.map_cons] at w
    cases w with
    | cons a b =>
      cases a
      exact .cons _ _ (ih _ b)

theorem script_of {l : OpenLaw} {n : Nat} (hn : l.most = some n) {P : Params} {h : Heap} {args : List WData} {vals : List Value}
    (hpre : l.row.toRowW.claim.pre args = true) (hwl : WellAll P h vals args) :
    ∃ a vs ns, vals = [Value.ref a] ∧ args = [WData.list (ns.map WData.int)] ∧ h.get? a = some { cls := .type "list", data := .seq vs.toArray } ∧ IntsAre vs ns ∧ ns.length ≤ n := by
  have hsh : WShape.hasAll [] args [.list .int] = true := (pre_splitW hpre).1
  have hc : l.pre.holds [] { args := args } = true := (pre_splitW hpre).2
  obtain ⟨d, r, rfl, h1, h2⟩ := hasAllW_cons hsh
  obtain rfl := hasAllW_nil h2
  obtain ⟨xs, rfl, h3⟩ := hasW_list h1
  obtain ⟨ns, rfl⟩ := items_int h3
  have hlen : ns.length ≤ n := by
    unfold OpenLaw.pre at hc
    have h4 : (WTm.not (.lt (.lit (.int (n : Int))) (.len (.arg 0)))).holds [] { args := [.list (ns.map .int)] } = true := by
      have h4 := (holds_andW hc).1
      rw [hn] at h4
      exact h4
    have h5 := condW_of h4 (w_not (w_lt w_lit (w_len_list (w_arg rfl))))
    rw [List.length_map] at h5
    refine Nat.le_of_not_lt fun q => ?_
    have q' : (n : Int) < ((ns.length : Nat) : Int) := by omega
    first
      | (rw [decide_eq_true q'] at h5; exact absurd h5 (by decide))
      | (simp at h5; omega)
  cases hwl with
  | cons w1 w2 =>
    cases w2
    cases w1 with
    | list ho hall => exact ⟨_, _, ns, rfl, rfl, ho, ints_of_wellAll ns _ hall, hlen⟩

theorem post_true (l : OpenLaw) (args : List WData) : l.row.toRowW.claim.post args (.bool true) args = true :=
  postW_of (r := l.row.toRowW) (X := (true == true))
    (show WShape.has [] (.bool true) .bool = true by first | rfl | decide | simp [WShape.has, WShape.arms, WShape.armsAll])
    (show (WTm.eq .res (.lit (.bool true))).value [] { args := args, res := some (.bool true), after := args } = some (.bool (true == true)) from w_eq_bool (w_res rfl) w_lit) rfl


theorem attach_call {l : OpenLaw} {n : Nat} {q : Program} {loose : List Str} {XP : (Str → Option Value) → Heap → Prop} {YP : World → Heap → Prop} {d : DefRec}
    (hn : l.most = some n) (hdf : d.params.defaults = [])
    (call : ∀ (w : World) (s₀ s₁ : Shared) (mg mb : Str → Option Value) (fa : Addr) (o : Obj) (pm cd doc : Value) (a : Addr) (vs : List Value) (ns : List Int),
      Ground q loose [] XP w s₀ mg mb s₁.heap → YP w s₁.heap →
      s₁.heap.get? fa = some o → o.data = .func (docDef d.name d.params d.body d.scope pm cd doc) → s₁.heap.CodeRec cd d.name → mg d.name = some (.ref fa) →
      s₁.heap.get? a = some { cls := .type "list", data := .seq vs.toArray } → IntsAre vs ns → ns.length ≤ n → s₁.gens = #[] →
      codeAny (model l.prog w) callerA (.call (.ref fa) ⟨[.ref a], []⟩) (fun r s' => r = .ok (.ret (.bool true)) ∧ OldK s₁.heap s'.heap ∧ s'.os = s₁.os ∧ AllBare s'.gens) s₁) :
    WalkO q loose XP YP l.row.toRowW d [] (fun f vs => PySem.call f vs) := by
  intro w s₀ s₁ mg mb G Y fa o pm cd doc dV kV ho hd hcd hD hmg hg args vals as hpre hlay hrd hwl hlo
  obtain rfl : dV = .none := Dflts.none hD hdf
  obtain rfl : kV = .none := Dflts.noKw hD
  obtain ⟨a, vs, ns, rfl, rfl, hobj, hints, hlen⟩ := script_of hn hpre hwl
  refine enter_call (codeAny_mono (call w s₀ s₁ mg mb fa o pm cd doc a vs ns G Y ho (fd_plain hd) hcd hmg hobj hints hlen hg) fun r s' hq => ?_)
  obtain ⟨rfl, h2, h3, h4⟩ := hq
  exact ⟨.inl ⟨.bool true, .bool true, [], rfl, fun _ => rfl, .bool true, post_true l _, fun _ => ⟨List.Pairwise.nil, fun _ hm => (nomatch hm)⟩⟩, h2, h3, h4⟩


section
variable {prog : Program} {w : World} {A : Around} {E : Value → Shared → Prop} {s : Shared} {K : Frag}





def ledger (h : Heap) (L d : Addr) : List (Addr × Obj) := (List.range h.objs.size).filterMap fun a => if a = L ∨ a = d then none else (h.get? a).map fun o => (a, o)

end
end Att

namespace L2
open PySem PySem.Spec PyProof.Rows

theorem vals_ints : ∀ {vs : List Value} {ns : List Int}, IntsAre vs ns → Vals (ns.map V.int) vs
  | _, _, .nil => .nil
  | _, _, .cons n t h => .cons ⟨t, rfl⟩ (vals_ints h)

def Only (H : Hp) : Prop := ∀ b, H b = none ∨ ∃ o xs, H b = some (.frz o (.lst xs))

theorem law_call {P : Program} {w : World} {K : PySem.W.Frag} {mg mb : Str → Option Value} {CX : CXT} {k : Nat} {fa a : Addr} {fd : FuncData} {x : Str} {sp : Sp} {s₁ : Shared} {vs : List Value} {ns : List Int}
    (KX : K.In s₁.heap) (hns : s₁.heap.Ns mainGlobals mg) (hb : s₁.heap.Ns builtinsNs mb) (hbb : ∀ x : Str, x ≠ "__name__" → mb x = bootBuiltins x) (hlim : s₁.heap.NoLimit) (hg : s₁.gens = #[])
    (ha : s₁.heap.get? a = some { cls := .type "list", data := .seq vs.toArray }) (hi : IntsAre vs ns) (hl : ns.length ≤ sizeLine) (hr : Room k callerA)
    (F : ∀ base : Heap, K.In base → base.Ns mainGlobals mg → FnOk P w K mg base CX k fa fd [x] sp) (hbind : ∀ (s : Shared) (u : Value), BindsTo s fd ⟨[u], []⟩ [(x, u)])
    (hsp : ∀ H : Hp, Only H → SqL K H a (ns.map V.int) → sp [.ref a] H (fun v _ => v = .bl true) fun _ _ _ => False)
    (hCX : ∀ H e s', CX [] H s₁ (fun _ _ _ => False) e s' → False) :
    codeAny (model P w) callerA (.call (.ref fa) ⟨[.ref a], []⟩) (fun r s' => r = .ok (.ret (.bool true)) ∧ OldK s₁.heap s'.heap ∧ s'.os = s₁.os ∧ AllBare s'.gens) s₁ := by
  have rv := vals_ints hi
  have lenV := hi.length
  -- from an abstract heap in which nothing but the script may be tracked
  have core : ∀ H : Hp, Only H → SqL K H a (ns.map V.int) → HOk P w H s₁.heap → (∀ b, H b ≠ none → b = a) → (H a ≠ none → K.lookup a = none) →
      codeAny (model P w) callerA (.call (.ref fa) ⟨[.ref a], []⟩) (fun r s' => r = .ok (.ret (.bool true)) ∧ OldK s₁.heap s'.heap ∧ s'.os = s₁.os ∧ AllBare s'.gens) s₁ := by
    intro H hO hS hok hA hK
    have base_of : ∀ {b : Addr} {o : Obj}, s₁.heap.get? b = some o → H b = none → (hidT s₁.heap H).get? b = some o := fun e n => hidT_get e n
    have noA : ∀ {b : Addr} {o : Obj} {es : Array DictEntry} {ep : Nat}, s₁.heap.get? b = some o → o.data = .dict es ep → H b = none := fun {b o es ep} e d => by
      cases q : H b with
      | none => rfl
      | some u =>
        have e' : b = a := hA b (by rw [q]; simp)
        subst e'
        rw [ha] at e; cases e
        have d' : Data.seq vs.toArray _ = Data.dict es ep := d
        cases d'
    have nsK : ∀ {b : Addr} {m : Str → Option Value}, s₁.heap.Ns b m → (hidT s₁.heap H).Ns b m := fun {b m} ⟨o, es, ep, e, d, r⟩ => ⟨o, es, ep, base_of e (noA e d), d, r⟩
    have hKb : K.In (hidT s₁.heap H) := fun b o e => base_of (KX b o e) (by
      cases q : H b with
      | none => rfl
      | some u =>
        have e' : b = a := hA b (by rw [q]; simp)
        subst e'
        rw [hK (by rw [q]; simp)] at e; cases e)
    have hM : Mod K mg (hidT s₁.heap H) := ⟨hKb, nsK hns, ⟨mb, nsK hb, hbb⟩, let ⟨mc, h1, h2⟩ := hlim; ⟨mc, nsK h1, h2⟩⟩
    have e0 : Env0 P w K mg (hidT s₁.heap H) callerA [] s₁ H := ⟨rfl, hM, fun b o e => of_hidT e, Nat.le_of_eq (hidT_size _ _), trivial, fun b hb => absurd (show b ∈ ([] : List Addr) from hb) (by simp), hok, .of_eq hg⟩
    refine codeAny_mono ((F _ hKb (nsK hns)).run callerA [] s₁ H ⟨[.ref a], []⟩ [.ref a] [.ref a] _ _ hr e0 (hbind s₁ (.ref a)) (.cons rfl .nil) (hsp H hO hS)) fun r s' h => ?_
    cases r with
    | error e => exact (hCX H e s' h).elim
    | ok fl =>
      cases fl with
      | next => exact False.elim h
      | brk => exact False.elim h
      | cont => exact False.elim h
      | ret u =>
        obtain ⟨v, H', os, bare, un, hok', r', q⟩ := h
        have q' : v = .bl true := q
        subst q'
        obtain rfl : u = Value.bool true := r'
        refine ⟨rfl, OldK.of_keep fun b o e => ?_, os, bare⟩
        cases q : H b with
        | none => exact un.keep b o e q (by intro z; exact absurd (show b ∈ ([] : List Addr) from z) (by simp)) (by simp)
        | some u =>
          rcases hO b with z | ⟨ob, xs, z⟩
          · rw [q] at z; cases z
          · have z2 := un.frzs b ob _ z
            obtain ⟨e1, _⟩ := hok b _ z
            obtain ⟨e2, _⟩ := hok' b _ z2
            rw [e] at e1; cases e1
            exact e2
  cases hk : K.lookup a with
  | some o =>
    -- the script is one of the module's own objects
    have e := KX a o hk
    rw [ha] at e
    cases e
    refine core (fun _ => none) (fun _ => .inl rfl) (.inr ⟨_, vs.toArray, _, hk, rfl, rfl, rfl, by rw [List.size_toArray, lenV]; exact hl, by simpa using rv⟩) (fun b u z => by have z' : (none : Option HO) = some u := z; cases z') (fun b z => absurd rfl z) fun z => absurd rfl z
  | none =>
    refine core (fun b => if b = a then some (.frz { cls := .type "list", data := .seq vs.toArray } (.lst (ns.map V.int))) else none) (fun b => ?_) (.inl (.inr ⟨{ cls := .type "list", data := .seq vs.toArray }, if_pos rfl⟩)) (fun b u z => ?_) (fun b z => ?_) fun _ => hk
    · by_cases hb : b = a
      · exact .inr ⟨_, _, if_pos hb⟩
      · exact .inl (if_neg hb)
    · by_cases hb : b = a
      · have z' := (if_pos hb).symm.trans z
        cases z'
        subst hb
        exact ⟨ha, by rw [List.length_map]; exact hl, vs, _, rv, ha⟩
      · have z' := (if_neg hb).symm.trans z
        cases z'
    · by_cases hb : b = a
      · exact hb
      · exact absurd (if_neg hb) z
end L2

namespace L2
open PySem PySem.Spec PyProof.Rows

abbrev KOf {K : PySem.W.Frag} {h : Heap} (_ : K.In h) : PySem.W.Frag := K

theorem walk_of {l : PySem.W.OpenLaw} {n k : Nat} {q : Program} {loose : List Str} {XP : (Str → Option Value) → Heap → Prop} {YP : World → Heap → Prop} {d : DefRec} {K : Params → PySem.W.Frag} {CX : World → CXT} {sp : World → Sp} {x : Str}
    (hn : l.most = some n) (hn2 : n ≤ sizeLine) (hdf : d.params.defaults = []) (hr : Room k callerA)
    (hY : ∀ (w : World) (h : Heap), YP w h → (K w.params).In h)
    (F : ∀ (w : World) (mg : Str → Option Value) (fa : Addr) (h : Heap), (K w.params).In h → h.Ns mainGlobals mg → mg d.name = some (.ref fa) →
      ∃ fd : FuncData, (∀ (s : Shared) (u : Value), BindsTo s fd ⟨[u], []⟩ [(x, u)]) ∧
        ∀ base : Heap, (K w.params).In base → base.Ns mainGlobals mg → FnOk l.prog w (K w.params) mg base (CX w) k fa fd [x] (sp w))
    (hsp : ∀ (w : World) (H : Hp) (a : Addr) (ns : List Int), ns.length ≤ n → Only H → SqL (K w.params) H a (ns.map V.int) → sp w [.ref a] H (fun v _ => v = .bl true) fun _ _ _ => False)
    (hCX : ∀ (w : World) (H : Hp) (s : Shared) (e : Value) (s' : Shared), CX w [] H s (fun _ _ _ => False) e s' → False) :
    PySem.W.WalkO q loose XP YP l.row.toRowW d [] (fun f vs => PySem.call f vs) := by
  refine Att.attach_call hn hdf fun w s₀ s₁ mg mb fa o pm cd doc a vs ns G Y ho hd hcd hmg hobj hints hlen hg => ?_
  have KX := hY w _ Y
  obtain ⟨fd, hb, hF⟩ := F w mg fa _ KX G.T.g hmg
  exact law_call KX G.T.g G.T.b G.T.builtins G.T.nolimit hg hobj hints (Nat.le_trans hlen hn2) hr hF hb (fun H hO hS => hsp w H a ns hlen hO hS) fun H e s' => hCX w H s₁ e s'
end L2

/- THE LAST THEOREM (shape; LID, My.* are yours):
   My.Adr: a structure of the addresses that your layer names (classes, functions); My.Txt K t: a structure (Prop) of the equations over K;
   My.txt_mk : {K} {implicit addresses ..} (e1 : nsIn K mainGlobals "law" = some (some (.ref f))) (e2 : K.lookup f = some ⟨oc, od, .func (fnOf "law" "law" params body scope dV kV doc pm an cdv ct), sl⟩) (e3 : codeIn K cdv "law" = true) .. : ∃ t, My.Txt K t

set_option maxRecDepth 100000 in
set_option maxHeartbeats 0 in
theorem PySem.Challenge.cw_LID_holds : PySem.Challenge.rw_LID.Holds := by
  w_on; o_law; k_head; (case hw => w_witness2)
  k_fill
  refine L2.walk_of (l := PySem.Challenge.rw_LID) (n := 63) (k := 40) (x := "script") (CX := fun w => ..) (sp := fun _ => My.sp_law) rfl (by decide) rfl ⟨rfl, by decide, by decide⟩ (fun w h Y => PySem.W.kIn_of Y) ?F ?S ?C
  case F =>
    intro w mg fa h KX G hmg
    have T : ∃ t, My.Txt (L2.KOf KX) t := by
      dsimp only [L2.KOf]                          -- K must stand as «<heap const> w.params» for k_is
      refine' My.txt_mk ?e1 ?e2 ?e3 ..
      (case e1 => PySem.W.k_is)                    -- in the order: a name -> its address -> its object -> its parts
      (case e2 => PySem.W.k_is)
      ..
    obtain ⟨t, T⟩ := T
    have e0 := hmg.symm.trans (PySem.W.mg_of KX G T.law)
    cases e0                                       -- fa is the law's own address
    exact ⟨_, fun s u => .of_eq rfl, fun base kb nb => My.law_fn T kb nb⟩     -- if «.of_eq rfl» comes too early: refine' ⟨_, ?b, fun base kb nb => My.law_fn T kb nb⟩; exact fun s u => .of_eq rfl
  case S => exact fun w H a ns hl hO hS => ..
  case C => exact ..
(the tactic k_is has no namespace: write k_is) -/

namespace L2
open PySem PySem.Spec PyProof.Rows

def inClass (s : Stmt) (j : Nat) : Stmt := match s with
  | .ClassDef _ _ _ body _ _ _ _ _ _ _ => body.getD j (.Pass ⟨0, 0, 0, 0⟩)
  | _ => .Pass ⟨0, 0, 0, 0⟩
def defArgs (s : Stmt) : Arguments := match s with
  | .FunctionDef _ a _ _ _ _ _ _ _ _ => a
  | _ => { posonlyargs := [], args := [], vararg := none, kwonlyargs := [], kw_defaults := [], kwarg := none, defaults := [] }
def defBody (s : Stmt) : List Stmt := match s with
  | .FunctionDef _ _ b _ _ _ _ _ _ _ => b
  | _ => []
def defScope (s : Stmt) : Scope := match s with
  | .FunctionDef _ _ _ _ _ _ sc _ _ _ => sc
  | _ => { kind := .function, names := [], isGenerator := false, isCoroutine := false }

abbrev CX0 : CXT := fun _ _ _ _ _ _ => False
abbrev E0 : XK := fun _ _ _ => False
theorem pass0 {X : Cx} : Passes CX0 X E0 := fun _ _ _ _ _ _ _ h => h.elim

structure Fun (K : PySem.W.Frag) (x qual : Str) (st : Stmt) (f : Addr) (fd : FuncData) : Prop where
  ex : ∃ (oc : Value) (od : Option Addr) (kV doc pm : Value) (an : Option Addr) (cdv ct : Value) (osl : Array (Option Value)),
    fd = PySem.W.fnOf x qual (defArgs st) (defBody st) (defScope st) .none kV doc pm an cdv ct ∧ K.lookup f = some ⟨oc, od, .func fd, osl⟩ ∧ PySem.W.codeIn K cdv qual = true
  kp : PySem.W.keepIn K (.ref f) = true
section
variable {P : Program} {w : World} {K : PySem.W.Frag} {mg : Str → Option Value} {base : Heap}
theorem Fun.ok {x qual : Str} {st : Stmt} {f : Addr} {fd : FuncData} {N ps : List Str} {k : Nat} {sp : Sp} (F : Fun K x qual st f fd) (S : FnScope N ps (defScope st)) (len : ∀ vs H Q E, sp vs H Q E → vs.length = ps.length)
    (hbody : ∀ (cdv : Value) (A : Around) (outer : List Env) (s : Shared) (H : Hp) (vs : List V) (Q : VK) (E : XK), Room k (A.deeper (envOfC qual (defScope st) s.heap.objs.size f cdv)) → sp vs H Q E →
      ∃ t, PSs (cxOf CX0 P w K mg base N qual (defScope st) f cdv A outer s H E).nox (defBody st) t ∧ t { nx := fun _ H' => Q .non H', rt := Q } (start N vs) H) : FnOk P w K mg base CX0 (k + 1) f fd ps sp := by
  obtain ⟨oc, od, kV, doc, pm, an, cdv, ct, osl, rfl, lk, hcd⟩ := F.ex
  refine fn_of lk hcd S len fun A outer s H vs Q E hr hsp => ?_
  obtain ⟨t, h, q⟩ := hbody cdv A outer s H vs Q E hr hsp
  exact ⟨t, h.nox, q⟩
theorem Fun.binds {x qual : Str} {st : Stmt} {f : Addr} {fd : FuncData} {ps : List Str} (F : Fun K x qual st f fd)
    (h : ∀ (kV doc pm : Value) (an : Option Addr) (cdv ct : Value) (us : List Value), us.length = ps.length → bindArgs (PySem.W.fnOf x qual (defArgs st) (defBody st) (defScope st) .none kV doc pm an cdv ct) ⟨us, []⟩ = pure (ps.zip us)) : Binds K fd ps [] := by
  obtain ⟨oc, od, kV, doc, pm, an, cdv, ct, osl, rfl, lk, hcd⟩ := F.ex
  exact .all (h kV doc pm an cdv ct)
theorem fun_mk {x qual : Str} {st : Stmt} {f : Addr} {oc : Value} {od an : Option Addr} {osl : Array (Option Value)} {kV doc pm cdv ct : Value} (l : K.lookup f = some ⟨oc, od, .func (PySem.W.fnOf x qual (defArgs st) (defBody st) (defScope st) .none kV doc pm an cdv ct), osl⟩)
    (c : PySem.W.codeIn K cdv qual = true) (k : PySem.W.keepIn K (.ref f) = true) : Fun K x qual st f (PySem.W.fnOf x qual (defArgs st) (defBody st) (defScope st) .none kV doc pm an cdv ct) := ⟨⟨oc, od, kV, doc, pm, an, cdv, ct, osl, rfl, l, c⟩, k⟩
end
theorem hu_of {A : Around} {k : Nat} (hr : Room k A) : A.units + 1 < cLine := Nat.lt_of_le_of_lt (Nat.add_le_add_left (by decide : 1 ≤ 64) _) hr.units
theorem small1000 {n : Nat} (h : n ≤ 1000) : n < sizeLine := Nat.lt_of_le_of_lt h (by decide)

section
variable {X : Cx}
theorem pv (i : Nat) {x : Str} {pos : Pos} (hN : X.N[i]? = some x := by rfl) (hv : Vis X.env.scope x := by first | exact Or.inl rfl | exact Or.inr (Or.inl rfl) | exact Or.inr (Or.inr rfl)) (hd : (x == ("__debug__" : Str)) = false := by decide)
    (hcd : (x == ("__classdict__" : Str)) = false := by decide) : PE X (.Name x pos) (tVar i) := pe_var hN hv hd hcd
end

theorem iteF {A B : Prop} (h : B) : if false = true then A else B := by
  rw [if_neg Bool.false_ne_true]
  exact h
theorem ite2 {c A B : Prop} [Decidable c] (h1 : c → A) (h2 : ¬ c → B) : if c then A else B := by
  by_cases h : c
  · rw [if_pos h]
    exact h1 h
  · rw [if_neg h]
    exact h2 h

def Same (H H' : Hp) : Prop := ∀ b o, H b = some o → H' b = some o
theorem Same.refl (H : Hp) : Same H H := fun _ _ h => h
theorem Same.trans {H H1 H2 : Hp} (a : Same H H1) (b : Same H1 H2) : Same H H2 := fun c o h => b c o (a c o h)
theorem Same.free {H H' : Hp} (e : Same H H') {l : Addr} (h : H' l = Option.none) : H l = Option.none := by
  cases q : H l with
  | none => rfl
  | some o =>
    rw [e l o q] at h
    cases h
theorem Same.seq {K : PySem.W.Frag} {H H' : Hp} {a : Addr} {xs : List V} (e : Same H H') (h : SqL K H a xs) : SqL K H' a xs := by
  rcases h with (h | ⟨o, h⟩) | h
  · exact .inl (.inl (e _ _ h))
  · exact .inl (.inr ⟨o, e _ _ h⟩)
  · exact .inr h

end L2

set_option maxHeartbeats 4000000
namespace L2
open PySem
def closOf (env : Env) : List (Str × NameKind) → List (Str × Addr) → List (Str × Addr)
  | [], cs => cs
  | (n, k) :: r, cs => if (k == .free) = true then closOf env r ((n, (env.cells.lookup n).getD 0) :: cs) else closOf env r cs
theorem closureFor_of {sc : Scope} {env : Env} (h : ∀ n, (n, NameKind.free) ∈ sc.names → ∃ c, env.cells.lookup n = some c) : closureFor sc env = pure (closOf env sc.names []) := by
  simp only [closureFor]
  generalize sc.names = l at h
  generalize ([] : List (Str × Addr)) = cs
  induction l generalizing cs with
  | nil => rfl
  | cons x r ih =>
    obtain ⟨n, k⟩ := x
    have hr : ∀ n, (n, NameKind.free) ∈ r → ∃ c, env.cells.lookup n = some c := fun n hn => h n (List.mem_cons_of_mem _ hn)
    rw [List.forIn_cons, closOf]
    by_cases hk : (k == NameKind.free) = true
    · have hk' : k = .free := by cases k <;> first | rfl | exact absurd hk (by decide)
      subst hk'
      obtain ⟨c, hc⟩ := h n List.mem_cons_self
      have e : cellOf env n = pure c := by unfold cellOf; rw [hc]
      simp only [e]
      rw [if_pos hk, if_pos hk, hc]
      exact ih hr _
    · rw [if_neg hk, if_neg hk]
      exact ih hr _
theorem closOf_lookup {env : Env} {x : Str} {c : Addr} : ∀ (l : List (Str × NameKind)) (cs : List (Str × Addr)), (∀ n, (n, NameKind.free) ∈ l → ∃ c, env.cells.lookup n = some c) → (∀ y d, cs.lookup y = some d → env.cells.lookup y = some d) →
    (closOf env l cs).lookup x = some c → env.cells.lookup x = some c
  | [], cs, _, hc, e => hc x c e
  | (n, k) :: r, cs, h, hc, e => by
    have hr : ∀ n, (n, NameKind.free) ∈ r → ∃ c, env.cells.lookup n = some c := fun n hn => h n (List.mem_cons_of_mem _ hn)
    rw [closOf] at e
    split at e
    · rename_i hk
      have hk' : k = .free := by cases k <;> first | rfl | exact absurd hk (by decide)
      subst hk'
      obtain ⟨c', hc'⟩ := h n List.mem_cons_self
      refine closOf_lookup r _ hr (fun y d hy => ?_) e
      rw [List.lookup_cons] at hy
      split at hy
      · rename_i hyn
        have : y = n := eq_of_beq hyn
        subst this
        rw [hc'] at hy
        rw [hc']; exact hy
      · exact hc y d hy
    · exact closOf_lookup r cs hr hc e
theorem closOf_has {env : Env} {x : Str} : ∀ (l : List (Str × NameKind)) (cs : List (Str × Addr)), ((x, NameKind.free) ∈ l ∨ ∃ d, cs.lookup x = some d) → ∃ d, (closOf env l cs).lookup x = some d
  | [], cs, h => by
    rcases h with h | h
    · cases h
    · exact h
  | (n, k) :: r, cs, h => by
    rw [closOf]
    split
    · rename_i hk
      refine closOf_has r _ ?_
      by_cases hx : x = n
      · subst hx; exact .inr ⟨_, by rw [List.lookup_cons]; simp; rfl⟩
      · rcases h with h | ⟨d, h⟩
        · rcases List.mem_cons.mp h with e | e
          · exact absurd (congrArg Prod.fst e) hx
          · exact .inl e
        · refine .inr ⟨d, ?_⟩
          rw [List.lookup_cons]
          have : (x == n) = false := by simpa using hx
          rw [this]; exact h
    · rename_i hk
      refine closOf_has r _ ?_
      rcases h with h | h
      · rcases List.mem_cons.mp h with e | e
        · have : k = .free := (congrArg Prod.snd e).symm
          subst this
          exact absurd rfl hk
        · exact .inl e
      · exact .inr h

theorem relabel_of {env : Env} {x : Str} {k' : NameKind} : ∀ {names : List (Str × NameKind)}, (names.map fun (n, k) => if (k == NameKind.free && env.scope.kind == .function && env.kindOf n == some .cell) then (n, NameKind.cell) else (n, k)).lookup x = some k' →
    ∃ k, names.lookup x = some k ∧ (k' = k ∨ (k = .free ∧ k' = .cell))
  | [], h => by simp at h
  | (n, k) :: r, h => by
    have ih := @relabel_of env x k' r
    have h' : List.lookup x ((if (k == NameKind.free && env.scope.kind == .function && env.kindOf n == some .cell) = true then (n, NameKind.cell) else (n, k)) :: (r.map fun (n, k) => if (k == NameKind.free && env.scope.kind == .function && env.kindOf n == some .cell) then (n, NameKind.cell) else (n, k))) = some k' := h
    cases hx : x == n with
    | true =>
      refine ⟨k, by rw [List.lookup_cons, hx], ?_⟩
      by_cases hc : (k == NameKind.free && env.scope.kind == .function && env.kindOf n == some .cell) = true
      · rw [if_pos hc, List.lookup_cons, hx] at h'
        have hk : (k == NameKind.free) = true := by
          rw [Bool.and_eq_true, Bool.and_eq_true] at hc
          exact hc.1.1
        exact .inr ⟨eq_of_beq hk, (Option.some.inj h').symm⟩
      · rw [if_neg hc, List.lookup_cons, hx] at h'
        exact .inl (Option.some.inj h').symm
    | false =>
      rw [List.lookup_cons, hx]
      by_cases hc : (k == NameKind.free && env.scope.kind == .function && env.kindOf n == some .cell) = true
      · rw [if_pos hc, List.lookup_cons, hx] at h'; exact ih h'
      · rw [if_neg hc, List.lookup_cons, hx] at h'; exact ih h'
theorem relabel_cell {env : Env} {x : Str} (hf : env.scope.kind = .function) (hx : env.kindOf x = some .cell) : ∀ {names : List (Str × NameKind)}, names.lookup x = some .free →
    (names.map fun (n, k) => if (k == NameKind.free && env.scope.kind == .function && env.kindOf n == some .cell) then (n, NameKind.cell) else (n, k)).lookup x = some .cell
  | [], h => by simp at h
  | (n, k) :: r, h => by
    have ih := @relabel_cell env x hf hx r
    show List.lookup x ((if (k == NameKind.free && env.scope.kind == .function && env.kindOf n == some .cell) = true then (n, NameKind.cell) else (n, k)) :: (r.map fun (n, k) => if (k == NameKind.free && env.scope.kind == .function && env.kindOf n == some .cell) then (n, NameKind.cell) else (n, k))) = some .cell
    cases hxn : x == n with
    | true =>
      rw [List.lookup_cons, hxn] at h
      have hk : k = .free := Option.some.inj h
      have hn : n = x := (eq_of_beq hxn).symm
      subst hk hn
      rw [if_pos (by rw [hf, hx]; decide), List.lookup_cons, hxn]
    | false =>
      rw [List.lookup_cons, hxn] at h
      by_cases hc : (k == NameKind.free && env.scope.kind == .function && env.kindOf n == some .cell) = true
      · rw [if_pos hc, List.lookup_cons, hxn]; exact ih h
      · rw [if_neg hc, List.lookup_cons, hxn]; exact ih h
def compOk (NX : List Str) (sX sc : Scope) (N : List Str) (pick : List (Option Nat)) : Bool :=
  decide (sc.kind = .function) && (sc.names.all fun y => decide (y.2 ≠ .cell)) && (sc.names.all fun y => decide (y.2 ≠ .local) || decide (sc.names.lookup y.1 = some .local)) &&
  (sc.names.all fun y => decide (y.2 ≠ .free) || decide (sX.names.lookup y.1 = some .cell)) && decide (pick.length = N.length) &&
  ((List.range N.length).all fun i => match pick[i]?, N[i]? with
    | some (some j), some x => decide (NX[j]? = some x) && decide (sc.names.lookup x = some .free) && decide (sX.names.lookup x = some .cell)
    | _, _ => true)
structure CompSc (NX : List Str) (sX sc : Scope) (N : List Str) (pick : List (Option Nat)) : Prop where
  kind : sc.kind = .function
  nocell : ∀ y ∈ sc.names, y.2 ≠ .cell
  names : ∀ y ∈ sc.names, y.2 = .local → sc.names.lookup y.1 = some .local
  free : ∀ n, (n, NameKind.free) ∈ sc.names → sX.names.lookup n = some .cell
  len : pick.length = N.length
  pk : ∀ (i j : Nat) (x : Str), pick[i]? = some (some j) → N[i]? = some x → NX[j]? = some x ∧ sc.names.lookup x = some .free ∧ sX.names.lookup x = some .cell
theorem compSc_of {NX : List Str} {sX sc : Scope} {N : List Str} {pick : List (Option Nat)} (h : compOk NX sX sc N pick = true) : CompSc NX sX sc N pick := by
  unfold compOk at h
  rw [Bool.and_eq_true, Bool.and_eq_true, Bool.and_eq_true, Bool.and_eq_true, Bool.and_eq_true] at h
  obtain ⟨⟨⟨⟨⟨h1, h2⟩, h3⟩, h4⟩, h5⟩, h6⟩ := h
  rw [List.all_eq_true] at h2 h3 h4 h6
  refine ⟨of_decide_eq_true h1, fun y hy => of_decide_eq_true (h2 y hy), fun y hy hl => ?_, fun n hn => ?_, of_decide_eq_true h5, fun i j x e1 e2 => ?_⟩
  · have q := h3 y hy
    rw [Bool.or_eq_true] at q
    rcases q with q | q
    · exact absurd hl (of_decide_eq_true q)
    · exact of_decide_eq_true q
  · have q := h4 _ hn
    rw [Bool.or_eq_true] at q
    rcases q with q | q
    · exact absurd rfl (of_decide_eq_true q)
    · exact of_decide_eq_true q
  · have q := h6 i (List.mem_range.mpr (List.getElem?_eq_some_iff.mp e2).1)
    rw [e1, e2] at q
    have q' : (decide (NX[j]? = some x) && decide (sc.names.lookup x = some .free) && decide (sX.names.lookup x = some .cell)) = true := q
    rw [Bool.and_eq_true, Bool.and_eq_true] at q'
    exact ⟨of_decide_eq_true q'.1.1, of_decide_eq_true q'.1.2, of_decide_eq_true q'.2⟩

section
variable {prog : Program} {w : World} {A : Around} {E : Value → Shared → Prop} {R : Result → Shared → Prop} {s : Shared}
theorem compLoop_any {elt target iter : Expr} {ifs : List Expr} {scope : Scope} {pos : Pos} {it acc : Value} {env : Env} (I : Nat → Shared → Prop)
    (turn : ∀ n s, I n s → wpAny (model prog w) A (pyNext it) (fun r s₁ => match r with
      | none => R (.ok .next) s₁
      | some v => wpAny (model prog w) A (letOwnedTupleGo target it v) (fun _ s₀ => wpAny (model prog w) A (assign target env v) (fun _ s₂ =>
          wpAny (model prog w) A (forIn ifs true fun c r => if r = true then do let ok ← isTrue c env (eval c env); pure (ForInStep.yield ok) else pure (ForInStep.yield r)) (fun ok s₃ =>
            if ok = true then wpAny (model prog w) A (eval elt env) (fun x s₄ =>
              wpAny (model prog w) A (call (.builtin "list.append") [acc, x]) (fun _ s₅ => ∃ m, m < n ∧ I m s₅) (notedBy (model prog w) A env fun e s' => R (.error e) s') s₄) (notedBy (model prog w) A env fun e s' => R (.error e) s') s₃
            else ∃ m, m < n ∧ I m s₃) (notedBy (model prog w) A env fun e s' => R (.error e) s') s₂) (notedBy (model prog w) A env fun e s' => R (.error e) s') s₀) (notedBy (model prog w) A env fun e s' => R (.error e) s') s₁) (notedBy (model prog w) A env fun e s' => R (.error e) s') s)
    (n : Nat) (h : I n s) :
    codeAny (model prog w) A (.compLoop (.ListComp elt [⟨target, iter, ifs, 0⟩] scope pos) 0 it acc env) R s := by
  refine codeAny_loop rfl I (fun n s hI => ?_) n h
  show wpAny _ A ((compTurn (.ListComp elt [⟨target, iter, ifs, 0⟩] scope pos) 0 it acc env).onRaise (fun x => do noteFrame x env; theTreesLotGoes x)) _ _ s
  refine wpAny_noted ?_
  rw [compTurn_list]
  refine wpAny_bind (wpAny_standAt (wpAny_bind (wpAny_mono (turn n s hI) (fun r s₁ h₁ => ?_) fun _ _ h' => h')))
  cases r with
  | none => exact wpAny_pure h₁
  | some v =>
    refine wpAny_bind (wpAny_mono h₁ (fun _ s₀ h₀ => ?_) fun _ _ h' => h')
    refine wpAny_bind (wpAny_mono h₀ (fun _ s₂ h₂ => wpAny_bind (wpAny_mono h₂ (fun ok s₃ h₃ => ?_) fun _ _ h' => h')) fun _ _ h' => h')
    cases ok with
    | false => exact wpAny_pure ⟨rfl, h₃⟩
    | true =>
      exact wpAny_bind (wpAny_bind (wpAny_mono h₃ (fun x s₄ h₄ => wpAny_bind (wpAny_mono h₄ (fun _ s₅ h₅ => wpAny_pure (wpAny_pure ⟨rfl, h₅⟩)) fun _ _ h' => h')) fun _ _ h' => h'))
end
end L2

namespace L2
open PySem PySem.Spec PyProof.Rows
theorem Inv.track {X : Cx} {pins : List (Addr × Obj)} {σ : St} {H : Hp} {s : Shared} {a : Addr} {o : HO} (I : Inv X pins σ H s) (hn : H a = none) (hL : a ≠ X.env.locals) (h1 : X.s₀.heap.objs.size ≤ a)
    (h2 : ∀ x c, X.env.cells.lookup x = some c → c ≠ a) (h3 : ∀ p ∈ X.pn ++ pins, p.1 ≠ a) (new : ObjOk X.prog X.w (upd H a o) s.heap a o) : Inv X pins σ (upd H a o) s := by
  have ne : ∀ b u, H b = some u → b ≠ a := fun b u e => ne_of_none e hn
  have old : ∀ b ob, X.s₀.heap.get? b = some ob → b ≠ a := fun b ob e z => by
    subst z; exact absurd (Nat.lt_of_lt_of_le (Heap.lt_size e) h1) (Nat.lt_irrefl _)
  refine ⟨I.ok, I.os, I.bare, ⟨I.base.keep, I.base.slot, fun b ob e n hx => ?_, I.base.there, fun b xs e => ?_, fun b ob u e => ?_, fun b ps e => ?_⟩, I.loc, I.cell, ?_, fun x c e => ?_, fun p hp => ?_, fun b u e => ?_, I.len⟩
  · rw [upd_ne (old b ob e)]; exact I.base.free b ob e n hx
  · have q := I.base.tups b xs e; rw [upd_ne (ne b _ q)]; exact q
  · have q := I.base.frzs b ob u e; rw [upd_ne (ne b _ q)]; exact q
  · obtain ⟨more, q⟩ := I.base.tbls b ps e; exact ⟨more, by rw [upd_ne (ne b _ q)]; exact q⟩
  · rw [upd_ne (Ne.symm hL)]; exact I.free
  · rw [upd_ne (h2 x c e)]; exact I.freeC x c e
  · obtain ⟨e, n, ne', nf, d⟩ := I.pin p hp
    exact ⟨e, by rw [upd_ne (h3 p hp)]; exact n, ne', nf, d⟩
  · by_cases hb : b = a
    · subst hb; rw [upd_same] at e; cases e; exact new
    · rw [upd_ne hb] at e
      exact (I.hok b u e).stay (fun _ _ _ q => q) (fun c q => by rw [upd_ne (ne c _ q)]; exact q) fun c xs q => by rw [upd_ne (ne c _ q)]; exact q

def Cx.blk (X : Cx) (sc : Scope) (N : List Str) (C : Addr) (s₀ : Shared) (H₀ : Hp) (ex : List Addr) : Cx :=
  { X with N := N, s₀ := s₀, H₀ := H₀, env := compEnvC sc (closOf X.env sc.names []) C X.env, outer := X.stack, ex := ex, fn := fun _ => false, pn := [], xe := fun _ _ => False }
def pickS (pick : List (Option Nat)) (σ : St) : St := pick.map fun o => match o with
  | none => none
  | some j => match σ[j]? with
    | some (some v) => some v
    | _ => none
theorem pickS_get {pick : List (Option Nat)} {σ : St} {i : Nat} {v : V} (h : (pickS pick σ)[i]? = some (some v)) : ∃ j, pick[i]? = some (some j) ∧ σ[j]? = some (some v) := by
  unfold pickS at h
  rw [List.getElem?_map] at h
  cases e : pick[i]? with
  | none => rw [e] at h; cases h
  | some o =>
    rw [e] at h
    cases o with
    | none => cases h
    | some j =>
      refine ⟨j, rfl, ?_⟩
      have h' : (match σ[j]? with | some (some v) => some v | _ => none) = some v := Option.some.inj h
      cases e2 : σ[j]? with
      | none => rw [e2] at h'; cases h'
      | some o2 =>
        rw [e2] at h'
        cases o2 with
        | none => cases h'
        | some v' => cases h'; rfl
section
variable {X : Cx} {pins : List (Addr × Obj)} {σ : St} {H : Hp} {s₂ : Shared} {NX N : List Str} {sX sc : Scope} {pick : List (Option Nat)} {fp : List Addr}
theorem blk_cell (I : Inv X pins σ H s₂) (ck : CompSc NX sX sc N pick) (hX : X.env.scope = sX) {x : Str} {c : Addr} (e : (closOf X.env sc.names []).lookup x = some c) : X.env.cells.lookup x = some c :=
  closOf_lookup sc.names [] (fun n hn => I.ok.has n (.inl (by show X.env.scope.names.lookup n = _; rw [hX]; exact ck.free n hn))) (fun _ _ h => by simp at h) e
theorem blk_clos (I : Inv X pins σ H s₂) (ck : CompSc NX sX sc N pick) (hX : X.env.scope = sX) : closureFor sc X.env = pure (closOf X.env sc.names []) :=
  closureFor_of fun n hn => I.ok.has n (.inl (by show X.env.scope.names.lookup n = _; rw [hX]; exact ck.free n hn))
theorem blk_fp (I : Inv X pins σ H s₂) (ck : CompSc NX sX sc N pick) (hX : X.env.scope = sX) {C D : Addr} {od : Obj} {H' : Hp} (hC : s₂.heap.objs.size ≤ C) (hD : s₂.heap.objs.size ≤ D) (hf : ∀ b ∈ fp, FpOk X pins H b) (hfl : ∀ b ∈ fp, b < s₂.heap.objs.size) (hn : ∀ b ∈ fp, H' b = none) :
    ∀ b ∈ fp, FpOk (X.blk sc N C s₂ H fp) [(D, od)] H' b := fun b hb => by
  obtain ⟨f0, f1, f2, f3, f4, f5⟩ := hf b hb
  have hlt := hfl b hb
  refine ⟨hn b hb, Nat.ne_of_lt (Nat.lt_of_lt_of_le hlt hC), fun z => ?_, .inl hb, fun x c e => f4 x c (blk_cell I ck hX e), fun p hp => ?_⟩
  · rcases List.mem_cons.mp (I.stkSub b z) with e | e
    · exact f1 e
    · exact f2 e
  · have hp' : p ∈ [(D, od)] := hp
    rw [List.mem_singleton] at hp'
    subst hp'
    exact Nat.ne_of_gt (Nat.lt_of_lt_of_le hlt hD)
theorem blk_inv (I : Inv X pins σ H s₂) (ck : CompSc NX sX sc N pick) (hN : X.N = NX) (hX : X.env.scope = sX) (hf : ∀ b ∈ fp, FpOk X pins H b) (hfl : ∀ b ∈ fp, b < s₂.heap.objs.size) {h₁ : Heap} {C D : Addr} {od : Obj} {m : Str → Option Value} {tk : Nat}
    (old : ∀ b o, s₂.heap.get? b = some o → h₁.get? b = some o) (hD : s₂.heap.objs.size ≤ D) (hC : s₂.heap.objs.size ≤ C) (hDC : D ≠ C) (hod : h₁.get? D = some od) (hodc : ∀ v, od.data ≠ .cell v) (ns : h₁.Ns C m) :
    Inv (X.blk sc N C s₂ H fp) [(D, od)] (pickS pick σ) H { s₂ with heap := h₁, toks := tk } := by
  have kX : X.env.scope.kind = .function := I.ok.kind
  have noStk : ∀ b, s₂.heap.objs.size ≤ b → b ∉ frs X.stack := fun b hb z => by
    rcases List.mem_cons.mp (I.stkSub b z) with e | e
    · exact absurd (Nat.lt_of_lt_of_le I.lt (by rw [← e]; exact hb)) (Nat.lt_irrefl _)
    · exact I.nofs hb e
  have ok : (X.blk sc N C s₂ H fp).Ok := by
    refine ⟨I.ok.mod, ck.kind, I.ok.glob, I.ok.blt, hC, fun x y c h1 h2 => ?_, fun x hx => ?_, fun x c h _ => ?_, I.ok.hd, I.ok.frames, .inl rfl, fun b hb => ?_, I.bs, Nat.le_trans I.ok.bsz I.sz, fun b o e hb => ?_, fun b hb z => ?_, I.stack, I.stkFree⟩
    · exact I.ok.inj x y c (blk_cell I ck hX h1) (blk_cell I ck hX h2)
    · have hx' : (relabel sc X.env).names.lookup x = some .cell ∨ (relabel sc X.env).names.lookup x = some .free := hx
      refine closOf_has sc.names [] (.inl ?_)
      rcases hx' with h | h
      · obtain ⟨k, h1, h2⟩ := relabel_of h
        rcases h2 with h2 | ⟨h2, _⟩
        · exact absurd h2.symm (ck.nocell _ (PySem.mem_of_lookup h1))
        · rw [h2] at h1; exact PySem.mem_of_lookup h1
      · obtain ⟨k, h1, h2⟩ := relabel_of h
        rcases h2 with h2 | ⟨_, h2⟩
        · rw [← h2] at h1; exact PySem.mem_of_lookup h1
        · cases h2
    · cases h
    · have hlt := hfl b hb
      exact ⟨Nat.ne_of_lt (Nat.lt_of_lt_of_le hlt hC), fun x c e => (hf b hb).2.2.2.2.1 x c (blk_cell I ck hX e)⟩
    · rcases (hf b hb).2.2.2.1 with z | z
      · exact I.ok.noex b o e z
      · exact absurd (Nat.lt_of_lt_of_le (Heap.lt_size e) (Nat.le_trans I.ok.bsz z)) (Nat.lt_irrefl _)
    · rcases List.mem_cons.mp (I.stkSub b z) with e | e
      · exact (hf b hb).2.1 e
      · exact (hf b hb).2.2.1 e
  refine ⟨ok, rfl, I.bare, Un.kept old, ⟨m, ns, fun i x v h1 h2 h3 => ?_⟩, fun x c e => ?_, I.hok.fresh hC, fun x c e => I.freeC x c (blk_cell I ck hX e), fun p hp => ?_, I.hok.kept old, ?_⟩
  · obtain ⟨j, hp, hσ⟩ := pickS_get h2
    obtain ⟨hNX, hfr, hcl⟩ := ck.pk i j x hp h1
    have kx : X.env.kindOf x = some .cell := by show X.env.scope.names.lookup x = _; rw [hX]; exact hcl
    obtain ⟨mX, _, hl⟩ := I.loc
    obtain ⟨u, r, l⟩ := hl j x v (by rw [hN]; exact hNX) hσ (.inr (.inl kx))
    refine ⟨u, r, .inr ⟨.inl (relabel_cell kX kx hfr), ?_⟩⟩
    rcases l with ⟨k, _⟩ | ⟨_, c, e, z⟩
    · rw [kx] at k; cases k
    · obtain ⟨d, hd⟩ := closOf_has (env := X.env) (x := x) sc.names [] (.inl (PySem.mem_of_lookup hfr))
      have hd' := blk_cell I ck hX hd
      rw [e] at hd'; cases hd'
      obtain ⟨o, ho, hc⟩ := z
      exact ⟨c, hd, o, old _ _ ho, hc⟩
  · obtain ⟨v, o, ho, hc⟩ := I.cell x c (blk_cell I ck hX e)
    exact ⟨v, o, old _ _ ho, hc⟩
  · have hp' : p ∈ [(D, od)] := hp
    rw [List.mem_singleton] at hp'
    subst hp'
    exact ⟨hod, I.hok.fresh hD, hDC, noStk D hD, hodc⟩
  · unfold pickS
    rw [List.length_map]
    exact ck.len
end

def PIfs (X : Cx) (ifs : List Expr) (t : TT) : Prop :=
  ∀ (pins : List (Addr × Obj)) (s : Shared) (σ : St) (H : Hp) (Q : Bool → Hp → Prop), Inv X pins σ H s → t σ H Q →
    wpAny (model X.prog X.w) X.A (forIn ifs true fun c r => if r = true then do let ok ← isTrue c X.env (eval c X.env); pure (ForInStep.yield ok) else pure (ForInStep.yield r)) (TP X pins σ Q) X.xe s
def tYes : TT := fun _ H Q => Q true H
theorem pifs_nil {X : Cx} : PIfs X [] tYes := fun _ _ _ H _ I h => wpAny_tests_nil ⟨H, I, h⟩

def tComp (wi : TI) (pick : List (Option Nat)) (g : TG) (ti : TT) (te : TE) : TE := fun σ H Q => wi σ H fun J H1 => ∃ W : Nat → Nat → List V → St → Hp → Prop, (∃ m, W 0 m [] (pickS pick σ) H1) ∧ ∀ i m ys σ' H', W i m ys σ' H' → ys.length ≤ sizeLine ∧
  ((J.stop i H' ∧ ∀ p, H' p = none → Q (.ref p) (upd H' p (.lst ys))) ∨
   (J.go i H' ∧ ∃ N : List V → St → Hp → Prop, (∀ zs τ L, N zs τ L → ∃ m', m' < m ∧ W (i + 1) m' zs τ L) ∧ ∀ x H2, J.yld i H' x H2 → g x σ' H2 fun σ3 H3 => ti σ3 H3 fun b H4 => if b = true then te σ3 H4 fun v H5 => N (ys ++ [v]) σ3 H5 else N ys σ3 H4))

section
variable {X : Cx} {tg iter elt : Expr} {ifs : List Expr} {NX N : List Str} {sX sc : Scope} {pick : List (Option Nat)} {wi : TI} {g : TG} {ti : TT} {te : TE} {pos : Pos}
theorem comp_block {pins : List (Addr × Obj)} {σ : St} {H : Hp} {s₂ : Shared} {it : Addr} {fp : List Addr} {tn : Nat → Heap → Prop} {J : It} {Qv : V → Hp → Prop} {E : Value → Shared → Prop} {RR : Value → Addr → Result → Shared → Prop}
    (ck : CompSc NX sX sc N pick) (hN : X.N = NX) (hX : X.env.scope = sX) (hc : X.calm = true)
    (hg : ∀ C s₀ H₀ ex, PG (X.blk sc N C s₀ H₀ ex) tg g) (hifs : ∀ C s₀ H₀ ex, PIfs (X.blk sc N C s₀ H₀ ex) ifs ti) (he : ∀ C s₀ H₀ ex, PE (X.blk sc N C s₀ H₀ ex) elt te)
    (I : Inv X pins σ H s₂) (T : Turn X.prog X.w X.K tg J fp it tn) (st : tn 0 s₂.heap) (hf : ∀ b ∈ fp, FpOk X pins H b)
    (hW : ∃ W : Nat → Nat → List V → St → Hp → Prop, (∃ m, W 0 m [] (pickS pick σ) H) ∧ ∀ i m ys σ' H', W i m ys σ' H' → ys.length ≤ sizeLine ∧
      ((J.stop i H' ∧ ∀ p, H' p = none → Qv (.ref p) (upd H' p (.lst ys))) ∨
       (J.go i H' ∧ ∃ N : List V → St → Hp → Prop, (∀ zs τ L, N zs τ L → ∃ m', m' < m ∧ W (i + 1) m' zs τ L) ∧ ∀ x H2, J.yld i H' x H2 → g x σ' H2 fun σ3 H3 => ti σ3 H3 fun b H4 => if b = true then te σ3 H4 fun v H5 => N (ys ++ [v]) σ3 H5 else N ys σ3 H4)))
    (fin : ∀ (D C : Addr) (s' : Shared) (H' : Hp) (ys : List V) (m : Str → Option Value), D ≠ C → s₂.heap.objs.size ≤ C → H' C = none → s'.heap.Ns C m → Inv X pins σ (upd H' D (.lst ys)) s' → Qv (.ref D) (upd H' D (.lst ys)) → RR (.ref D) C (.ok .next) s') :
    wpAny (model X.prog X.w) X.A (newList []) (fun acc s₃ => wpAny (model X.prog X.w) X.A (newFunctionEnv sc X.env.globals (closOf X.env sc.names []) [] X.env.qual none .none (some X.env)) (fun cenv s₄ =>
      codeAny (model X.prog X.w) X.A (.compStart (.ListComp elt [⟨tg, iter, ifs, 0⟩] sc pos) 0 (.ref it) acc { cenv with scope := relabel sc X.env }) (RR acc cenv.locals) s₄) E s₃) E s₂ := by
  obtain ⟨W, ⟨m0, w0⟩, turn⟩ := hW
  refine wpAny_newObj_type (wpAny_newFunctionEnv ck.nocell (by intro y hy; simp at hy) (fun h₁ hns₁ hsb₁ => ?_) ck.kind)
  dsimp only at hns₁ hsb₁ ⊢
  generalize hH2 : s₂.heap.push { cls := .type "list", dict := none, data := .seq ([] : List Value).toArray } = H2 at hns₁ hsb₁ ⊢
  have hC : H2.objs.size = s₂.heap.objs.size + 1 := by rw [← hH2, Heap.size_push]
  have hDC : s₂.heap.objs.size ≠ H2.objs.size := by rw [hC]; exact Nat.ne_of_lt (Nat.lt_succ_self _)
  have hCle : s₂.heap.objs.size ≤ H2.objs.size := by rw [hC]; exact Nat.le_succ _
  have old : ∀ b o, s₂.heap.get? b = some o → h₁.get? b = some o := fun b o e =>
    hsb₁.extBut b o (Nat.ne_of_lt (Nat.lt_of_lt_of_le (Heap.lt_size e) hCle)) (Heap.get?_push_of_some _ (hH2 ▸ Heap.get?_push_of_some _ e))
  have hacc : h₁.get? s₂.heap.objs.size = some { cls := .type "list", data := .seq ([] : List Value).toArray } := hsb₁.extBut _ _ hDC (Heap.get?_push_of_some _ (hH2 ▸ Heap.get?_push_size _ rfl))
  have hfl : ∀ b ∈ fp, b < s₂.heap.objs.size := fun b hb => by
    obtain ⟨o, e, _⟩ := T.obj 0 _ st b hb
    exact Heap.lt_size e
  have st₁ : tn 0 h₁ := T.keep 0 _ _ st fun b _ o e => old b o e
  generalize hDd : s₂.heap.objs.size = D at *
  generalize hCc : H2.objs.size = C at *
  have loop : ∀ s₃ : Shared, s₃ = { s₂ with heap := h₁, toks := s₂.toks + ([] : List (Str × Value)).length } →
      codeAny (model X.prog X.w) X.A (.compLoop (.ListComp elt [⟨tg, iter, ifs, 0⟩] sc pos) 0 (.ref it) (.ref D) (X.blk sc N C s₂ H fp).env) (RR (.ref D) C) s₃ := by
    rintro s₃ rfl
    have I0 : Inv (X.blk sc N C s₂ H fp) [(D, { cls := .type "list", data := .seq ([] : List Value).toArray })] (pickS pick σ) H { s₂ with heap := h₁, toks := s₂.toks + ([] : List (Str × Value)).length } :=
      blk_inv I ck hN hX hf (fun b hb => by rw [hDd]; exact hfl b hb) old (Nat.le_of_eq hDd) (by rw [hDd]; exact hCle) hDC hacc (fun v z => by cases z) hns₁
    have fpk : ∀ {od : Obj} {H' : Hp}, (∀ b ∈ fp, H' b = none) → ∀ b ∈ fp, FpOk (X.blk sc N C s₂ H fp) [(D, od)] H' b := fun {od H'} hn =>
      blk_fp I ck hX (by rw [hDd]; exact hCle) (Nat.le_of_eq hDd) hf (fun b hb => by rw [hDd]; exact hfl b hb) hn
    refine compLoop_any (fun n s' => ∃ (i : Nat) (ys : List V) (its : List Value) (c : Nat) (σ' : St) (H' : Hp), Inv (X.blk sc N C s₂ H fp) [(D, { cls := .type "list", data := .seq its.toArray c })] σ' H' s' ∧ Vals ys its ∧ tn i s'.heap ∧ (∀ b ∈ fp, H' b = none) ∧ W i n ys σ' H') ?_ m0
      ⟨0, [], [], 0, pickS pick σ, H, I0, .nil, st₁, fun b hb => (hf b hb).1, w0⟩
    rintro n s' ⟨i, ys, its, c, σ', H', I', rv, st', fr, w⟩
    obtain ⟨hlen, tw⟩ := turn i n ys σ' H' w
    rcases tw with ⟨stop, qn⟩ | ⟨go, Nx, hNx, step⟩
    · refine thn (T.done (X.blk sc N C s₂ H fp) rfl rfl rfl hc i _ s' σ' H' _ I' (fpk fr) st' stop) fun r s4 ⟨hr, I4⟩ => ?_
      subst hr
      obtain ⟨m, hn, _⟩ := I4.loc
      obtain ⟨p1, p2, p3, p4, _⟩ := I4.pin (D, _) (List.mem_append_right _ (List.mem_singleton.mpr rfl))
      have Jx : Inv X pins σ H' s4 := I.call' (ch := fp) I4.os I4.base I4.hok I4.bare fun b hb => ⟨(hf b hb).2.2.2.1, (hf b hb).2.1, (hf b hb).2.2.2.2.1, (hf b hb).2.2.2.2.2⟩
      obtain ⟨k0, k1, k2, k3, k4, k5⟩ := I.fpOk (H' := H') (b := D) (Nat.le_of_eq hDd) p2
      have Jt : Inv X pins σ (upd H' D (.lst ys)) s4 := Jx.track p2 k1 (by rw [← hDd]; exact I.sz) k4 k5 ⟨hlen, its, c, rv, p1⟩
      exact fin D C s4 H' ys m hDC hCle I4.free hn Jt (qn D p2)
    · refine thn (T.item (X.blk sc N C s₂ H fp) rfl rfl rfl hc i _ s' σ' H' _ I' (fpk fr) st' go) fun r s4 ⟨u, hr, h4⟩ => ?_
      subst hr
      refine thn h4 fun _ s5 ⟨x, H5, I5, r5, y5, st5, fr5⟩ => ?_
      have I5' := I5.pinned (fpk fr5) (T.obj _ _ st5)
      refine wpAny_mono (hg C s₂ H fp _ s5 σ' H5 x u _ I5' r5 (step x H5 y5)) (fun _ s6 ⟨σ6, H6, I6, q6⟩ => ?_) fun _ _ z => False.elim z
      refine wpAny_mono (hifs C s₂ H fp _ s6 σ6 H6 _ I6 q6) (fun b s7 ⟨H7, I7, q7⟩ => ?_) fun _ _ z => False.elim z
      -- what the pins say behind any step
      have keeps : ∀ {σ' : St} {H' : Hp} {s' : Shared}, Inv (X.blk sc N C s₂ H fp) ([(D, { cls := .type "list", data := .seq its.toArray c })] ++ pinsAt fp s5.heap) σ' H' s' →
          (∀ b ∈ fp, ∀ o, s5.heap.get? b = some o → s'.heap.get? b = some o) ∧ (∀ b ∈ fp, H' b = none) := fun {σ' H' s'} Iz =>
        ⟨fun b hb o e => (Iz.pin (b, o) (List.mem_append_right _ (List.mem_append_right _ (mem_pinsAt hb e)))).1, fun b hb => by
          obtain ⟨o, e, d⟩ := T.obj _ _ st5 b hb
          exact (Iz.pin (b, o) (List.mem_append_right _ (List.mem_append_right _ (mem_pinsAt hb e)))).2.1⟩
      cases b with
      | false =>
        rw [if_neg Bool.false_ne_true] at q7 ⊢
        obtain ⟨m', hm, w7⟩ := hNx _ _ _ q7
        obtain ⟨k1, k2⟩ := keeps I7
        exact ⟨m', hm, i + 1, ys, its, c, σ6, H7, I7.unpinned, rv, T.keep _ _ _ st5 k1, k2, w7⟩
      | true =>
        rw [if_pos rfl] at q7 ⊢
        refine wpAny_mono (he C s₂ H fp _ s7 σ6 H7 _ I7 q7) (fun y s8 ⟨v, H8, I8, r8, q8⟩ => ?_) fun _ _ z => False.elim z
        obtain ⟨m', hm, w8⟩ := hNx _ _ _ q8
        obtain ⟨k1, k2⟩ := keeps I8
        obtain ⟨p1, p2, p3, p4, p5⟩ := I8.pin (D, _) (List.mem_append_right _ (List.mem_append_left _ (List.mem_singleton.mpr rfl)))
        have hsz : its.toArray.size ≤ sizeLine := by
          rw [List.size_toArray, ← rv.length]; exact hlen
        refine wpAny_list_append_plain (hsz := hsz) ⟨c, p1⟩ fun h₉ ⟨c9, e9⟩ hs₉ => ?_
        have J0 : Inv (X.blk sc N C s₂ H fp) [] σ6 H8 s8 := I8.pins_of fun p hp => absurd hp (by simp)
        have J1 : Inv (X.blk sc N C s₂ H fp) [] σ6 H8 { s8 with heap := h₉ } := J0.turned (t' := s8.toks) (it := D) (fun b o hb e => hs₉.extBut b o hb e) p2 p3 (.inr (Nat.le_of_eq hDd)) (fun x c' e z => by
          obtain ⟨v', o', ho', _⟩ := I.cell x c' (blk_cell I ck hX e)
          have := Heap.lt_size ho'
          rw [hDd, z] at this
          exact absurd this (Nat.lt_irrefl _)) (fun p hp => absurd hp (by intro z; cases z))
        have eArr : its.toArray.push y = (its ++ [y]).toArray := by simp
        rw [eArr] at e9
        refine ⟨m', hm, i + 1, ys ++ [v], its ++ [y], c9, σ6, H8, J1.pins_of fun p hp => ?_, rv.append (.cons r8 .nil), T.keep _ _ _ st5 fun b hb o e => hs₉.extBut b o (Nat.ne_of_lt (hfl b hb)) (k1 b hb o e), k2, w8⟩
        rw [List.mem_singleton] at hp
        subst hp
        exact ⟨e9, p2, p3, p4, fun v z => by cases z⟩
  exact codeAny_compStart_list (loop _ rfl) (T.self X.A 0 _ _ _ st₁ (loop _ rfl))

theorem pe_comp (ck : compOk NX sX sc N pick = true) (hN : X.N = NX) (hX : X.env.scope = sX) (hc : X.calm = true) (hi : PI X tg iter wi)
    (hg : ∀ C s₀ H₀ ex, PG (X.blk sc N C s₀ H₀ ex) tg g) (hifs : ∀ C s₀ H₀ ex, PIfs (X.blk sc N C s₀ H₀ ex) ifs ti) (he : ∀ C s₀ H₀ ex, PE (X.blk sc N C s₀ H₀ ex) elt te)
    (hs : ∀ x, foldedSetIterable iter X.env x = pure x := by intro _; rfl) : PE X (.ListComp elt [⟨tg, iter, ifs, 0⟩] sc pos) (tComp wi pick g ti te) := by
  intro pins s σ H Q I h
  have ck := compSc_of ck
  rw [eval_ListComp]
  refine wpAny_comprehension_free (use := none) (cl := closOf X.env sc.names []) rfl hs (blk_clos I ck hX) ck.kind ck.names (thn (hi pins s σ H _ I h) fun v s1 h1 => thn h1 fun itv s2 h2 => ?_)
  obtain ⟨it, fp, tn, J, H2, e, I2, T, st2, f2, hW⟩ := h2
  subst e
  refine comp_block (Qv := Q) (RR := fun acc C => compPost (model X.prog X.w) X.A X.xe none (EP X pins σ Q) acc C) ck hN hX hc hg hifs he I2 T st2 f2 hW ?_
  intro D C s' H' ys m hDC hC hCn ns Jt q
  refine ⟨m, ns, fun h' hs' => ?_⟩
  obtain ⟨k0, k1, k2, k3, k4, k5⟩ := I2.fpOk (H' := upd H' D (.lst ys)) (b := C) hC (by rw [upd_ne (Ne.symm hDC)]; exact hCn)
  exact ⟨.ref D, _, Jt.turned (t' := s'.toks) (it := C) (fun b o hb e => hs'.extBut b o hb e) k0 k1 k3 k4 k5, rfl, q⟩

theorem ps_setC {i : Nat} {x : Str} {px spos : Pos} (hNd : X.N.Nodup) (hi' : X.N[i]? = some x) (hx : X.env.scope.names.lookup x = some .local) (ck : compOk NX sX sc N pick = true) (hN : X.N = NX) (hX : X.env.scope = sX) (hc : X.calm = true) (hi : PI X tg iter wi)
    (hg : ∀ C s₀ H₀ ex, PG (X.blk sc N C s₀ H₀ ex) tg g) (hifs : ∀ C s₀ H₀ ex, PIfs (X.blk sc N C s₀ H₀ ex) ifs ti) (he : ∀ C s₀ H₀ ex, PE (X.blk sc N C s₀ H₀ ex) elt te)
    (hsw : swapsWith (.ListComp elt [⟨tg, iter, ifs, 0⟩] sc pos) (some (.Name x px)) spos.line X.env = pure true := by rfl)
    (hs : ∀ x, foldedSetIterable iter X.env x = pure x := by intro _; rfl) : PS X (.Assign [.Name x px] (.ListComp elt [⟨tg, iter, ifs, 0⟩] sc pos) spos) (tAsg (tComp wi pick g ti te) (gName i)) := by
  intro pins s σ H D I h
  have ck := compSc_of ck
  rw [exec_Assign_Name_used _ _ _ _ hsw]
  refine wpAny_bind (wpAny_standAt (wpAny_bind ?_))
  show wpAny _ X.A (do let _ ← comprehension (.ListComp elt [⟨tg, iter, ifs, 0⟩] sc pos) sc X.env _ (newList []) false (eval iter X.env) (some (assign (.Name x px) X.env))) _ _ s
  refine wpAny_bind (wpAny_mono (wpAny_comprehension_free (use := some (assign (.Name x px) X.env)) (cl := closOf X.env sc.names []) (Q := fun _ s' => SP X pins D .next s') rfl hs (blk_clos I ck hX) ck.kind ck.names
    (thn (hi pins s σ H _ I h) fun v s1 h1 => thn h1 fun itv s2 h2 => ?_)) (fun _ s' q => ?_) fun _ _ z => z)
  · obtain ⟨it, fp, tn, J, H2, e, I2, T, st2, f2, hW⟩ := h2
    subst e
    refine comp_block (Qv := fun v H' => D.nx (σ.set i (some v)) H') (RR := fun acc C => compPost (model X.prog X.w) X.A X.xe (some (assign (.Name x px) X.env)) (fun _ s' => SP X pins D .next s') acc C) ck hN hX hc hg hifs he I2 T st2 f2 hW ?_
    intro D' C s' H' ys m hDC hC hCn ns Jt q
    refine wpAny_assign_Name (store_ok2 (v := .ref D') Jt hNd hi' (.inl hx) rfl (fun s'' J' ⟨a, sb, ha⟩ => ?_) (.inr hx))
    obtain ⟨k0, k1, k2, k3, k4, k5⟩ := I2.fpOk (H' := upd H' D' (.lst ys)) (b := C) hC (by rw [upd_ne (Ne.symm hDC)]; exact hCn)
    have hCa : C ≠ a := by
      rcases ha with z | z
      · rw [z]; exact k1
      · exact fun e => k4 x a z e.symm
    refine ⟨m, ns.sameBut sb hCa, fun h' hs' => ?_⟩
    exact ⟨_, _, J'.turned (t' := s''.toks) (it := C) (fun b o hb e => hs'.extBut b o hb e) k0 k1 k3 k4 k5, q⟩
  · first
      | exact wpAny_pure (wpAny_pure q)
      | exact wpAny_pure q
end

section
variable {g : TG} {ti : TT} {te : TE} {Q : VK} {σ : St} {H : Hp}
theorem comp_list {K : PySem.W.Frag} {a : Addr} {xs : List V} (Pv : Nat → List V → St → Hp → Prop) (h0 : Pv 0 [] σ H) (hl : ∀ i ys σ H, i ≤ xs.length → Pv i ys σ H → SqL K H a xs ∧ ys.length ≤ sizeLine)
    (hs : ∀ i x ys σ H, xs[i]? = some x → Pv i ys σ H → g x σ H fun σ3 H3 => ti σ3 H3 fun b H4 => if b = true then te σ3 H4 fun v H5 => Pv (i + 1) (ys ++ [v]) σ3 H5 else Pv (i + 1) ys σ3 H4)
    (hd : ∀ ys σ H, Pv xs.length ys σ H → ∀ p, H p = none → Q (.ref p) (upd H p (.lst ys))) :
    ∃ W : Nat → Nat → List V → St → Hp → Prop, (∃ m, W 0 m [] σ H) ∧ ∀ i m ys σ' H', W i m ys σ' H' → ys.length ≤ sizeLine ∧
      (((Itl K a).stop i H' ∧ ∀ p, H' p = none → Q (.ref p) (upd H' p (.lst ys))) ∨
       ((Itl K a).go i H' ∧ ∃ N : List V → St → Hp → Prop, (∀ zs τ L, N zs τ L → ∃ m', m' < m ∧ W (i + 1) m' zs τ L) ∧ ∀ x H2, (Itl K a).yld i H' x H2 → g x σ' H2 fun σ3 H3 => ti σ3 H3 fun b H4 => if b = true then te σ3 H4 fun v H5 => N (ys ++ [v]) σ3 H5 else N ys σ3 H4)) := by
  refine ⟨fun i m ys σ H => m = xs.length - i ∧ i ≤ xs.length ∧ Pv i ys σ H, ⟨xs.length, by simp, Nat.zero_le _, h0⟩, ?_⟩
  rintro i m ys σ H ⟨rfl, hi, p⟩
  obtain ⟨q, hz⟩ := hl i ys σ H hi p
  refine ⟨hz, ?_⟩
  by_cases hlt : i < xs.length
  · refine .inr ⟨⟨xs, xs[i], q, by simp [hlt]⟩, Pv (i + 1), fun zs σ' H' p' => ⟨xs.length - (i + 1), by omega, rfl, hlt, p'⟩, fun x H' y => ?_⟩
    obtain ⟨e, y⟩ := y
    subst e
    exact hs i x ys σ _ (y xs q) p
  · have e : i = xs.length := by omega
    subst e
    exact .inl ⟨⟨xs, q, Nat.le_refl _⟩, hd ys σ H p⟩
theorem comp_range {lo : Int} {n : Nat} (Pv : Nat → List V → St → Hp → Prop) (h0 : Pv 0 [] σ H) (hl : ∀ i ys σ H, i ≤ n → Pv i ys σ H → ys.length ≤ sizeLine)
    (hs : ∀ i ys σ H, i < n → Pv i ys σ H → g (.int (lo + i)) σ H fun σ3 H3 => ti σ3 H3 fun b H4 => if b = true then te σ3 H4 fun v H5 => Pv (i + 1) (ys ++ [v]) σ3 H5 else Pv (i + 1) ys σ3 H4)
    (hd : ∀ ys σ H, Pv n ys σ H → ∀ p, H p = none → Q (.ref p) (upd H p (.lst ys))) :
    ∃ W : Nat → Nat → List V → St → Hp → Prop, (∃ m, W 0 m [] σ H) ∧ ∀ i m ys σ' H', W i m ys σ' H' → ys.length ≤ sizeLine ∧
      (((Itr lo n).stop i H' ∧ ∀ p, H' p = none → Q (.ref p) (upd H' p (.lst ys))) ∨
       ((Itr lo n).go i H' ∧ ∃ N : List V → St → Hp → Prop, (∀ zs τ L, N zs τ L → ∃ m', m' < m ∧ W (i + 1) m' zs τ L) ∧ ∀ x H2, (Itr lo n).yld i H' x H2 → g x σ' H2 fun σ3 H3 => ti σ3 H3 fun b H4 => if b = true then te σ3 H4 fun v H5 => N (ys ++ [v]) σ3 H5 else N ys σ3 H4)) := by
  refine ⟨fun i m ys σ H => m = n - i ∧ i ≤ n ∧ Pv i ys σ H, ⟨n, by simp, Nat.zero_le _, h0⟩, ?_⟩
  rintro i m ys σ H ⟨rfl, hi, p⟩
  refine ⟨hl i ys σ H hi p, ?_⟩
  by_cases hlt : i < n
  · refine .inr ⟨hlt, Pv (i + 1), fun zs σ' H' p' => ⟨n - (i + 1), by omega, rfl, hlt, p'⟩, fun x H' y => ?_⟩
    obtain ⟨e, y⟩ := y
    subst e y
    exact hs i ys σ _ hlt p
  · have e : i = n := by omega
    subst e
    exact .inl ⟨Nat.le_refl _, hd ys σ H p⟩
end

end L2

namespace L2
open PySem PySem.Spec PyProof.Rows
def ItrS (lo st : Int) (n : Nat) : It := ⟨fun i _ => i < n, fun i H x H' => H' = H ∧ x = .int (lo + i * st), fun i _ => n ≤ i⟩
section
variable {X : Cx} {tg : Expr}
def iRng3 (ta : TA) : TI := fun σ H R => ta σ H fun vs H1 => ∃ j c : Int, vs = [.int 0, .int j, .int c] ∧ (0 ≤ j ∧ j ≤ 16777216 ∧ 1 ≤ c ∧ c ≤ 1000000) ∧ R (ItrS 0 c ((j + c - 1) / c).toNat) H1
end

def Ite (K : PySem.W.Frag) (a : Addr) : It :=
  ⟨fun i H => ∃ xs x, SqL K H a xs ∧ xs[i]? = some x, fun i H x H' => ∃ (T : Addr) (y : V), H T = none ∧ x = .ref T ∧ H' = upd H T (.tup [.int i, y]) ∧ ∀ xs, SqL K H a xs → xs[i]? = some y, fun i H => ∃ xs, SqL K H a xs ∧ xs.length ≤ i⟩
theorem turn_enum {P : Program} {w : World} {K : PySem.W.Frag} {es : List Expr} {k : Nat} {tp : Pos} (a e it : Addr) (hei : e ≠ it) : Turn P w K (.Tuple es k tp) (Ite K a) [e, it] e (fun i h => (∃ old, IsEnum h e it i old) ∧ h.IsListIter it a i) where
  mem := by simp
  obj := fun i h q b hb => by
    obtain ⟨⟨old, he⟩, o, ho, c, d⟩ := q
    have hb' : b = e ∨ b = it := by simpa using hb
    rcases hb' with z | z
    · subst z
      exact ⟨_, he, fun v z => by
        have z' : Data.fields _ = Data.cell v := z
        cases z'⟩
    · subst z
      exact ⟨o, ho, fun v z => by rw [d] at z; cases z⟩
  keep := fun i h h' q kk => ⟨let ⟨old, he⟩ := q.1; ⟨old, kk e (by simp) _ he⟩, q.2.at fun o x => kk it (by simp) o x⟩
  item := by
    intro X hP hw hK hc i pins s σ H E I hf q hg
    subst hP hw hK
    obtain ⟨xs, x, hq, hx⟩ := hg
    obtain ⟨its, rv, p, hz⟩ := I.list hq
    obtain ⟨u, hu, ru⟩ := rv.get hx
    obtain ⟨⟨old, he⟩, hit⟩ := q
    obtain ⟨f0, f1, f2, f3, f4, f5⟩ := hf e (by simp)
    obtain ⟨g0, g1, g2, g3, g4, g5⟩ := hf it (by simp)
    refine wpAny_pyNext_enum_item he hit p.isList (x := u) (by simpa using hu) hei fun h' ho hit' hT hsz hk => ?_
    refine ⟨_, rfl, wpAny_letOwnedTupleGo_enum ho fun h2 he2 hs2 => ?_⟩
    have helt : e < s.heap.objs.size := Heap.lt_size he
    -- both records have turned, the tuple is new
    have k2 : ∀ b o, b ≠ e → b ≠ it → s.heap.get? b = some o → h2.get? b = some o := fun b o b1 b2 q => hs2.extBut b o b1 (hk b o b1 b2 q)
    have hT2 : h2.get? s.heap.objs.size = some { cls := .type "tuple", data := .seq #[.int i s.toks, u] } := hs2.extBut _ _ (Nat.ne_of_gt helt) hT
    have fn : H s.heap.objs.size = none := I.hok.fresh (Nat.le_refl _)
    have I1 : Inv X pins σ (upd H s.heap.objs.size (.tup [.int i, x])) { s with heap := h2, toks := s.toks + 1 } := by
      obtain ⟨m, ⟨oL, es, ep, hoL, rL⟩, _⟩ := id I.loc
      refine I.step (g' := s.gens) (d' := s.drawn) (ch := [e, it]) (fun b hb => ?_) (fun b o _ _ hcx q _ => k2 b o (fun z => hcx (by simp [z])) (fun z => hcx (by simp [z])) q)
        (fun b o _ _ hcx q _ => ⟨o.slots, k2 b o (fun z => hcx (by simp [z])) (fun z => hcx (by simp [z])) q⟩) (fun b o _ q n => ?_) (fun b o hcx q => ⟨o, k2 b o (fun z => hcx (by simp [z])) (fun z => hcx (by simp [z])) q⟩)
        (fun b ys q => by rw [upd_ne (ne_of_none q fn)]; exact q) (fun b o u q => by rw [upd_ne (ne_of_none q fn)]; exact q) (fun b ps q => ⟨#[], by rw [upd_ne (ne_of_none q fn), q]; simp⟩) (fun m' hm => ?_) (fun b v q => ?_) I.bare
      · have hb' : b = e ∨ b = it := by simpa using hb
        rcases hb' with z | z
        · subst z; exact ⟨f3, f1, f4, f5⟩
        · subst z; exact ⟨g3, g1, g4, g5⟩
      · rw [upd_ne (Nat.ne_of_lt (Heap.lt_size q))]; exact n
      · obtain ⟨o', es', ep', ho', r'⟩ := hm
        exact ⟨o', es', ep', k2 _ _ (Ne.symm f1) (Ne.symm g1) ho', r'⟩
      · by_cases hb : b = s.heap.objs.size
        · subst hb
          rw [upd_same] at q
          cases q
          exact ⟨by show 2 ≤ sizeLine; decide, [.int i s.toks, u], .cons ⟨_, rfl⟩ (.cons ru .nil), _, hT2, rfl, _, rfl⟩
        · rw [upd_ne hb] at q
          refine (I.hok b v q).stay (fun c w hcx r => k2 c w ?_ ?_ r) (fun c r => by rw [upd_ne (ne_of_none r fn)]; exact r) fun c ys r => by rw [upd_ne (ne_of_none r fn)]; exact r
          · intro z; subst z
            rcases hcx with z | z
            · rw [← z, f0] at q; cases q
            · rw [f0] at z; cases z
          · intro z; subst z
            rcases hcx with z | z
            · rw [← z, g0] at q; cases q
            · rw [g0] at z; cases z
    refine ⟨.ref s.heap.objs.size, _, I1, rfl, ⟨_, x, fn, rfl, rfl, fun ys hy => by rw [I.list_inj hy hq]; exact hx⟩, ⟨⟨_, by simpa using he2⟩, hit'.at fun o y => (hs2.2 it hei.symm).trans y⟩, fun b hb => ?_⟩
    have hb' : b = e ∨ b = it := by simpa using hb
    rcases hb' with z | z
    · subst z; rw [upd_ne (Nat.ne_of_lt helt)]; exact f0
    · subst z
      obtain ⟨o, ho', _⟩ := hit
      rw [upd_ne (Nat.ne_of_lt (Heap.lt_size ho'))]; exact g0
  done := by
    intro X hP hw hK hc i pins s σ H E I hf q hg
    subst hP hw hK
    obtain ⟨xs, hq, hx⟩ := hg
    obtain ⟨its, rv, p, hz⟩ := I.list hq
    obtain ⟨⟨old, he⟩, hit⟩ := q
    obtain ⟨g0, g1, g2, g3, g4, g5⟩ := hf it (by simp)
    have hl := rv.length
    exact wpAny_pyNext_enum_end (I.ok.hd hc) he hit p.isList (by simp; omega) fun h' eb => ⟨rfl, I.turned (t' := s.toks) (fun b o hb e => eb b o hb e) g0 g1 g3 g4 g5⟩
  self := fun _ _ _ _ _ q h => let ⟨⟨_, he⟩, _⟩ := q; wpAny_pyIter_enum he h
section
variable {X : Cx} {es : List Expr} {k : Nat} {tp : Pos}
def iEnum (K : PySem.W.Frag) (ta : TA) : TI := fun σ H R => ta σ H fun vs H1 => ∃ a, vs = [.ref a] ∧ (∃ xs, SqL K H1 a xs) ∧ R (Ite K a) H1
theorem boot_enum : bootBuiltins "enumerate" = some (.type "enumerate") := by decide +kernel
theorem pi_enum {a : Expr} {ta : TA} {p pos : Pos} (hg : Gl X "enumerate") (hm : X.mg "enumerate" = none) (ha : PA X [a] ta) (hs : starEach [a] X.env = [(false, eval a X.env)] := by rfl) :
    PI X (.Tuple es k tp) (.Call (.Name "enumerate" p) [a] [] pos) (iEnum X.K ta) := by
  intro pins s σ H R I h
  refine Call_ (ld_blt I hg hm boot_enum (PyProof.Rows.callWith_type1 (thn (ha pos pins s σ H _ I h) fun us s1 ⟨vs, H1, I1, r1, q1⟩ => ?_) hs rfl))
  obtain ⟨a', e, ⟨xs, hq⟩, q⟩ := q1
  subst e
  obtain ⟨u, rfl, ru⟩ := vals1 r1
  cases ru
  obtain ⟨its, rv, pl, hz⟩ := I1.list hq
  refine call_enumerate_list pl.isList fun h' he hit hsz kp => ?_
  refine wpAny_pyIter_enum he ?_
  have I2 : Inv X pins σ H1 { s1 with heap := h' } := I1.kept (t' := s1.toks) kp
  refine ⟨s1.heap.objs.size + 1, [s1.heap.objs.size + 1, s1.heap.objs.size], _, _, H1, rfl, I2, turn_enum a' _ _ (Nat.succ_ne_self _), ⟨⟨_, he⟩, hit⟩, fun b hb => ?_, q⟩
  have hb' : b = s1.heap.objs.size + 1 ∨ b = s1.heap.objs.size := by simpa using hb
  rcases hb' with z | z
  · subst z; exact I1.fpOk (Nat.le_succ _) (I1.hok.fresh (Nat.le_succ _))
  · subst z; exact I1.fpOk (Nat.le_refl _) (I1.hok.fresh (Nat.le_refl _))
theorem for_enum {K : PySem.W.Frag} {a : Addr} {xs : List V} {g : TG} {tb : TS} {D : Ends} {σ : St} {H : Hp} (Pv : Nat → St → Hp → Prop) (h0 : Pv 0 σ H) (hl : ∀ i σ H, i ≤ xs.length → Pv i σ H → SqL K H a xs)
    (hs : ∀ (i : Nat) y T σ H, xs[i]? = some y → Pv i σ H → H T = none → g (.ref T) σ (upd H T (.tup [.int i, y])) fun σ2 H2 => tb { D with nx := Pv (i + 1), ct := Pv (i + 1), bk := D.nx } σ2 H2) (hd : ∀ σ H, Pv xs.length σ H → D.nx σ H) :
    ∃ W : Nat → Nat → St → Hp → Prop, (∃ m, W 0 m σ H) ∧ ∀ i m σ H, W i m σ H →
      ((Ite K a).stop i H ∧ D.nx σ H) ∨ ((Ite K a).go i H ∧ ∃ N : St → Hp → Prop, (∀ σ' H', N σ' H' → ∃ m', m' < m ∧ W (i + 1) m' σ' H') ∧ ∀ x H', (Ite K a).yld i H x H' → g x σ H' fun σ2 H2 => tb { D with nx := N, ct := N, bk := D.nx } σ2 H2) := by
  refine ⟨fun i m σ H => m = xs.length - i ∧ i ≤ xs.length ∧ Pv i σ H, ⟨xs.length, by simp, Nat.zero_le _, h0⟩, ?_⟩
  rintro i m σ H ⟨rfl, hi, p⟩
  have q := hl i σ H hi p
  by_cases hlt : i < xs.length
  · refine .inr ⟨⟨xs, xs[i], q, by simp [hlt]⟩, Pv (i + 1), fun σ' H' p' => ⟨xs.length - (i + 1), by omega, rfl, hlt, p'⟩, fun x H' y => ?_⟩
    obtain ⟨T, y, hT, e1, e2, e3⟩ := y
    subst e1 e2
    exact hs i y T σ H (e3 xs q) p hT
  · have e : i = xs.length := by omega
    subst e
    exact .inl ⟨⟨xs, q, Nat.le_refl _⟩, hd σ H p⟩
end

section
variable {X : Cx}
end

inductive DV where
  | non | bl (b : Bool) | int (i : Int) | str (x : Str) | lst (ds : List DV) | tup (ds : List DV)
mutual
def Deep (K : PySem.W.Frag) (H : Hp) : DV → V → Prop
  | .non, v => v = .non
  | .bl b, v => v = .bl b
  | .int i, v => v = .int i
  | .str x, v => v = .str x
  | .lst ds, v => ∃ a xs, v = .ref a ∧ SqL K H a xs ∧ Deeps K H ds xs
  | .tup ds, v => ∃ a xs, v = .ref a ∧ SqT K H a xs ∧ Deeps K H ds xs
def Deeps (K : PySem.W.Frag) (H : Hp) : List DV → List V → Prop
  | [], xs => xs = []
  | d :: ds, xs => ∃ y ys, xs = y :: ys ∧ Deep K H d y ∧ Deeps K H ds ys
end
theorem Deeps.length {K : PySem.W.Frag} {H : Hp} : ∀ {ds : List DV} {xs : List V}, Deeps K H ds xs → xs.length = ds.length
  | [], xs, h => by rw [Deeps] at h; subst h; rfl
  | d :: ds, xs, h => by rw [Deeps] at h; obtain ⟨y, ys, rfl, _, h⟩ := h; rw [List.length_cons, List.length_cons, Deeps.length h]
mutual
def dep : DV → Nat
  | .lst ds => deps ds + 1
  | .tup ds => deps ds + 1
  | _ => 0
def deps : List DV → Nat
  | [] => 0
  | d :: ds => max (dep d) (deps ds)
end
def stays {K : PySem.W.Frag} {H H' : Hp} : Prop := (∀ a xs, SqL K H a xs → SqL K H' a xs) ∧ ∀ a xs, SqT K H a xs → SqT K H' a xs
theorem Same.tup {K : PySem.W.Frag} {H H' : Hp} {a : Addr} {xs : List V} (e : Same H H') (h : SqT K H a xs) : SqT K H' a xs := by
  rcases h with (h | ⟨o, h⟩) | h
  · exact .inl (.inl (e _ _ h))
  · exact .inl (.inr ⟨o, e _ _ h⟩)
  · exact .inr h
mutual
theorem Deep.same {K : PySem.W.Frag} {H H' : Hp} (e : Same H H') : ∀ (d : DV) (v : V), Deep K H d v → Deep K H' d v
  | .non, v, h => by rw [Deep] at h ⊢; exact h
  | .bl b, v, h => by rw [Deep] at h ⊢; exact h
  | .int i, v, h => by rw [Deep] at h ⊢; exact h
  | .str x, v, h => by rw [Deep] at h ⊢; exact h
  | .lst ds, v, h => by rw [Deep] at h ⊢; obtain ⟨a, xs, r, q, t⟩ := h; exact ⟨a, xs, r, e.seq q, Deeps.same e ds xs t⟩
  | .tup ds, v, h => by rw [Deep] at h ⊢; obtain ⟨a, xs, r, q, t⟩ := h; exact ⟨a, xs, r, e.tup q, Deeps.same e ds xs t⟩
theorem Deeps.same {K : PySem.W.Frag} {H H' : Hp} (e : Same H H') : ∀ (ds : List DV) (xs : List V), Deeps K H ds xs → Deeps K H' ds xs
  | [], xs, h => by rw [Deeps] at h ⊢; exact h
  | d :: ds, xs, h => by rw [Deeps] at h ⊢; obtain ⟨y, ys, r, q, t⟩ := h; exact ⟨y, ys, r, Deep.same e d y q, Deeps.same e ds ys t⟩
end
/- the same data is equal -/
theorem all_yes : ∀ l : List Nat, (l.all fun _ => true) = true
  | [] => rfl
  | _ :: r => by rw [List.all_cons, all_yes r]; rfl
mutual
theorem eqAt_deep {X : Cx} {pins : List (Addr × Obj)} {σ : St} {H : Hp} {s : Shared} (I : Inv X pins σ H s) : ∀ (d : DV) (x y : V) (u v : Value) (A : Around), Deep X.K H d x → Deep X.K H d y → RelV x u → RelV y v → A.units + dep d < cLine → SeqAt.EqAt A s u v true
  | .non, x, y, u, v, A, hx, hy, rx, ry, hu => by
    rw [Deep] at hx hy; subst hx hy; cases rx; cases ry; exact SeqAt.EqAt.same _
  | .bl b, x, y, u, v, A, hx, hy, rx, ry, hu => by
    rw [Deep] at hx hy; subst hx hy; cases rx; cases ry; exact SeqAt.EqAt.same _
  | .int i, x, y, u, v, A, hx, hy, rx, ry, hu => by
    rw [Deep] at hx hy; subst hx hy; obtain ⟨t, rfl⟩ := rx; obtain ⟨t', rfl⟩ := ry
    have := SeqAt.EqAt.int_int (A := A) (s := s) i t i t'
    simpa using this
  | .str z, x, y, u, v, A, hx, hy, rx, ry, hu => by
    rw [Deep] at hx hy; subst hx hy; obtain ⟨t, rfl⟩ := rx; obtain ⟨t', rfl⟩ := ry
    have := SeqAt.EqAt.str_str (A := A) (s := s) z t z t'
    simpa using this
  | .lst ds, x, y, u, v, A, hx, hy, rx, ry, hu => by
    rw [Deep] at hx hy
    obtain ⟨a, xs, rfl, hq, hd⟩ := hx
    obtain ⟨b, ys, rfl, hq', hd'⟩ := hy
    cases rx; cases ry
    by_cases hab : a = b
    · subst hab; exact SeqAt.EqAt.same _
    · obtain ⟨its, r, pl, hz⟩ := I.list hq
      obtain ⟨its', r', pl', hz'⟩ := I.list hq'
      have l1 := r.length; have l2 := r'.length; have l3 := hd.length; have l4 := hd'.length
      have hu' : A.units + (deps ds + 1) < cLine := hu
      have q := SeqAt.RcAt.lists (A := A) (e := fun _ => true) pl.isList pl'.isList (by simp only [List.size_toArray]; omega) (by omega) fun j h1 h2 => by
        have := eqsAt_deep I ds xs ys its its' A.in1 hd hd' r r' (by rw [Around.in1_units]; omega) j (by simpa using h1) (by simpa using h2)
        simpa using this
      refine SeqAt.EqAt.of_refs hab ?_
      rw [all_yes] at q
      exact q
  | .tup ds, x, y, u, v, A, hx, hy, rx, ry, hu => by
    rw [Deep] at hx hy
    obtain ⟨a, xs, rfl, hq, hd⟩ := hx
    obtain ⟨b, ys, rfl, hq', hd'⟩ := hy
    cases rx; cases ry
    by_cases hab : a = b
    · subst hab; exact SeqAt.EqAt.same _
    · obtain ⟨its, r, pl, hz⟩ := I.tuple hq
      obtain ⟨its', r', pl', hz'⟩ := I.tuple hq'
      have l1 := r.length; have l2 := r'.length; have l3 := hd.length; have l4 := hd'.length
      have hu' : A.units + (deps ds + 1) < cLine := hu
      have q := SeqAt.RcAt.tuples (A := A) (e := fun _ => true) pl pl' (by omega) fun j h1 h2 => by
        have := eqsAt_deep I ds xs ys its its' A.in1 hd hd' r r' (by rw [Around.in1_units]; omega) j (by simpa using h1) (by simpa using h2)
        simpa using this
      refine SeqAt.EqAt.of_refs hab ?_
      have e : its.length = its'.length := by omega
      rw [all_yes] at q
      simpa [e] using q
theorem eqsAt_deep {X : Cx} {pins : List (Addr × Obj)} {σ : St} {H : Hp} {s : Shared} (I : Inv X pins σ H s) : ∀ (ds : List DV) (xs ys : List V) (us vs : List Value) (A : Around), Deeps X.K H ds xs → Deeps X.K H ds ys → Vals xs us → Vals ys vs → A.units + deps ds < cLine →
    ∀ (j : Nat) (h1 : j < us.length) (h2 : j < vs.length), SeqAt.EqAt A s us[j] vs[j] true
  | [], xs, ys, us, vs, A, hx, hy, rx, ry, hu, j, h1, h2 => by
    rw [Deeps] at hx; subst hx; cases rx; exact absurd h1 (Nat.not_lt_zero _)
  | d :: ds, xs, ys, us, vs, A, hx, hy, rx, ry, hu, j, h1, h2 => by
    rw [Deeps] at hx hy
    obtain ⟨x, xs, rfl, dx, hx⟩ := hx
    obtain ⟨y, ys, rfl, dy, hy⟩ := hy
    cases rx with
    | cons rx rxs =>
      cases ry with
      | cons ry rys =>
        have hu' : A.units + max (dep d) (deps ds) < cLine := hu
        cases j with
        | zero => exact eqAt_deep I d x y _ _ A dx dy rx ry (by omega)
        | succ j => exact eqsAt_deep I ds xs ys _ _ A hx hy rxs rys (by omega) j (by simpa using h1) (by simpa using h2)
end
section
variable {X : Cx}
theorem op_eqD {k : Nat} (hr : Room k X.A) : OpR X (compareOp .Eq) (fun x y H Q => ∃ d ds, (d = .lst ds ∨ d = .tup ds) ∧ dep d ≤ 60 ∧ Deep X.K H d x ∧ Deep X.K H d y ∧ Q (.bl true) H) := by
  intro pins s σ H x y v u Q I rx ry h
  obtain ⟨d, ds, hd, hdp, dx, dy, q⟩ := h
  have hcl : X.A.units + 64 < cLine := hr.units
  rcases hd with rfl | rfl
  · rw [Deep] at dx dy
    obtain ⟨a, xs, rfl, hq, hd⟩ := dx
    obtain ⟨b, ys, rfl, hq', hd'⟩ := dy
    cases rx; cases ry
    obtain ⟨its, r, pl, hz⟩ := I.list hq
    obtain ⟨its', r', pl', hz'⟩ := I.list hq'
    have l1 := r.length; have l2 := r'.length; have l3 := hd.length; have l4 := hd'.length
    have hdp' : deps ds + 1 ≤ 60 := hdp
    refine SeqAt.eq_listAt (e := fun _ => true) pl.isList pl'.isList (by simp only [List.size_toArray]; omega) (by omega) (fun j h1 h2 => ?_) ⟨.bl true, H, I, ?_, q⟩
    · have := eqsAt_deep I ds xs ys its its' X.A.in1 hd hd' r r' (by rw [Around.in1_units]; omega) j (by simpa using h1) (by simpa using h2)
      simpa using this
    · show Value.bool _ = Value.bool true
      rw [all_yes]
  · rw [Deep] at dx dy
    obtain ⟨a, xs, rfl, hq, hd⟩ := dx
    obtain ⟨b, ys, rfl, hq', hd'⟩ := dy
    cases rx; cases ry
    obtain ⟨its, r, pl, hz⟩ := I.tuple hq
    obtain ⟨its', r', pl', hz'⟩ := I.tuple hq'
    have l1 := r.length; have l2 := r'.length; have l3 := hd.length; have l4 := hd'.length
    have hdp' : deps ds + 1 ≤ 60 := hdp
    have e : its.length = its'.length := by omega
    refine SeqAt.eq_tupleAt (e := fun _ => true) pl pl' (by omega) (fun j h1 h2 => ?_) ⟨.bl true, H, I, ?_, q⟩
    · have := eqsAt_deep I ds xs ys its its' X.A.in1 hd hd' r r' (by rw [Around.in1_units]; omega) j (by simpa using h1) (by simpa using h2)
      simpa using this
    · show Value.bool _ = Value.bool true
      rw [all_yes]
      simp [e]
end

theorem Deeps.get {K : PySem.W.Frag} {H : Hp} : ∀ {ds : List DV} {xs : List V} {i : Nat} {x : V}, Deeps K H ds xs → xs[i]? = some x → ∃ d, ds[i]? = some d ∧ Deep K H d x
  | [], xs, i, x, h, e => by rw [Deeps] at h; subst h; simp at e
  | d :: ds, xs, 0, x, h, e => by
    rw [Deeps] at h; obtain ⟨y, ys, rfl, q, t⟩ := h
    simp at e; subst e; exact ⟨d, rfl, q⟩
  | d :: ds, xs, i + 1, x, h, e => by
    rw [Deeps] at h; obtain ⟨y, ys, rfl, q, t⟩ := h
    obtain ⟨d', e1, e2⟩ := Deeps.get (i := i) t (by simpa using e)
    exact ⟨d', by simpa using e1, e2⟩
theorem Deeps.get' {K : PySem.W.Frag} {H : Hp} {ds : List DV} {xs : List V} {i : Nat} {d : DV} (h : Deeps K H ds xs) (e : ds[i]? = some d) : ∃ x, xs[i]? = some x ∧ Deep K H d x := by
  have hl := h.length
  have hi : i < xs.length := by rw [hl]; exact (List.getElem?_eq_some_iff.mp e).1
  obtain ⟨d', e1, e2⟩ := h.get (List.getElem?_eq_getElem hi)
  rw [e] at e1; cases e1
  exact ⟨_, List.getElem?_eq_getElem hi, e2⟩
theorem Deeps.app {K : PySem.W.Frag} {H : Hp} : ∀ {ds es : List DV} {xs ys : List V}, Deeps K H ds xs → Deeps K H es ys → Deeps K H (ds ++ es) (xs ++ ys)
  | [], es, xs, ys, h, q => by rw [Deeps] at h; subst h; exact q
  | d :: ds, es, xs, ys, h, q => by
    rw [Deeps] at h; obtain ⟨y, zs, rfl, r, t⟩ := h
    show Deeps K H (d :: (ds ++ es)) _
    rw [Deeps]
    exact ⟨y, zs ++ ys, rfl, r, Deeps.app t q⟩
theorem Deeps.one {K : PySem.W.Frag} {H : Hp} {d : DV} {x : V} (h : Deep K H d x) : Deeps K H [d] [x] := by
  rw [Deeps]; exact ⟨x, [], rfl, h, by rw [Deeps]⟩
theorem Deeps.nil {K : PySem.W.Frag} {H : Hp} : Deeps K H [] [] := by rw [Deeps]
theorem Deeps.take {K : PySem.W.Frag} {H : Hp} : ∀ {ds : List DV} {xs : List V} (n : Nat), Deeps K H ds xs → Deeps K H (ds.take n) (xs.take n)
  | ds, xs, 0, _ => by simp [Deeps]
  | [], xs, n + 1, h => by rw [Deeps] at h; subst h; simp [Deeps]
  | d :: ds, xs, n + 1, h => by
    rw [Deeps] at h; obtain ⟨y, zs, rfl, r, t⟩ := h
    rw [List.take_succ_cons, List.take_succ_cons, Deeps]
    exact ⟨y, _, rfl, r, Deeps.take n t⟩
theorem Deeps.drop {K : PySem.W.Frag} {H : Hp} : ∀ {ds : List DV} {xs : List V} (n : Nat), Deeps K H ds xs → Deeps K H (ds.drop n) (xs.drop n)
  | ds, xs, 0, h => by simpa using h
  | [], xs, n + 1, h => by rw [Deeps] at h; subst h; simp [Deeps]
  | d :: ds, xs, n + 1, h => by
    rw [Deeps] at h; obtain ⟨y, zs, rfl, r, t⟩ := h
    rw [List.drop_succ_cons, List.drop_succ_cons]
    exact Deeps.drop n t
theorem Deeps.set {K : PySem.W.Frag} {H : Hp} {d : DV} {x : V} (q : Deep K H d x) : ∀ {ds : List DV} {xs : List V} (n : Nat), Deeps K H ds xs → Deeps K H (ds.set n d) (xs.set n x)
  | [], xs, n, h => by rw [Deeps] at h; subst h; simp [Deeps]
  | e :: ds, xs, 0, h => by
    rw [Deeps] at h; obtain ⟨y, zs, rfl, r, t⟩ := h
    rw [List.set_cons_zero, List.set_cons_zero, Deeps]
    exact ⟨x, _, rfl, q, t⟩
  | e :: ds, xs, n + 1, h => by
    rw [Deeps] at h; obtain ⟨y, zs, rfl, r, t⟩ := h
    rw [List.set_cons_succ, List.set_cons_succ, Deeps]
    exact ⟨y, _, rfl, r, Deeps.set q n t⟩
theorem Deeps.ints {K : PySem.W.Frag} {H : Hp} : ∀ (ns : List Int), Deeps K H (ns.map DV.int) (ns.map V.int)
  | [] => by simp [Deeps]
  | n :: r => by
    rw [List.map_cons, List.map_cons, Deeps]
    exact ⟨_, _, rfl, by rw [Deep], Deeps.ints r⟩
/- no list within -/
mutual
def noLst : DV → Bool
  | .lst _ => false
  | .tup ds => noLsts ds
  | _ => true
def noLsts : List DV → Bool
  | [] => true
  | d :: ds => noLst d && noLsts ds
end
theorem SqT.upd {K : PySem.W.Frag} {H : Hp} {a p : Addr} {xs ys : List V} {o : HO} (hp : H p = some (.lst ys)) (h : SqT K H a xs) : SqT K (upd H p o) a xs := by
  rcases h with (h | ⟨o', h⟩) | h
  · exact .inl (.inl (by rw [upd_ne (ne_of h hp (by intro z; cases z))]; exact h))
  · exact .inl (.inr ⟨o', by rw [upd_ne (ne_of h hp (by intro z; cases z))]; exact h⟩)
  · exact .inr h
mutual
theorem Deep.updL {K : PySem.W.Frag} {H : Hp} {p : Addr} {ys : List V} {o : HO} (hp : H p = some (.lst ys)) : ∀ (d : DV) (v : V), noLst d = true → Deep K H d v → Deep K (L2.upd H p o) d v
  | .non, v, _, h => by rw [Deep] at h ⊢; exact h
  | .bl b, v, _, h => by rw [Deep] at h ⊢; exact h
  | .int i, v, _, h => by rw [Deep] at h ⊢; exact h
  | .str x, v, _, h => by rw [Deep] at h ⊢; exact h
  | .lst ds, v, n, h => by rw [noLst] at n; cases n
  | .tup ds, v, n, h => by
    rw [noLst] at n
    rw [Deep] at h ⊢
    obtain ⟨a, xs, r, q, t⟩ := h
    exact ⟨a, xs, r, q.upd hp, Deeps.updL hp ds xs n t⟩
theorem Deeps.updL {K : PySem.W.Frag} {H : Hp} {p : Addr} {ys : List V} {o : HO} (hp : H p = some (.lst ys)) : ∀ (ds : List DV) (xs : List V), noLsts ds = true → Deeps K H ds xs → Deeps K (L2.upd H p o) ds xs
  | [], xs, _, h => by rw [Deeps] at h ⊢; exact h
  | d :: ds, xs, n, h => by
    rw [noLsts, Bool.and_eq_true] at n
    rw [Deeps] at h ⊢
    obtain ⟨y, ys, r, q, t⟩ := h
    exact ⟨y, ys, r, Deep.updL hp d y n.1 q, Deeps.updL hp ds ys n.2 t⟩
end
theorem same_new {H : Hp} {p : Addr} (h : H p = none) (o : HO) : Same H (upd H p o) := fun b u q => by rw [upd_ne (ne_of_none q h)]; exact q
theorem Same.newer {H H' : Hp} {p : Addr} (e : Same H H') (h : H p = none) (o : HO) : Same H (upd H' p o) := fun b u q => by rw [upd_ne (ne_of_none q h)]; exact e b u q
theorem small {n : Nat} (h : n ≤ 1000) : n ≤ sizeLine := Nat.le_of_lt (small1000 h)
theorem atI_of {α : Type} {xs : List α} {k : Int} (h0 : 0 ≤ k) (h : k < (xs.length : Int)) : ∃ v, atI xs k = some v ∧ xs[k.toNat]? = some v := by
  have hk : k.toNat < xs.length := by omega
  have ek : k = ((k.toNat : Nat) : Int) := by omega
  refine ⟨xs[k.toNat], ?_, List.getElem?_eq_getElem hk⟩
  have q : atI xs ((k.toNat : Nat) : Int) = some xs[k.toNat] := atI_nat (List.getElem?_eq_getElem hk)
  rw [← ek] at q
  exact q

section
variable {X : Cx}
theorem ixL (K : PySem.W.Frag) (h : X.K = K := by rfl) : IxR X (rIxL K) := by subst h; exact ix_list
theorem ixT (K : PySem.W.Frag) (h : X.K = K := by rfl) : IxR X (rIxT K) := by subst h; exact ix_tup
theorem slL (K : PySem.W.Frag) (h : X.K = K := by rfl) : SlR X (rSlL K) := by subst h; exact sl_list
theorem lenK (K : PySem.W.Frag) (h : X.K = K := by rfl) : CallR X (.builtin "len") (fun xs H Q => ∃ p ys, xs = [.ref p] ∧ (SqL K H p ys ∨ SqT K H p ys) ∧ Q (.int ys.length) H) := by subst h; exact call_len_seq
theorem pgT (K : PySem.W.Frag) {es : List Expr} {k : Nat} {t : TGs} {n : Nat} {pos : Pos} (hc : X.calm = true) (h : PGs X es t) (hK : X.K = K := by rfl)
    (hn : (assignEach es X.env).length = n := by rfl) (hst : (assignEach es X.env).findIdx? (·.1) = none := by rfl) : PG X (.Tuple es k pos) (gTup K n t) := by subst hK; exact pg_tup hc h hn hst
theorem pi_listK (K : PySem.W.Frag) {tg l : Expr} {tl : TE} (hl : PE X l tl) (h : X.K = K := by rfl) : PI X tg l (iList K tl) := by subst h; exact pi_list hl
variable {o e : Expr} {es : List Expr} {to : TE} {t : TA} {name : Str} {apos cpos : Pos} {T id : String} {r : V → List V → Hp → VK → Prop}
theorem bm0K (K : PySem.W.Frag) (pa : PlainAttrs T) (slot : Slot T name id) (hty : typeOf (.builtin id) = pure (.type "method_descriptor")) (hm : MtR X id r) (ho : PE X o to) (h : X.K = K := by rfl)
    (hbase : attributeBase o name X.env (eval o X.env) = eval o X.env := by rfl) (hline : (apos.endLine == cpos.line) = true := by rfl) : PE X (.Call (.Attribute o name apos) [] [] cpos) (tBM0 K T r to) := by subst h; exact pe_bm0 pa slot hty hm ho hbase hline
theorem bmK (K : PySem.W.Frag) (pa : PlainAttrs T) (slot : Slot T name id) (hty : typeOf (.builtin id) = pure (.type "method_descriptor")) (hm : MtR X id r) (ho : PE X o to) (ha : PA X (e :: es) t) (h : X.K = K := by rfl)
    (hbase : attributeBase o name X.env (eval o X.env) = eval o X.env := by rfl)
    (hfew : ((backTo cpos (starEach (e :: es) X.env)).all (fun x => !x.1) && (backToKw cpos (keywordEach [] X.env)).all (fun x => x.1.isSome)
      && decide ((e :: es).length + ([] : List Keyword).length + (if ([] : List Keyword).isEmpty then 0 else 1) < 30)) = true := by rfl)
    (hline : (apos.endLine == cpos.line) = true := by rfl) (hs : starEach (e :: es) X.env = (false, eval e X.env) :: starEach es X.env := by rfl) (hplain : (backTo cpos (starEach es X.env)).any (·.1) = false := by rfl) :
    PE X (.Call (.Attribute o name apos) (e :: es) [] cpos) (tBM K T r to t) := by subst h; exact pe_bm pa slot hty hm ho ha hbase hfew hline hs hplain
end

def ForW (g : TG) (tb : TS) (D : Ends) (σ : St) (J : It) (H1 : Hp) : Prop := ∃ W : Nat → Nat → St → Hp → Prop, (∃ m, W 0 m σ H1) ∧ ∀ i m σ H, W i m σ H →
  (J.stop i H ∧ D.nx σ H) ∨ (J.go i H ∧ ∃ N : St → Hp → Prop, (∀ σ' H', N σ' H' → ∃ m', m' < m ∧ W (i + 1) m' σ' H') ∧ ∀ x H', J.yld i H x H' → g x σ H' fun σ2 H2 => tb { D with nx := N, ct := N, bk := D.nx } σ2 H2)
theorem tFor_eq (wi : TI) (g : TG) (tb : TS) (D : Ends) (σ : St) (H : Hp) : tFor wi g tb D σ H = wi σ H fun J H1 => ForW g tb D σ J H1 := rfl
def CompW (pick : List (Option Nat)) (g : TG) (ti : TT) (te : TE) (Q : VK) (σ : St) (J : It) (H1 : Hp) : Prop := ∃ W : Nat → Nat → List V → St → Hp → Prop, (∃ m, W 0 m [] (pickS pick σ) H1) ∧ ∀ i m ys σ' H', W i m ys σ' H' → ys.length ≤ sizeLine ∧
  ((J.stop i H' ∧ ∀ p, H' p = none → Q (.ref p) (upd H' p (.lst ys))) ∨
   (J.go i H' ∧ ∃ N : List V → St → Hp → Prop, (∀ zs τ L, N zs τ L → ∃ m', m' < m ∧ W (i + 1) m' zs τ L) ∧ ∀ x H2, J.yld i H' x H2 → g x σ' H2 fun σ3 H3 => ti σ3 H3 fun b H4 => if b = true then te σ3 H4 fun v H5 => N (ys ++ [v]) σ3 H5 else N ys σ3 H4))
theorem tComp_eq (wi : TI) (pick : List (Option Nat)) (g : TG) (ti : TT) (te : TE) (σ : St) (H : Hp) (Q : VK) : tComp wi pick g ti te σ H Q = wi σ H fun J H1 => CompW pick g ti te Q σ J H1 := rfl
def WhileW (c : TT) (tb : TS) (D : Ends) (σ : St) (H : Hp) : Prop := tWhile c tb D σ H
theorem tWhile_eq (c : TT) (tb : TS) (D : Ends) (σ : St) (H : Hp) : tWhile c tb D σ H = WhileW c tb D σ H := rfl

def hide (p : Addr) (H : Hp) : Hp := fun b => if b = p then none else H b
theorem hide_same (p : Addr) (H : Hp) : Same (hide p H) H := fun b o e => by
  unfold hide at e
  split at e
  · cases e
  · exact e
theorem hide_at (p : Addr) (H : Hp) : hide p H p = none := by unfold hide; rw [if_pos rfl]
theorem hide_ne {p b : Addr} {H : Hp} (h : b ≠ p) : hide p H b = H b := by unfold hide; rw [if_neg h]
theorem hide_mono {p : Addr} {H H' : Hp} (e : Same H H') : Same (hide p H) (hide p H') := fun b o q => by
  have hb : b ≠ p := fun z => by subst z; rw [hide_at] at q; cases q
  rw [hide_ne hb] at q ⊢
  exact e b o q
theorem upd_at {H : Hp} {p q : Addr} {o u : HO} (h : H q = some u) (hp : H p = none) : upd H p o q = some u := by rw [upd_ne (ne_of_none h hp)]; exact h
section
variable {g : TG} {ti : TT} {te : TE} {Q : VK} {σ : St} {H : Hp} {pick : List (Option Nat)} {tb : TS} {D : Ends} {K : PySem.W.Frag} {a : Addr} {xs : List V}
theorem compW_list (xs : List V) (Pv : Nat → List V → St → Hp → Prop) (h0 : Pv 0 [] (pickS pick σ) H) (hl : ∀ i ys σ H, i ≤ xs.length → Pv i ys σ H → SqL K H a xs ∧ ys.length ≤ sizeLine)
    (hs : ∀ i x ys σ H, xs[i]? = some x → Pv i ys σ H → g x σ H fun σ3 H3 => ti σ3 H3 fun b H4 => if b = true then te σ3 H4 fun v H5 => Pv (i + 1) (ys ++ [v]) σ3 H5 else Pv (i + 1) ys σ3 H4)
    (hd : ∀ ys σ H, Pv xs.length ys σ H → ∀ p, H p = none → Q (.ref p) (upd H p (.lst ys))) : CompW pick g ti te Q σ (Itl K a) H := comp_list Pv h0 hl hs hd
theorem compW_range {lo : Int} {n : Nat} (Pv : Nat → List V → St → Hp → Prop) (h0 : Pv 0 [] (pickS pick σ) H) (hl : ∀ i ys σ H, i ≤ n → Pv i ys σ H → ys.length ≤ sizeLine)
    (hs : ∀ i ys σ H, i < n → Pv i ys σ H → g (.int (lo + i)) σ H fun σ3 H3 => ti σ3 H3 fun b H4 => if b = true then te σ3 H4 fun v H5 => Pv (i + 1) (ys ++ [v]) σ3 H5 else Pv (i + 1) ys σ3 H4)
    (hd : ∀ ys σ H, Pv n ys σ H → ∀ p, H p = none → Q (.ref p) (upd H p (.lst ys))) : CompW pick g ti te Q σ (Itr lo n) H := comp_range Pv h0 hl hs hd
theorem forW_list (xs : List V) (Pv : Nat → St → Hp → Prop) (h0 : Pv 0 σ H) (hl : ∀ i σ H, i ≤ xs.length → Pv i σ H → SqL K H a xs)
    (hs : ∀ i x σ H, xs[i]? = some x → Pv i σ H → g x σ H fun σ2 H2 => tb { D with nx := Pv (i + 1), ct := Pv (i + 1), bk := D.nx } σ2 H2) (hd : ∀ σ H, Pv xs.length σ H → D.nx σ H) : ForW g tb D σ (Itl K a) H := for_list Pv h0 hl hs hd
theorem forW_enum (xs : List V) (Pv : Nat → St → Hp → Prop) (h0 : Pv 0 σ H) (hl : ∀ i σ H, i ≤ xs.length → Pv i σ H → SqL K H a xs)
    (hs : ∀ (i : Nat) y T σ H, xs[i]? = some y → Pv i σ H → H T = none → g (.ref T) σ (upd H T (.tup [.int i, y])) fun σ2 H2 => tb { D with nx := Pv (i + 1), ct := Pv (i + 1), bk := D.nx } σ2 H2) (hd : ∀ σ H, Pv xs.length σ H → D.nx σ H) : ForW g tb D σ (Ite K a) H := for_enum Pv h0 hl hs hd
theorem forW_range {lo : Int} {n : Nat} (Pv : Nat → St → Hp → Prop) (h0 : Pv 0 σ H) (hs : ∀ i σ H, i < n → Pv i σ H → g (.int (lo + i)) σ H fun σ2 H2 => tb { D with nx := Pv (i + 1), ct := Pv (i + 1), bk := D.nx } σ2 H2) (hd : ∀ σ H, Pv n σ H → D.nx σ H) :
    ForW g tb D σ (Itr lo n) H := for_range Pv h0 hs hd
end
theorem deps_le {n : Nat} : ∀ {ds : List DV}, (∀ d ∈ ds, dep d ≤ n) → deps ds ≤ n
  | [], _ => by rw [deps]; exact Nat.zero_le _
  | d :: ds, h => by
    rw [deps]
    exact Nat.max_le.mpr ⟨h d List.mem_cons_self, deps_le fun e he => h e (List.mem_cons_of_mem _ he)⟩

end L2

namespace L2
open PySem PySem.Spec PyProof.Rows
abbrev Str.cs (x : Str) : List Nat := x.cps.toList
def cutL {α : Type} (xs : List α) (lo hi : Option Int) : List α := (xs.drop (HT.sIx xs.length 0 lo)).take (HT.sIx xs.length xs.length hi - HT.sIx xs.length 0 lo)
theorem cutL_nat {α : Type} (xs : List α) {j k : Nat} (h : j ≤ k) : cutL xs (some (j : Int)) (some (k : Int)) = (xs.drop j).take (k - j) := by
  unfold cutL
  rw [HT.sIx_nat, HT.sIx_nat]
  apply List.ext_getElem?
  intro i
  rw [List.getElem?_take, List.getElem?_take, List.getElem?_drop, List.getElem?_drop]
  by_cases h1 : i < k - j
  · rw [if_pos h1]
    by_cases h2 : j + i < xs.length
    · rw [if_pos (by omega)]
      congr 1
      omega
    · rw [if_neg (by omega), List.getElem?_eq_none (by omega)]
  · rw [if_neg h1, if_neg (by omega)]
theorem strIdx_gen (lo hi : Option Int) (n : Nat) : Builtin.Str.strSliceIndices lo hi 1 n = Builtin.Str.strSliceIndices (some ((HT.sIx n 0 lo : Nat) : Int)) (some ((HT.sIx n n hi : Nat) : Int)) 1 n := by
  have clipS : ∀ (v : Int) (d : Nat), max 0 (min (if v < 0 then v + (n : Int) else v) (n : Int)) = ((HT.sIx n d (some v) : Nat) : Int) := fun v d => by
    show max 0 (min (if v < 0 then v + (n : Int) else v) (n : Int)) = (((if v < 0 then (v + (n : Int)).toNat else min v.toNat n) : Nat) : Int)
    by_cases hv : v < 0
    · simp only [if_pos hv]; omega
    · simp only [if_neg hv]; omega
  have clipN : ∀ k : Nat, k ≤ n → max 0 (min (if (k : Int) < 0 then (k : Int) + (n : Int) else (k : Int)) (n : Int)) = (k : Int) := fun k hk => by
    rw [if_neg (by omega)]; omega
  have h1 : (1 : Int) > 0 := by omega
  have l1 := HT.sIx_le n 0 (Nat.zero_le _) lo
  have l2 := HT.sIx_le n n (Nat.le_refl _) hi
  unfold Builtin.Str.strSliceIndices
  simp only [h1, if_true]
  rw [clipN _ l1, clipN _ l2]
  cases lo with
  | none =>
    cases hi with
    | none => rfl
    | some u => dsimp only; rw [clipS u n]; rfl
  | some v =>
    cases hi with
    | none => dsimp only; rw [clipS v 0]; rfl
    | some u => dsimp only; rw [clipS v 0, clipS u n]
theorem sliceText_gen (x : Str) (lo hi : Option Int) : StrLaws.sliceText x lo hi = ⟨(cutL x.cps.toList lo hi).toArray⟩ := by
  have hn : x.cps.toList.length = x.length := by simp [Str.length]
  unfold cutL
  rw [hn]
  have l1 := HT.sIx_le x.length 0 (Nat.zero_le _) lo
  have l2 := HT.sIx_le x.length x.length (Nat.le_refl _) hi
  have e : StrLaws.sliceText x lo hi = StrLaws.sliceText x (some ((HT.sIx x.length 0 lo : Nat) : Int)) (some ((HT.sIx x.length x.length hi : Nat) : Int)) := by
    unfold StrLaws.sliceText
    rw [strIdx_gen]
  rw [e]
  generalize HT.sIx x.length 0 lo = a at *
  generalize HT.sIx x.length x.length hi = b at *
  by_cases hab : a ≤ b
  · exact StrLaws.sliceText_nat x hab l2
  · have e0 : b - a = 0 := by omega
    rw [e0, List.take_zero]
    have ei : Builtin.Str.strSliceIndices (some (a : Int)) (some (b : Int)) 1 x.length = [] := by
      unfold Builtin.Str.strSliceIndices
      simp only [show (1 : Int) > 0 by omega, if_true]
      rw [if_neg (by omega), if_neg (by omega)]
      have q1 : max 0 (min (a : Int) (x.length : Int)) = (a : Int) := by omega
      have q2 : max 0 (min (b : Int) (x.length : Int)) = (b : Int) := by omega
      rw [q1, q2]
      unfold sliceRange
      simp only [show (1 : Int) > 0 by omega, if_true]
      rw [if_neg (by omega)]
      rfl
    unfold StrLaws.sliceText
    rw [ei]
    split
    · rename_i h
      have hl : x.length = 0 := by simp at h; omega
      apply Str.ext'
      have : x.cps = #[] := Array.eq_empty_of_size_eq_zero (by simpa [Str.length] using hl)
      rw [this]
    · rfl
section
variable {X : Cx}
def rSlS : V → Option Int → Option Int → Hp → VK → Prop := fun x lo hi H Q => ∃ z, x = .str z ∧ z.length ≤ sizeLine ∧ Q (.str ⟨(cutL z.cps.toList lo hi).toArray⟩) H
theorem sl_str : SlR X rSlS := by
  intro pins s σ H x v vl vu lo hi sl Q I rx hs pl pu h
  obtain ⟨z, rfl, hz, q⟩ := h
  obtain ⟨t, rfl⟩ := rx
  refine ⟨"str", _, F.slot_str_getitem.lookup, typeIs_str _ _ _, ?_⟩
  obtain ⟨o, ho, hc, hd⟩ := hs
  obtain ⟨l, hl, el⟩ : ∃ l : Option (Int × Tok), vl = partValue l ∧ l.map (·.1) = lo := by
    cases pl with
    | none => exact ⟨none, rfl, rfl⟩
    | int i t => exact ⟨some (i, t), rfl, rfl⟩
  obtain ⟨u, hu, eu⟩ : ∃ l : Option (Int × Tok), vu = partValue l ∧ l.map (·.1) = hi := by
    cases pu with
    | none => exact ⟨none, rfl, rfl⟩
    | int i t => exact ⟨some (i, t), rfl, rfl⟩
  subst hl hu el eu
  refine wpAny_getItem_str_slice (l := l) (u := u) (st := none) ⟨o, ho, hc, hd⟩ rfl ?_
  have e := sliceText_gen z (l.map (·.1)) (u.map (·.1))
  unfold sliceMade
  refine post_val_or_made (fun _ => ?_) fun t' k => ⟨.str ⟨(cutL z.cps.toList (l.map (·.1)) (u.map (·.1))).toArray⟩, H, I.tok _, ⟨t', ?_⟩, q⟩
  · rename_i hno
    have e2 : StrLaws.sliceText z (l.map (·.1)) (u.map (·.1)) = ⟨((slicePicked z l u none).filterMap (z.cps[·]?)).toArray⟩ := by
      unfold StrLaws.sliceText
      exact if_neg hno
    rw [← e2, e]
    show (cutL z.cps.toList (l.map (·.1)) (u.map (·.1))).toArray.size ≤ sizeLine
    rw [List.size_toArray]
    unfold cutL
    rw [List.length_take, List.length_drop]
    have : z.cps.toList.length = z.length := by simp [Str.length]
    omega
  · rw [← e]
    rfl
theorem op_le_str : OpR X (compareOp .LtE) (fun x y H Q => ∃ i j, x = .str i ∧ y = .str j ∧ Q (.bl (!decide (j.cps.toList < i.cps.toList))) H) := by
  intro pins s σ H x y v u Q I rx ry h
  obtain ⟨i, j, rfl, rfl, q⟩ := h
  obtain ⟨t, rfl⟩ := rx
  obtain ⟨t', rfl⟩ := ry
  exact PySem.P.le_str ⟨.bl _, H, I, rfl, q⟩
def rLower : V → List V → Hp → VK → Prop := fun x vs H Q => ∃ z, x = .str z ∧ vs = [] ∧ z.length ≤ 1000000 ∧ (∀ c ∈ z.cps.toList, c < 128) ∧ Q (.str ⟨z.cps.map lo1⟩) H
def rIndex : V → List V → Hp → VK → Prop := fun x vs H Q => ∃ z c, x = .str z ∧ vs = [.str ⟨#[c]⟩] ∧ c ∈ z.cps.toList ∧ Q (.int (Txt.find z ⟨#[c]⟩)) H
theorem call_isi (K : PySem.W.Frag) (hK : X.K = K := by rfl) : CallR X (.builtin "isinstance") (fun xs H Q => ∃ x T t b, xs = [x, .ty T] ∧ TyOf K H x t ∧ PySem.W.kitOne K t (.type T) = some b ∧ Q (.bl b) H) := by
  subst hK
  intro pins s σ H xs us Q I r h
  obtain ⟨x, T, t, b, rfl, ty, e, q⟩ := h
  obtain ⟨u, v, rfl, ru, rv⟩ := vals2 r
  cases rv
  exact isinst_ok I ru ty e fun tk => ⟨.bl b, H, I.tok _, rfl, q⟩
theorem op_eqE (K : PySem.W.Frag) {k : Nat} (hr : Room k X.A) (hK : X.K = K := by rfl) : OpR X (compareOp .Eq) (fun x y H Q => ∃ p xs q, x = .ref p ∧ y = .ref q ∧ SqL K H p xs ∧ SqL K H q [] ∧ Q (.bl xs.isEmpty) H) := by
  subst hK
  intro pins s σ H x y v u Q I rx ry h
  obtain ⟨p, xs, q, rfl, rfl, hp, hq, k⟩ := h
  cases rx; cases ry
  have hcl : X.A.units + 64 < cLine := hr.units
  obtain ⟨its, r, pl, hz⟩ := I.list hp
  obtain ⟨its', r', pl', hz'⟩ := I.list hq
  cases r'
  cases r with
  | nil => exact SeqAt.eq_listAt (e := fun _ => true) pl.isList pl'.isList rfl (by omega) (fun j h1 h2 => absurd h1 (by simp)) ⟨.bl true, H, I, rfl, k⟩
  | cons r0 rs => exact SeqAt.eq_list_lengthsAt pl.isList pl'.isList (by simp) (by omega) ⟨.bl false, H, I, rfl, k⟩
def CDivB (_ j : Int) : Prop := 0 < j ∧ j < 2 ^ 62
theorem op_fdivB : OpR X (binaryOp .FloorDiv) (rI CDivB fun i j => .int (i / j)) := opI fun i j _ _ _ _ _ hc q => by
  have h0 := hc.1
  have h1 := hc.2
  refine floordiv_int (by omega) ?_ (.inl (PyProof.noPylong_of_log2 ?_))
  · rw [Int.fdiv_eq_ediv_of_nonneg _ (by omega)]; exact q
  · have : j.natAbs < 2 ^ 62 := by omega
    have := (Nat.log2_lt (by omega)).mpr this
    omega
end

end L2

namespace L2
open PySem PySem.Spec PyProof.Rows

mutual
def DeepT (H : Hp) : DV → V → Prop
  | .non, v => v = .non
  | .bl b, v => v = .bl b
  | .int i, v => v = .int i
  | .str x, v => v = .str x
  | .lst ds, v => ∃ a xs, v = .ref a ∧ H a = some (.lst xs) ∧ DeepTs H ds xs
  | .tup ds, v => ∃ a xs, v = .ref a ∧ H a = some (.tup xs) ∧ DeepTs H ds xs
def DeepTs (H : Hp) : List DV → List V → Prop
  | [], xs => xs = []
  | d :: ds, xs => ∃ y ys, xs = y :: ys ∧ DeepT H d y ∧ DeepTs H ds ys
end
mutual
theorem DeepT.deep {K : PySem.W.Frag} {H : Hp} : ∀ (d : DV) (v : V), DeepT H d v → Deep K H d v
  | .non, v, h => by rw [DeepT] at h; rw [Deep]; exact h
  | .bl b, v, h => by rw [DeepT] at h; rw [Deep]; exact h
  | .int i, v, h => by rw [DeepT] at h; rw [Deep]; exact h
  | .str x, v, h => by rw [DeepT] at h; rw [Deep]; exact h
  | .lst ds, v, h => by rw [DeepT] at h; rw [Deep]; obtain ⟨a, xs, r, q, t⟩ := h; exact ⟨a, xs, r, SqL.of q, DeepTs.deep ds xs t⟩
  | .tup ds, v, h => by rw [DeepT] at h; rw [Deep]; obtain ⟨a, xs, r, q, t⟩ := h; exact ⟨a, xs, r, SqT.of q, DeepTs.deep ds xs t⟩
theorem DeepTs.deep {K : PySem.W.Frag} {H : Hp} : ∀ (ds : List DV) (xs : List V), DeepTs H ds xs → Deeps K H ds xs
  | [], xs, h => by rw [DeepTs] at h; rw [Deeps]; exact h
  | d :: ds, xs, h => by rw [DeepTs] at h; rw [Deeps]; obtain ⟨y, ys, r, q, t⟩ := h; exact ⟨y, ys, r, DeepT.deep d y q, DeepTs.deep ds ys t⟩
end
theorem DeepTs.length {H : Hp} : ∀ {ds : List DV} {xs : List V}, DeepTs H ds xs → xs.length = ds.length
  | [], xs, h => by rw [DeepTs] at h; subst h; rfl
  | d :: ds, xs, h => by rw [DeepTs] at h; obtain ⟨y, ys, rfl, _, h⟩ := h; rw [List.length_cons, List.length_cons, DeepTs.length h]
mutual
theorem DeepT.same {H H' : Hp} (e : Same H H') : ∀ (d : DV) (v : V), DeepT H d v → DeepT H' d v
  | .non, v, h => by rw [DeepT] at h ⊢; exact h
  | .bl b, v, h => by rw [DeepT] at h ⊢; exact h
  | .int i, v, h => by rw [DeepT] at h ⊢; exact h
  | .str x, v, h => by rw [DeepT] at h ⊢; exact h
  | .lst ds, v, h => by rw [DeepT] at h ⊢; obtain ⟨a, xs, r, q, t⟩ := h; exact ⟨a, xs, r, e _ _ q, DeepTs.same e ds xs t⟩
  | .tup ds, v, h => by rw [DeepT] at h ⊢; obtain ⟨a, xs, r, q, t⟩ := h; exact ⟨a, xs, r, e _ _ q, DeepTs.same e ds xs t⟩
theorem DeepTs.same {H H' : Hp} (e : Same H H') : ∀ (ds : List DV) (xs : List V), DeepTs H ds xs → DeepTs H' ds xs
  | [], xs, h => by rw [DeepTs] at h ⊢; exact h
  | d :: ds, xs, h => by rw [DeepTs] at h ⊢; obtain ⟨y, ys, r, q, t⟩ := h; exact ⟨y, ys, r, DeepT.same e d y q, DeepTs.same e ds ys t⟩
end
theorem DeepTs.get {H : Hp} : ∀ {ds : List DV} {xs : List V} {i : Nat} {x : V}, DeepTs H ds xs → xs[i]? = some x → ∃ d, ds[i]? = some d ∧ DeepT H d x
  | [], xs, i, x, h, e => by rw [DeepTs] at h; subst h; simp at e
  | d :: ds, xs, 0, x, h, e => by
    rw [DeepTs] at h; obtain ⟨y, ys, rfl, q, t⟩ := h
    simp at e; subst e; exact ⟨d, rfl, q⟩
  | d :: ds, xs, i + 1, x, h, e => by
    rw [DeepTs] at h; obtain ⟨y, ys, rfl, q, t⟩ := h
    obtain ⟨d', e1, e2⟩ := DeepTs.get (i := i) t (by simpa using e)
    exact ⟨d', by simpa using e1, e2⟩
theorem DeepTs.get' {H : Hp} {ds : List DV} {xs : List V} {i : Nat} {d : DV} (h : DeepTs H ds xs) (e : ds[i]? = some d) : ∃ x, xs[i]? = some x ∧ DeepT H d x := by
  have hl := h.length
  have hi : i < xs.length := by rw [hl]; exact (List.getElem?_eq_some_iff.mp e).1
  obtain ⟨d', e1, e2⟩ := h.get (List.getElem?_eq_getElem hi)
  rw [e] at e1; cases e1
  exact ⟨_, List.getElem?_eq_getElem hi, e2⟩
theorem DeepTs.app {H : Hp} : ∀ {ds es : List DV} {xs ys : List V}, DeepTs H ds xs → DeepTs H es ys → DeepTs H (ds ++ es) (xs ++ ys)
  | [], es, xs, ys, h, q => by rw [DeepTs] at h; subst h; exact q
  | d :: ds, es, xs, ys, h, q => by
    rw [DeepTs] at h; obtain ⟨y, zs, rfl, r, t⟩ := h
    show DeepTs H (d :: (ds ++ es)) _
    rw [DeepTs]
    exact ⟨y, zs ++ ys, rfl, r, DeepTs.app t q⟩
theorem DeepTs.one {H : Hp} {d : DV} {x : V} (h : DeepT H d x) : DeepTs H [d] [x] := by
  rw [DeepTs]; exact ⟨x, [], rfl, h, by rw [DeepTs]⟩
theorem DeepTs.nil {H : Hp} : DeepTs H [] [] := by rw [DeepTs]
theorem DeepTs.take {H : Hp} : ∀ {ds : List DV} {xs : List V} (n : Nat), DeepTs H ds xs → DeepTs H (ds.take n) (xs.take n)
  | ds, xs, 0, _ => by simp [DeepTs]
  | [], xs, n + 1, h => by rw [DeepTs] at h; subst h; simp [DeepTs]
  | d :: ds, xs, n + 1, h => by
    rw [DeepTs] at h; obtain ⟨y, zs, rfl, r, t⟩ := h
    rw [List.take_succ_cons, List.take_succ_cons, DeepTs]
    exact ⟨y, _, rfl, r, DeepTs.take n t⟩
theorem DeepTs.drop {H : Hp} : ∀ {ds : List DV} {xs : List V} (n : Nat), DeepTs H ds xs → DeepTs H (ds.drop n) (xs.drop n)
  | ds, xs, 0, h => by simpa using h
  | [], xs, n + 1, h => by rw [DeepTs] at h; subst h; simp [DeepTs]
  | d :: ds, xs, n + 1, h => by
    rw [DeepTs] at h; obtain ⟨y, zs, rfl, r, t⟩ := h
    rw [List.drop_succ_cons, List.drop_succ_cons]
    exact DeepTs.drop n t
theorem DeepTs.set {H : Hp} {d : DV} {x : V} (q : DeepT H d x) : ∀ {ds : List DV} {xs : List V} (n : Nat), DeepTs H ds xs → DeepTs H (ds.set n d) (xs.set n x)
  | [], xs, n, h => by rw [DeepTs] at h; subst h; simp [DeepTs]
  | e :: ds, xs, 0, h => by
    rw [DeepTs] at h; obtain ⟨y, zs, rfl, r, t⟩ := h
    rw [List.set_cons_zero, List.set_cons_zero, DeepTs]
    exact ⟨x, _, rfl, q, t⟩
  | e :: ds, xs, n + 1, h => by
    rw [DeepTs] at h; obtain ⟨y, zs, rfl, r, t⟩ := h
    rw [List.set_cons_succ, List.set_cons_succ, DeepTs]
    exact ⟨y, _, rfl, r, DeepTs.set q n t⟩
theorem DeepTs.ints {H : Hp} : ∀ (ns : List Int), DeepTs H (ns.map DV.int) (ns.map V.int)
  | [] => by simp [DeepTs]
  | n :: r => by
    rw [List.map_cons, List.map_cons, DeepTs]
    exact ⟨_, _, rfl, by rw [DeepT], DeepTs.ints r⟩

theorem int_of_map {ns : List Int} {i : Nat} {x : V} (h : (ns.map V.int)[i]? = some x) : ∃ z, x = .int z ∧ ns[i]? = some z := by
  rw [List.getElem?_map] at h
  cases e : ns[i]? with
  | none => rw [e] at h; cases h
  | some z => rw [e] at h; exact ⟨z, (Option.some.inj h).symm, rfl⟩
theorem ixN_of {n : Nat} {k : Int} (h0 : 0 ≤ k) (h : k < n) : ixN n k = some k.toNat := by
  unfold ixN
  rw [if_pos h0, if_pos h]

end L2

namespace L2
open PySem PySem.Spec PyProof.Rows
def Its (z : Str) : It := ⟨fun i _ => i < z.length, fun i H x H' => H' = H ∧ ∃ c, z.cps.toList[i]? = some c ∧ x = .str ⟨#[c]⟩, fun i _ => z.length ≤ i⟩
theorem turn_strA {P : Program} {w : World} {K : PySem.W.Frag} {tg : Expr} (it : Addr) (z : Str) (t : Tok) : Turn P w K tg (Its z) [it] it (fun i h => h.IsStrIter it "str_ascii_iterator" z t i) where
  mem := by simp
  obj := fun i h st b hb => by
    have e : b = it := by simpa using hb
    subst e
    obtain ⟨o, e, c, d⟩ := st
    exact ⟨o, e, fun v z => by rw [d] at z; cases z⟩
  keep := fun i h h' st k => let ⟨o, ho, r⟩ := st; ⟨o, k it (by simp) o ho, r⟩
  item := by
    intro X hP hw hK hc i pins s σ H E I hf st hg
    subst hP hw hK
    obtain ⟨f0, f1, f2, f3, f4, f5⟩ := hf it (by simp)
    have hi : i < z.cps.size := hg
    refine wpAny_pyNext_ascii_item st (c := z.cps[i]) (by simp [hi]) fun h' st' sb => ?_
    have I1 : Inv X pins σ H { s with heap := h', toks := s.toks + 1 } := I.turned (t' := s.toks + 1) (fun b o hb e => (sb.2 b hb).trans e) f0 f1 f3 f4 f5
    obtain ⟨o, e, c, d⟩ := id st'
    exact ⟨_, rfl, go_of (s := { s with heap := h', toks := s.toks + 1 }) e c d (by decide) ⟨.str ⟨#[z.cps[i]]⟩, H, I1, ⟨_, rfl⟩, ⟨rfl, z.cps[i], by simp [hi], rfl⟩, st', fun b hb => (hf b hb).1⟩⟩
  done := by
    intro X hP hw hK hc i pins s σ H E I hf st hg
    subst hP hw hK
    obtain ⟨f0, f1, f2, f3, f4, f5⟩ := hf it (by simp)
    have hi : z.cps.size ≤ i := hg
    exact wpAny_pyNext_ascii_end (I.ok.hd hc) st (by simp [hi]) fun h' eb => ⟨rfl, I.turned (t' := s.toks) (fun b o hb e => eb b o hb e) f0 f1 f3 f4 f5⟩
  self := fun _ _ _ _ _ st h => wpAny_pyIter_striter_ascii st h
theorem turn_strW {P : Program} {w : World} {K : PySem.W.Frag} {tg : Expr} (it : Addr) (z : Str) (t : Tok) : Turn P w K tg (Its z) [it] it (fun i h => h.IsStrIter it "str_iterator" z t i) where
  mem := by simp
  obj := fun i h st b hb => by
    have e : b = it := by simpa using hb
    subst e
    obtain ⟨o, e, c, d⟩ := st
    exact ⟨o, e, fun v z => by rw [d] at z; cases z⟩
  keep := fun i h h' st k => let ⟨o, ho, r⟩ := st; ⟨o, k it (by simp) o ho, r⟩
  item := by
    intro X hP hw hK hc i pins s σ H E I hf st hg
    subst hP hw hK
    obtain ⟨f0, f1, f2, f3, f4, f5⟩ := hf it (by simp)
    have hi : i < z.cps.size := hg
    refine wpAny_pyNext_wide_item st (c := z.cps[i]) (by simp [hi]) fun h' st' sb => ?_
    have I1 : Inv X pins σ H { s with heap := h', toks := s.toks + 1 } := I.turned (t' := s.toks + 1) (fun b o hb e => (sb.2 b hb).trans e) f0 f1 f3 f4 f5
    obtain ⟨o, e, c, d⟩ := id st'
    exact ⟨_, rfl, go_of (s := { s with heap := h', toks := s.toks + 1 }) e c d (by decide) ⟨.str ⟨#[z.cps[i]]⟩, H, I1, ⟨_, rfl⟩, ⟨rfl, z.cps[i], by simp [hi], rfl⟩, st', fun b hb => (hf b hb).1⟩⟩
  done := by
    intro X hP hw hK hc i pins s σ H E I hf st hg
    subst hP hw hK
    obtain ⟨f0, f1, f2, f3, f4, f5⟩ := hf it (by simp)
    have hi : z.cps.size ≤ i := hg
    exact wpAny_pyNext_wide_end (I.ok.hd hc) st (by simp [hi]) fun h' eb => ⟨rfl, I.turned (t' := s.toks) (fun b o hb e => eb b o hb e) f0 f1 f3 f4 f5⟩
  self := fun _ _ _ _ _ st h => wpAny_pyIter_striter_wide st h
def iStr (tl : TE) : TI := fun σ H R => tl σ H fun x H1 => ∃ z, x = .str z ∧ R (Its z) H1
theorem pi_str {X : Cx} {tg l : Expr} {tl : TE} (hl : PE X l tl) : PI X tg l (iStr tl) := by
  intro pins s σ H R I h
  refine thn (hl pins s σ H _ I h) fun v s1 ⟨x, H1, I1, r1, q1⟩ => ?_
  obtain ⟨z, e, q⟩ := q1
  subst e
  obtain ⟨t, rfl⟩ := r1
  have fp : ∀ b ∈ [s1.heap.objs.size], FpOk X pins H1 b := fun b hb => by
    have e : b = s1.heap.objs.size := by simpa using hb
    subst e
    exact I1.fpOk (Nat.le_refl _) (I1.hok.fresh (Nat.le_refl _))
  cases ha : z.cps.all (· < 128)
  · exact wpAny_pyIter_wide ha ⟨s1.heap.objs.size, [s1.heap.objs.size], _, _, H1, rfl, I1.kept (t' := s1.toks) fun b o e => Heap.get?_push_of_some _ e, turn_strW _ z t, ⟨_, Heap.get?_push_size _ rfl, rfl, rfl⟩, fp, q⟩
  · exact wpAny_pyIter_ascii ha ⟨s1.heap.objs.size, [s1.heap.objs.size], _, _, H1, rfl, I1.kept (t' := s1.toks) fun b o e => Heap.get?_push_of_some _ e, turn_strA _ z t, ⟨_, Heap.get?_push_size _ rfl, rfl, rfl⟩, fp, q⟩
section
variable {g : TG} {ti : TT} {te : TE} {Q : VK} {σ : St} {H : Hp} {pick : List (Option Nat)}
theorem compW_str {z : Str} (Pv : Nat → List V → St → Hp → Prop) (h0 : Pv 0 [] (pickS pick σ) H) (hl : ∀ i ys σ H, i ≤ z.length → Pv i ys σ H → ys.length ≤ sizeLine)
    (hs : ∀ i c ys σ H, z.cps.toList[i]? = some c → Pv i ys σ H → g (.str ⟨#[c]⟩) σ H fun σ3 H3 => ti σ3 H3 fun b H4 => if b = true then te σ3 H4 fun v H5 => Pv (i + 1) (ys ++ [v]) σ3 H5 else Pv (i + 1) ys σ3 H4)
    (hd : ∀ ys σ H, Pv z.length ys σ H → ∀ p, H p = none → Q (.ref p) (upd H p (.lst ys))) : CompW pick g ti te Q σ (Its z) H := by
  refine ⟨fun i m ys σ H => m = z.length - i ∧ i ≤ z.length ∧ Pv i ys σ H, ⟨z.length, by simp, Nat.zero_le _, h0⟩, ?_⟩
  rintro i m ys σ H ⟨rfl, hi, p⟩
  refine ⟨hl i ys σ H hi p, ?_⟩
  by_cases hlt : i < z.length
  · refine .inr ⟨hlt, Pv (i + 1), fun zs σ' H' p' => ⟨z.length - (i + 1), by omega, rfl, hlt, p'⟩, fun x H' y => ?_⟩
    obtain ⟨e, c, hc, y⟩ := y
    subst e y
    exact hs i c ys σ _ hc p
  · have e : i = z.length := by omega
    subst e
    exact .inl ⟨Nat.le_refl _, hd ys σ H p⟩
end
section
variable {X : Cx}
theorem op_eqDK (K : PySem.W.Frag) {k : Nat} (hr : Room k X.A) (hK : X.K = K := by rfl) : OpR X (compareOp .Eq) (fun x y H Q => ∃ d ds, (d = .lst ds ∨ d = .tup ds) ∧ dep d ≤ 60 ∧ Deep K H d x ∧ Deep K H d y ∧ Q (.bl true) H) := by subst hK; exact op_eqD hr
end

end L2

namespace L2
open PySem PySem.Spec PyProof.Rows
def XObj (h : Heap) (e : Addr) (C : Value) (dx : Option Addr) (tb : Value) : Prop := ∃ (oe : Obj) (vs : Array Value), h.get? e = some oe ∧ oe.cls = C ∧ oe.dict = dx ∧ oe.data = .fields vs ∧ vs[1]? = some tb
def TbAt (h : Heap) (T : Addr) (fl : Value) : Prop := ∃ (o : Obj) (ts : Array Value), h.get? T = some o ∧ o.data = .fields ts ∧ ts[3]? = some fl
def TbOk (h : Heap) (tb : Value) : Prop := tb = .none ∨ ∃ T, tb = .ref T ∧ TbAt h T .none
def KeptX (fr : List Addr) (e : Addr) (tb : Value) (h h' : Heap) : Prop :=
  ∀ b o, h.get? b = some o → b ≠ e → tb ≠ .ref b → ∃ sl, h'.get? b = some { o with slots := sl } ∧ (b ∉ fr → sl = o.slots)
theorem KeptX.there {fr : List Addr} {e : Addr} {tb : Value} {h h' : Heap} (k : KeptX fr e tb h h') {b : Addr} {o : Obj} (q : h.get? b = some o) (n : b ≠ e) (n' : tb ≠ .ref b) (f : b ∉ fr) : h'.get? b = some o := by
  obtain ⟨sl, x, y⟩ := k b o q n n'
  rw [x, y f]
section
variable {M : Model} {A : Around} {E : Value → Shared → Prop} {s : Shared} {base : Heap} {env : Env} {outer : List Env} {L e : Addr} {C : Value} {dx : Option Addr} {tb : Value} {Q : Unit → Shared → Prop}
theorem entry_x {hadNext : Bool} {hdv : Value} (hfr : A.frames = some (env :: outer)) (hl : s.heap.FunFrames base (env :: outer)) (hf : env.frame = some L) (x : XObj s.heap e C dx tb)
    (q : ∀ h' T, s.heap.objs.size ≤ T → XObj h' e C dx (.ref T) → TbAt h' T (rawInt L) → KeptX (frs (env :: outer)) e .none s.heap h' → Q () { s with heap := h' }) :
    wpAny M A (do let a ← frameOf env; let pl ← entryPlaceOf L hadNext; let b ← EntryCells.newEntry hdv a .none (rawInt L) .none pl; setField (.ref e) 1 b) Q E s := by
  obtain ⟨oe, vs, he, hc, hd, hv, h1⟩ := x
  have h1s : 1 < vs.size := (Array.getElem?_eq_some_iff.mp h1).1
  refine wpAny_bind (wpAny_frameOf_fun hfr hl hf fun g1 so => wpAny_bind (wpAny_entryPlaceOf fun pl ip => ?_))
  obtain ⟨sz, oth, all⟩ := so
  obtain ⟨sle, he1⟩ := all e oe he
  unfold EntryCells.newEntry newFields
  refine wpAny_bind (wpAny_newObj_type ?_ (ip.sizeOk5 _ _ _ _ _))
  dsimp only
  have hlt : e < g1.objs.size := Heap.lt_size he1
  refine wpAny_setField (Heap.get?_push_of_some _ he1) (show ({ oe with slots := sle } : Obj).data = .fields vs from hv) h1s (q _ g1.objs.size (Nat.le_of_eq sz.symm) ?_ ?_ fun b o hb hbe _ => ?_)
  · refine ⟨_, _, Heap.get?_update_self _ (Heap.get?_push_of_some _ he1) (Obj.isFreed_of_fields (Obj.data_mapFields (show ({ oe with slots := sle } : Obj).data = .fields vs from hv) _)), ?_, ?_, Obj.data_mapFields (show ({ oe with slots := sle } : Obj).data = .fields vs from hv) _, by simp [h1s]⟩
    · rw [Obj.cls_mapFields]; exact hc
    · unfold Obj.mapFields
      rw [show ({ oe with slots := sle } : Obj).data = .fields vs from hv]
      exact hd
  · refine ⟨_, _, (Heap.get?_update_other _ _ (Nat.ne_of_lt hlt)).trans (Heap.get?_push_size _ rfl), rfl, ?_⟩
    first
      | (simp; done)
      | (rcases ip with rfl | ⟨_, _, _, _, _, _, _, rfl⟩ <;> simp)
  · obtain ⟨sl, k⟩ := all b o hb
    refine ⟨sl, (Heap.get?_update_other _ _ (Ne.symm hbe)).trans (Heap.get?_push_of_some _ k), fun nf => ?_⟩
    have k2 := (oth b nf).trans hb
    rw [k] at k2
    exact congrArg Obj.slots (Option.some.inj k2)
end
section
variable {M : Model} {A : Around} {E : Value → Shared → Prop} {s : Shared} {base : Heap} {env : Env} {outer : List Env} {L e : Addr} {C : Value} {dx : Option Addr} {tb : Value} {Q : Unit → Shared → Prop}
theorem upd_tb {h : Heap} {T : Addr} {o : Obj} {ts : Array Value} {v : Value} (hT : h.get? T = some o) (hd : o.data = .fields ts) (n : 3 < ts.size) : (∀ b, b ≠ T → (h.update T (Obj.mapFields (·.setIfInBounds 3 v))).get? b = h.get? b) ∧ TbAt (h.update T (Obj.mapFields (·.setIfInBounds 3 v))) T v :=
  ⟨fun b hb => Heap.get?_update_other _ _ (Ne.symm hb), _, _, Heap.get?_update_self _ hT (Obj.isFreed_of_fields (Obj.data_mapFields hd _)), Obj.data_mapFields hd _, by simp [n]⟩
theorem note_x (hfr : A.frames = some (env :: outer)) (hl : s.heap.FunFrames base (env :: outer)) (hf : env.frame = some L) (x : XObj s.heap e C dx tb) (t : TbOk s.heap tb) (hte : tb ≠ .ref e)
    (q : ∀ h' T, s.heap.objs.size ≤ T → XObj h' e C dx (.ref T) → TbAt h' T (rawInt L) → KeptX (frs (env :: outer)) e tb s.heap h' → Q () { s with heap := h' }) : wpAny M A (noteFrame (.ref e) env) Q E s := by
  obtain ⟨oe, vs, he, hc, hd, hv, h1⟩ := id x
  unfold noteFrame
  simp only [hf]
  refine wpAny_bind (wpAny_field he hv h1 ?_)
  rcases t with rfl | ⟨T0, rfl, oT, ts, hT, hdT, h3⟩
  · rw [if_neg (by decide)]
    exact entry_x hfr hl hf x q
  · have n3 : 3 < ts.size := (Array.getElem?_eq_some_iff.mp h3).1
    have eT : e ≠ T0 := fun z => hte (by rw [z])
    rw [if_pos (by simp)]
    refine wpAny_bind (wpAny_field hT hdT h3 ?_)
    rw [if_neg (by simp [rawInt])]
    obtain ⟨oth, _⟩ := upd_tb (v := Value.none) hT hdT n3
    refine wpAny_bind (wpAny_setField hT hdT n3 (entry_x (base := base) hfr ?_ hf ⟨oe, vs, (oth e eT).trans he, hc, hd, hv, h1⟩ fun h' T hs xo tt k => ?_))
    · refine hl.of_keeps fun b o hb nf => ⟨o, (oth b fun z => ?_).trans hb, rfl⟩
      subst z
      rw [hT] at hb
      cases hb
      exact nf ts hdT
    · refine q h' T ?_ xo tt fun b o hb hbe hbt => k b o ((oth b fun z => hbt (by rw [z])).trans hb) hbe (by simp)
      have : (s.heap.update T0 (Obj.mapFields (·.setIfInBounds 3 Value.none))).objs.size = s.heap.objs.size := Heap.size_after_update ..
      rw [← this]
      exact hs
theorem flight_x {T : Addr} {fl : Value} (x : XObj s.heap e C dx (.ref T)) (t : TbAt s.heap T fl) (hTe : T ≠ e)
    (q : ∀ h', XObj h' e C dx (.ref T) → TbAt h' T .none → h'.objs.size = s.heap.objs.size → (∀ b, b ≠ T → h'.get? b = s.heap.get? b) → Q () { s with heap := h' }) : wpAny M A (setFlight (.ref e) none) Q E s := by
  obtain ⟨oe, vs, he, hc, hd, hv, h1⟩ := x
  obtain ⟨oT, ts, hT, hdT, h3⟩ := t
  have n3 : 3 < ts.size := (Array.getElem?_eq_some_iff.mp h3).1
  obtain ⟨oth, tt⟩ := upd_tb (v := Value.none) hT hdT n3
  unfold setFlight
  refine wpAny_bind (wpAny_field he hv h1 ?_)
  rw [if_pos (by simp)]
  exact wpAny_setField hT hdT n3 (q _ ⟨oe, vs, (oth e (Ne.symm hTe)).trans he, hc, hd, hv, h1⟩ tt (Heap.size_after_update ..) oth)
theorem leave_x (hfr : A.frames = some (env :: outer)) (hl : s.heap.FunFrames base (env :: outer)) (hf : env.frame = some L) (x : XObj s.heap e C dx tb) (t : TbOk s.heap tb) (hte : tb ≠ .ref e)
    (q : ∀ h' T, s.heap.objs.size ≤ T → XObj h' e C dx (.ref T) → TbAt h' T .none → KeptX (frs (env :: outer)) e tb s.heap h' → Q () { s with heap := h' }) : wpAny M A (leaving env (.ref e)) Q E s := by
  unfold leaving
  have elt : e < s.heap.objs.size := let ⟨_, _, he, _⟩ := x; Heap.lt_size he
  refine wpAny_bind (note_x hfr hl hf x t hte fun h' T hs xo tt k => ?_)
  refine flight_x (s := { s with heap := h' }) xo tt (Nat.ne_of_gt (Nat.lt_of_lt_of_le elt hs)) fun h2 xo2 tt2 sz oth => q h2 T hs xo2 tt2 fun b o hb hbe hbt => ?_
  obtain ⟨sl, k1, k2⟩ := k b o hb hbe hbt
  exact ⟨sl, (oth b (Nat.ne_of_lt (Nat.lt_of_lt_of_le (Heap.lt_size hb) hs))).trans k1, k2⟩
end
def XP (e : Addr) (C : Value) (dx : Option Addr) (h : Heap) : Prop := ∃ (oe : Obj) (vs : Array Value), h.get? e = some oe ∧ oe.cls = C ∧ oe.dict = dx ∧ oe.data = .fields vs ∧ 1 < vs.size
def XO (e : Addr) (C : Value) (dx : Option Addr) : HO := .ext (XP e C dx)
theorem XObj.xp {h : Heap} {e : Addr} {C : Value} {dx : Option Addr} {tb : Value} (x : XObj h e C dx tb) : XP e C dx h :=
  let ⟨oe, vs, he, hc, hd, hv, h1⟩ := x; ⟨oe, vs, he, hc, hd, hv, (Array.getElem?_eq_some_iff.mp h1).1⟩
theorem XP.obj {P : Program} {w : World} {H : Hp} {h : Heap} {e : Addr} {C : Value} {dx : Option Addr} (x : XP e C dx h) : ObjOk P w H h e (XO e C dx) := by
  obtain ⟨oe, vs, he, r⟩ := id x
  refine ⟨x, ⟨oe, he⟩, fun h1 h2 y k => ?_⟩
  obtain ⟨o1, v1, g1, r1⟩ := y
  exact ⟨o1, v1, k o1 g1, r1⟩
theorem XO.at {P : Program} {w : World} {H : Hp} {h : Heap} {e : Addr} {C : Value} {dx : Option Addr} (k : HOk P w H h) (x : H e = some (XO e C dx)) : XP e C dx h := (k e _ x).1
def CXe (P : Program) (w : World) : CXT := fun outer H s E ev s' => ∃ (e : Addr) (C : Value) (dx : Option Addr) (T : Addr) (H' : Hp), ev = .ref e ∧ s'.os = s.os ∧ AllBare s'.gens ∧ Un (frs outer) [] H H' s.heap s'.heap ∧ HOk P w H' s'.heap ∧
  s.heap.objs.size ≤ e ∧ s.heap.objs.size ≤ T ∧ T ≠ e ∧ H' e = some (XO e C dx) ∧ H' T = none ∧ XObj s'.heap e C dx (.ref T) ∧ TbAt s'.heap T .none ∧ E ev none H'
section
variable {X : Cx} {pins : List (Addr × Obj)} {σ : St} {H : Hp} {s : Shared} {e : Addr} {C : Value} {dx : Option Addr} {tb : Value}
theorem KeptX.hok {h' : Heap} (I : Inv X pins σ H s) (k : KeptX (frs X.stack) e tb s.heap h') (he : H e = some (XO e C dx)) (hn : ∀ T, tb = .ref T → H T = none) (x : XP e C dx h') : HOk X.prog X.w H h' := fun b u q => by
  by_cases hb : b = e
  · subst hb
    rw [he] at q
    cases q
    exact x.obj
  · refine (I.hok b u q).stay (fun c v hc r => ?_) (fun _ z => z) fun _ _ z => z
    have hce : c ≠ e := by
      rcases hc with z | z
      · rw [z]; exact hb
      · intro z'; rw [z', he] at z; cases z
    have hc1 : ∃ w, H c = some w := by
      rcases hc with z | z
      · exact ⟨u, by rw [z]; exact q⟩
      · exact ⟨_, z⟩
    obtain ⟨w1, hw⟩ := hc1
    refine k.there r hce (fun z => ?_) fun z => ?_
    · rw [hn c z] at hw; cases hw
    · rw [I.stkFree c z] at hw; cases hw
theorem KeptX.un {h' : Heap} (k : KeptX (frs X.stack) e tb s.heap h') (I : Inv X pins σ H s) (he : H e = some (XO e C dx)) (hx : XP e C dx h') (hex : ∀ T, tb = .ref T → T ∈ X.ex ∨ X.s₀.heap.objs.size ≤ T) : Un X.fs X.ex X.H₀ H X.s₀.heap h' := by
  have ne : ∀ b o, s.heap.get? b = some o → H b = none → b ≠ e := fun b o _ n z => by rw [z, he] at n; cases n
  have nt : ∀ b o, X.s₀.heap.get? b = some o → b ∉ X.ex → tb ≠ .ref b := fun b o q hx z => by
    rcases hex b z with r | r
    · exact hx r
    · exact absurd (Nat.lt_of_lt_of_le (Heap.lt_size q) r) (Nat.lt_irrefl _)
  have nl : ∀ b o, X.s₀.heap.get? b = some o → b ≠ X.env.locals := fun b o q => Nat.ne_of_lt (Nat.lt_of_lt_of_le (Heap.lt_size q) I.ok.above)
  refine ⟨fun b o q n hb hxx => ?_, fun b o q n hb hxx => ?_, I.base.free, fun b o q hxx => ?_, I.base.tups, I.base.frzs, I.base.tbls⟩
  · have q1 := I.base.keep b o q n hb hxx
    have n1 := I.base.free b o q n hxx
    refine k.there q1 (ne b o q1 n1) (nt b o q hxx) fun z => ?_
    rcases List.mem_cons.mp (I.stkSub b z) with r | r
    · exact nl b o q r
    · exact hb r
  · obtain ⟨sl, q1⟩ := I.base.slot b o q n hb hxx
    have n1 := I.base.free b o q n hxx
    obtain ⟨sl2, q2, _⟩ := k b _ q1 (ne b _ q1 n1) (nt b o q hxx)
    exact ⟨sl2, q2⟩
  · obtain ⟨o1, q1⟩ := I.base.there b o q hxx
    by_cases hbe : b = e
    · obtain ⟨oe, _, g, _⟩ := hx
      exact ⟨oe, by rw [hbe]; exact g⟩
    · obtain ⟨sl2, q2, _⟩ := k b _ q1 hbe (nt b o q hxx)
      exact ⟨_, q2⟩
end
section
variable {P : Program} {w : World} {K : PySem.W.Frag} {mg : Str → Option Value} {base : Heap} {N : List Str} {qual : Str} {scope : Scope} {f : Addr} {cd : Value} {A : Around} {outer : List Env} {s : Shared} {H : Hp} {E : XK}
theorem leave_cx {pins : List (Addr × Obj)} {σ : St} {H1 : Hp} {s1 : Shared} {e : Addr} {C : Value} {dx : Option Addr} {tb : Value} (I : Inv (cxOf (CXe P w) P w K mg base N qual scope f cd A outer s H E) pins σ H1 s1)
    (he : H1 e = some (XO e C dx)) (x : XObj s1.heap e C dx tb) (t : TbOk s1.heap tb) (hte : tb ≠ .ref e) (hn : ∀ T, tb = .ref T → H1 T = none ∧ s.heap.objs.size ≤ T) (hs : s.heap.objs.size ≤ e) (q : E (.ref e) none H1) :
    (cxOf (CXe P w) P w K mg base N qual scope f cd A outer s H E).xe (.ref e) s1 := by
  have elt : e < s1.heap.objs.size := let ⟨_, _, he, _⟩ := x; Heap.lt_size he
  refine leave_x (base := base) I.ok.frames I.stack rfl x t hte fun h' T hT xo tt k => ?_
  exact ⟨e, C, dx, T, H1, rfl, I.os, I.bare, KeptX.un k I he xo.xp fun T0 z => .inr (hn T0 z).2, KeptX.hok I k he (fun T0 z => (hn T0 z).1) xo.xp, hs, Nat.le_trans I.sz hT, Nat.ne_of_gt (Nat.lt_of_lt_of_le elt hT), he, I.hok.fresh hT, xo, tt, q⟩
theorem passX : Passes (CXe P w) (cxOf (CXe P w) P w K mg base N qual scope f cd A outer s H E) E := by
  intro pins σ H1 s1 ev s' I h
  obtain ⟨e, C, dx, T, H', rfl, os, bare, un, hok, l1, l2, te, he, hT, xo, tt, q⟩ := h
  obtain ⟨hh, g, d, t, os'⟩ := s'
  obtain rfl : os' = s1.os := os
  have J := I.call (h' := hh) (g' := g) (d' := d) (t' := t) (ch := []) un hok bare (fun b z => absurd z (by simp))
  refine leave_cx J he xo (.inr ⟨T, rfl, tt⟩) (fun z => te (Value.ref.inj z)) (fun T0 z => ?_) (Nat.le_trans I.sz l1) q
  obtain rfl : T = T0 := Value.ref.inj z
  exact ⟨hT, Nat.le_trans I.sz l2⟩
theorem Fun.okX {x : Str} {st : Stmt} {fd : FuncData} {ps : List Str} {k : Nat} {sp : Sp} (F : Fun K x qual st f fd) (S : FnScope N ps (defScope st)) (len : ∀ vs H Q E, sp vs H Q E → vs.length = ps.length)
    (hbody : ∀ (cdv : Value) (A : Around) (outer : List Env) (s : Shared) (H : Hp) (vs : List V) (Q : VK) (E : XK), Room k (A.deeper (envOfC qual (defScope st) s.heap.objs.size f cdv)) → sp vs H Q E →
      ∃ t, PSs (cxOf (CXe P w) P w K mg base N qual (defScope st) f cdv A outer s H E) (defBody st) t ∧ t { nx := fun _ H' => Q .non H', rt := Q } (start N vs) H) : FnOk P w K mg base (CXe P w) (k + 1) f fd ps sp := by
  obtain ⟨oc, od, kV, doc, pm, an, cdv, ct, osl, rfl, lk, hcd⟩ := F.ex
  exact fn_of lk hcd S len fun A outer s H vs Q E hr hsp => hbody cdv A outer s H vs Q E hr hsp
end

end L2

namespace L2
open PySem PySem.Spec PyProof.Rows
abbrev bmV : List Value := [.type "ValueError", .type "Exception", .type "BaseException", .type "object"]
abbrev xTup (vs : List Value) : Obj := { cls := .type "tuple", data := .seq vs.toArray }
abbrev xNew (C t : Addr) : Obj := { cls := .ref C, data := .fields #[.ref t, .none, .none, .none, .bool false, .none] }
section
variable {prog : Program} {w : World} {A : Around} {E : Value → Shared → Prop} {h : Heap} {g : Array GenState} {d : Drawn} {t : Nat} {os : OsState} {K : PySem.W.Frag}
variable {nm qn : Str} {C N fI : Addr} {bs bm : List Value} {hdct : Bool} {sn : List Str} {sub : List Value} {ab : Bool} {col : Option Bool} {dd : Option Addr} {k0 k1 k2 k3 k5 : Option Value}
end
section
open PySem.W Builtin Builtin.ObjectAttr
variable {prog : Program} {w : World} {A : Around} {E : Value → Shared → Prop} {s : Shared} {K : PySem.W.Frag} {C FE x : Addr} {o : Obj} {name : Str} {v : Value} {cd : ClassData} {vs : Array Value}
end
def XPn (e : Addr) (C : Value) (dx : Option Addr) (h : Heap) : Prop := XObj h e C dx .none
def XN (e : Addr) (C : Value) (dx : Option Addr) : HO := .ext (XPn e C dx)
theorem XPn.obj {P : Program} {w : World} {H : Hp} {h : Heap} {e : Addr} {C : Value} {dx : Option Addr} (x : XPn e C dx h) : ObjOk P w H h e (XN e C dx) := by
  obtain ⟨oe, vs, he, r⟩ := id x
  refine ⟨x, ⟨oe, he⟩, fun h1 h2 y k => ?_⟩
  obtain ⟨o1, v1, g1, r1⟩ := y
  exact ⟨o1, v1, k o1 g1, r1⟩
theorem XN.at {P : Program} {w : World} {H : Hp} {h : Heap} {e : Addr} {C : Value} {dx : Option Addr} (k : HOk P w H h) (x : H e = some (XN e C dx)) : XObj h e C dx .none := (k e _ x).1
def strKeys (es : Array DictEntry) : Bool := es.toList.all fun e => match e.key with
  | .str _ _ => true
  | _ => false
structure XCls (K : PySem.W.Frag) (C FE : Addr) : Prop where
  ob : ∃ (nm qn : Str) (N : Addr) (bs : List Value) (sn : List Str) (sub : List Value) (ab : Bool) (col : Option Bool) (dd : Option Addr) (k0 k1 k2 k3 k5 : Option Value), K.lookup C = some (excClassObj nm qn C N bs (.ref FE :: bmV) true sn sub ab col dd k0 k1 k2 k3 k5 "ValueError.__new__")
  fe : ∃ (c0 : Value) (dd : Option Addr) (cd : ClassData) (sl : Array (Option Value)) (c1 : Value) (d1 : Option Addr) (es : Array DictEntry) (n : Nat) (sl1 : Array (Option Value)), K.lookup FE = some ⟨c0, dd, .cls cd, sl⟩ ∧ K.lookup cd.ns = some ⟨c1, d1, .dict es n, sl1⟩ ∧ strKeys es = true ∧ nsFind es "__init__" = none
  sa : PySem.W.findIn K (.ref C) "__setattr__" = some (some (.builtin "object.__setattr__"))
theorem XCls.cd {K : PySem.W.Frag} {C FE : Addr} (x : XCls K C FE) : ∃ cd, PySem.W.clsIn K C = some cd ∧ cd.mro = .ref C :: .ref FE :: bmV ∧ cd.hasDict = true := by
  obtain ⟨nm, qn, N, bs, sn, sub, ab, col, dd, k0, k1, k2, k3, k5, l⟩ := x.ob
  have q : PySem.W.clsIn K C = some { name := nm, bases := bs, mro := .ref C :: .ref FE :: bmV, ns := N, qualname := qn, hasDict := true, slotNames := sn, subclasses := sub, abstract := ab, collection := col, hasDel := false } := by
    unfold PySem.W.clsIn
    rw [l]
  exact ⟨_, q, rfl, rfl⟩
theorem XCls.tail {K : PySem.W.Frag} {C FE : Addr} {h : Heap} (x : XCls K C FE) (X : K.In h) : OwnTail h bmV (.ref FE :: bmV) := by
  obtain ⟨c0, dd, cd, sl, c1, d1, es, n, sl1, l1, l2, sk, ni⟩ := x.fe
  refine .own (X _ _ l1) ⟨_, es, n, X _ _ l2, rfl, fun e he => ?_, fun _ => rfl⟩ ni .base
  have z := List.all_eq_true.mp sk e (by simpa using he)
  cases ek : e.key with
  | str nm t => exact ⟨nm, t, rfl⟩
  | _ => rw [ek] at z; cases z

theorem raise_x {M : Model} {A : Around} {E : Value → Shared → Prop} {s : Shared} {env : Env} {x : Sem Value} {Q : Flow → Shared → Prop} {nm qn : Str} {C N : Addr} {bs bm : List Value} {hdct : Bool} {sn : List Str} {sub : List Value} {ab : Bool} {col : Option Bool} {dd : Option Addr} {k0 k1 k2 k3 k5 : Option Value} {newId : String}
    (hb : bm.contains (.type "BaseException") = true) (hh : A.handled = none)
    (h : wpAny M A x (fun v s1 => ∃ (e : Addr) (oe : Obj) (vs : Array Value), v = .ref e ∧ s1.heap.get? C = some (excClassObj nm qn C N bs bm hdct sn sub ab col dd k0 k1 k2 k3 k5 newId) ∧ s1.heap.get? e = some oe ∧ oe.cls = .ref C ∧ oe.data = .fields vs ∧ vs[1]? = some .none ∧ E (.ref e) s1) E s) :
    wpAny M A (raiseStmt env (some x) none) Q E s := by
  have isB : (Value.ref C :: bm).contains (.type "BaseException") = true := by rw [List.contains_cons, hb, Bool.or_true]
  unfold raiseStmt
  refine wpAny_bind (wpAny_mono h (fun v s1 h1 => ?_) fun _ _ z => z)
  obtain ⟨e, oe, vs, rfl, hC, he, hc, hv, h0, hE⟩ := h1
  obtain ⟨hp, g, d, tk, os⟩ := s1
  obtain ⟨oc, od, oda, osl⟩ := oe
  dsimp only at hc hv
  subst hc hv
  repeat (first
    | with_reducible refine wpAny_loadPart_at he ?_
    | with_reducible refine wpAny_loadPart_at hC ?_
    | (with_reducible refine wpAny_isSubtype_exc hC ?_; rw [isB])
    | with_reducible refine wpAny_field he rfl h0 ?_
    | wp_step)
  exact wpAny_raiseNew_none hh hE

section
variable {P : Program} {w : World} {K : PySem.W.Frag} {mg : Str → Option Value} {base : Heap} {N : List Str} {qual : Str} {scope : Scope} {f0 : Addr} {cd : Value} {A : Around} {outer : List Env} {s0 : Shared} {H0 : Hp} {E : XK}
end

end L2

namespace L2
open PySem PySem.Spec PyProof.Rows
structure XCatch (K : PySem.W.Frag) (FE : Addr) : Prop where
  lk : ∃ (dd : Option Addr) (cd : ClassData) (sl : Array (Option Value)), K.lookup FE = some ⟨.type "type", dd, .cls cd, sl⟩
  ba : PySem.W.mroIn K FE (.type "BaseException") = some true
theorem match_x {M : Model} {A : Around} {E : Value → Shared → Prop} {s : Shared} {K : PySem.W.Frag} {FE C e : Addr} {oe : Obj} {b : Bool} {Q : Bool → Shared → Prop} (X : K.In s.heap) (c : XCatch K FE) (hS : PySem.W.mroIn K C (.ref FE) = some b)
    (he : s.heap.get? e = some oe) (hc : oe.cls = .ref C) (q : Q b s) : wpAny M A (excMatches (.ref e) (.ref FE)) Q E s := by
  obtain ⟨dd, cd, sl, l⟩ := c.lk
  have hF := X _ _ l
  have f := tc_notTuple
  have g1 := PySem.W.looks_mroIn (M := M) X c.ba
  have g2 := PySem.W.looks_mroIn (M := M) X hS
  obtain ⟨hp, g, d, tk, os⟩ := s
  dsimp only at X hF he g1 g2
  have g1' : ∀ {A' : Around} {Q' : Bool → Shared → Prop} {E' : Value → Shared → Prop}, Q' true ⟨hp, g, d, tk, os⟩ → wpAny M A' (isSubtype (.ref FE) (.type "BaseException")) Q' E' ⟨hp, g, d, tk, os⟩ := fun z => g1 _ _ _ _ (fun _ _ z => z) z
  have g2' : ∀ {A' : Around} {Q' : Bool → Shared → Prop} {E' : Value → Shared → Prop}, Q' b ⟨hp, g, d, tk, os⟩ → wpAny M A' (isSubtype (.ref C) (.ref FE)) Q' E' ⟨hp, g, d, tk, os⟩ := fun z => g2 _ _ _ _ (fun _ _ z => z) z
  unfold excMatches isInstance isExcClass
  repeat (first
    | (with_reducible refine wpAny_loadPart_at he ?_; rw [hc])
    | with_reducible refine wpAny_loadPart_at hF ?_
    | with_reducible refine g1' ?_
    | with_reducible refine g2' ?_
    | wp_step)
  cases b with
  | true => wp_walk; exact q
  | false => wp_walk; exact q
def xeT (X : Cx) (pins : List (Addr × Obj)) (W : St → Addr → Hp → Prop) (ev : Value) (s' : Shared) : Prop := ∃ (e : Addr) (C : Value) (dx : Option Addr) (T : Addr) (σ : St) (H' : Hp), ev = .ref e ∧ Inv X pins σ H' s' ∧ H' e = some (XO e C dx) ∧ T ≠ e ∧ FpOk X pins H' T ∧ XObj s'.heap e C dx (.ref T) ∧ TbAt s'.heap T .none ∧ W σ e H'
def Cx.tr (X : Cx) (pins : List (Addr × Obj)) (W : St → Addr → Hp → Prop) : Cx := { X with pn := X.pn ++ pins, xe := xeT X pins W }
def Cx.hn (X : Cx) (ev : Value) : Cx := { X with A := X.A.mark (some ev), calm := false, xe := fun _ _ => False }
section
variable {X : Cx} {pins pins' : List (Addr × Obj)} {σ : St} {H : Hp} {s : Shared} {W : St → Addr → Hp → Prop} {ev : Value}
theorem Inv.tr (I : Inv X pins σ H s) : Inv (X.tr pins W) [] σ H s :=
  ⟨⟨I.ok.mod, I.ok.kind, I.ok.glob, I.ok.blt, I.ok.above, I.ok.inj, I.ok.has, I.ok.cab, I.ok.hd, I.ok.frames, I.ok.stk, I.ok.exf, I.ok.bs, I.ok.bsz, I.ok.noex, I.ok.exfs, I.ok.funs, I.ok.frf⟩,
    I.os, I.bare, I.base, I.loc, I.cell, I.free, I.freeC, fun p hp => I.pin p (by rw [List.append_nil] at hp; exact hp), I.hok, I.len⟩
theorem Inv.untr (I : Inv (X.tr pins W) pins' σ H s) : Inv X pins σ H s :=
  ⟨⟨I.ok.mod, I.ok.kind, I.ok.glob, I.ok.blt, I.ok.above, I.ok.inj, I.ok.has, I.ok.cab, I.ok.hd, I.ok.frames, I.ok.stk, I.ok.exf, I.ok.bs, I.ok.bsz, I.ok.noex, I.ok.exfs, I.ok.funs, I.ok.frf⟩,
    I.os, I.bare, I.base, I.loc, I.cell, I.free, I.freeC, fun p hp => I.pin p (List.mem_append_left _ hp), I.hok, I.len⟩
theorem Inv.hn (I : Inv X pins σ H s) : Inv (X.hn ev) pins σ H s :=
  ⟨⟨I.ok.mod, I.ok.kind, I.ok.glob, I.ok.blt, I.ok.above, I.ok.inj, I.ok.has, I.ok.cab, fun z => (by cases z), I.ok.frames, I.ok.stk, I.ok.exf, I.ok.bs, I.ok.bsz, I.ok.noex, I.ok.exfs, I.ok.funs, I.ok.frf⟩,
    I.os, I.bare, I.base, I.loc, I.cell, I.free, I.freeC, I.pin, I.hok, I.len⟩
theorem Inv.unhn (hd : X.calm = true → X.A.handled = none) (I : Inv (X.hn ev) pins σ H s) : Inv X pins σ H s :=
  ⟨⟨I.ok.mod, I.ok.kind, I.ok.glob, I.ok.blt, I.ok.above, I.ok.inj, I.ok.has, I.ok.cab, hd, I.ok.frames, I.ok.stk, I.ok.exf, I.ok.bs, I.ok.bsz, I.ok.noex, I.ok.exfs, I.ok.funs, I.ok.frf⟩,
    I.os, I.bare, I.base, I.loc, I.cell, I.free, I.freeC, I.pin, I.hok, I.len⟩
end
def tCallT (sp : Sp) (W : St → Addr → Hp → Prop) (t : TA) : TE := fun σ H Q => t σ H fun vs H1 => ∃ E : XK, sp vs H1 Q E ∧ ∀ e H', E (.ref e) none H' → W σ e H'
theorem pe_callT {X : Cx} {pins : List (Addr × Obj)} {W : St → Addr → Hp → Prop} {k : Nat} {f : Addr} {fd : FuncData} {ps : List Str} {sp : Sp} {x : Str} {p pos : Pos} {e : Expr} {es : List Expr} {t : TA} (F : FnOk X.prog X.w X.K X.mg X.base (CXe X.prog X.w) k f fd ps sp) (hr : Room k X.A) (hg : Gl X x)
    (hm : X.mg x = some (.ref f)) (hk : PySem.W.keepIn X.K (.ref f) = true) (hb : Binds X.K fd ps []) (ha : PA (X.tr pins W) (e :: es) t) (hdb : (x == ("__debug__" : Str)) = false := by decide)
    (he : starEach (e :: es) X.env = (false, eval e X.env) :: starEach es X.env := by rfl) (hpl : (backTo pos (starEach es X.env)).any (·.1) = false := by rfl) : PE (X.tr pins W) (.Call (.Name x p) (e :: es) [] pos) (tCallT sp W t) := by
  intro pins' s σ H Q I h
  refine wpAny_Call_Name_kw (ld_glob I hg hm ?_ hdb)
  refine PySem.W.callWith_K (h₀ := X.base) I.ok.mod.kin hk (thn (ha pos pins' s σ H _ I h) fun us s1 ⟨vs, H1, I1, r, q⟩ => ⟨I1.kIn, ?_⟩) he hpl
  obtain ⟨E, hsp, hW⟩ := q
  have hl : (us ++ ([] : List Value)).length = ps.length := by rw [List.append_nil, ← r.length]; exact F.len _ _ _ _ hsp
  have hb1 := hb s1 us I1.kIn hl
  rw [List.append_nil] at hb1
  refine wpAny_call (codeAny_mono (F.run X.A X.stack s1 H1 ⟨us, []⟩ us vs Q E hr I1.env0 hb1 r hsp) fun r' s' hq => ?_)
  cases r' with
  | error ev =>
    obtain ⟨e, C, dx, T, H', rfl, os, bare, un, hok, l1, l2, te, he, hT, xo, tt, qE⟩ := hq
    exact ⟨e, C, dx, T, σ, H', rfl, I1.untr.call' os un hok bare (fun b z => absurd z (by simp)), he, te, I1.untr.fpOk l2 hT, xo, tt, hW e H' qE⟩
  | ok fl =>
    cases fl with
    | ret u => exact I1.after hq
    | next => exact False.elim hq
    | brk => exact False.elim hq
    | cont => exact False.elim hq
section
variable {X : Cx} {pins : List (Addr × Obj)} {σ : St} {H : Hp} {s : Shared}
theorem Inv.gone {i : Nat} {x : Str} {h' : Heap} {m : Str → Option Value} {v : Option Value} {tk : Nat} (I : Inv X pins σ H s) (hN : X.N.Nodup) (hi : X.N[i]? = some x) (hk : X.env.scope.names.lookup x = some .local) (hm : s.heap.Ns X.env.locals m)
    (hl : ∀ (j : Nat) (y : Str) (u : V), X.N[j]? = some y → σ[j]? = some (some u) → Vis X.env.scope y → ∃ z, RelV u z ∧ Look X.env s.heap m y z)
    (n' : h'.Ns X.env.locals (fun y => if y = x then v else m y)) (sb : Heap.SameBut X.env.locals s.heap h') : Inv X pins (σ.set i none) H { s with heap := h', toks := tk } := by
  have lt : ∀ b o, X.s₀.heap.get? b = some o → b ≠ X.env.locals := fun b o e => Nat.ne_of_lt (Nat.lt_of_lt_of_le (Heap.lt_size e) I.ok.above)
  obtain ⟨oL, _, _, hoL, _⟩ := id hm
  refine ⟨I.ok, I.os, I.bare, ⟨fun b o e n hb hx => (sb.2 b (lt b o e)).trans (I.base.keep b o e n hb hx), fun b o e n hb hx => ?_, I.base.free, fun b o e hx => ?_, I.base.tups, I.base.frzs, I.base.tbls⟩, ⟨_, n', fun j y u e1 e2 e3 => ?_⟩, fun y c e => ?_, I.free, I.freeC, fun p hp => ?_, fun b ob e => ?_, by simpa using I.len⟩
  · obtain ⟨sl, e1⟩ := I.base.slot b o e n hb hx
    exact ⟨sl, (sb.2 b (lt b o e)).trans e1⟩
  · obtain ⟨o', e1⟩ := I.base.there b o e hx
    exact ⟨o', (sb.2 b (lt b o e)).trans e1⟩
  · by_cases hj : j = i
    · subst hj
      rw [List.getElem?_set] at e2
      simp at e2
    · rw [List.getElem?_set_ne (Ne.symm hj)] at e2
      obtain ⟨z, r, q⟩ := hl j y u e1 e2 e3
      refine ⟨z, r, ?_⟩
      rcases q with ⟨k, e⟩ | ⟨k, c, e, w⟩
      · have ne : y ≠ x := fun e => hj (nodup_ix hN e1 (e ▸ hi))
        exact .inl ⟨k, by simp [ne, e]⟩
      · exact .inr ⟨k, c, e, w.sameBut sb (I.cne y c e)⟩
  · obtain ⟨w, z⟩ := I.cell y c e
    exact ⟨w, z.sameBut sb (I.cne y c e)⟩
  · obtain ⟨e, n, ne, nf, d⟩ := I.pin p hp
    exact ⟨(sb.2 p.1 ne).trans e, n, ne, nf, d⟩
  · refine (I.hok b ob e).stay (fun c w hc q => (sb.2 c ?_).trans q) (fun _ q => q) fun _ _ q => q
    intro z
    rcases hc with r | r
    · rw [← r, z, I.free] at e; cases e
    · rw [z, I.free] at r; cases r
theorem goes_x {M : Model} {A : Around} {E : Value → Shared → Prop} {i : Nat} {n : Str} {pos : Pos} {Q : Unit → Shared → Prop} (I : Inv X pins σ H s) (hN : X.N.Nodup) (hi : X.N[i]? = some n) (hk : X.env.scope.names.lookup n = some .local) (q : ∀ s', Inv X pins (σ.set i none) H s' → Q () s') :
    wpAny M A (do bindName X.env n .none; unbindBehindTheSuite X.env n pos) Q E s := by
  refine wpAny_bind (wpAny_bindName (store_ok (v := .non) (u := .none) I hN hi (.inl hk) rfl (fun s1 I1 => ?_) (.inr hk)))
  have hiσ : i < σ.length := by rw [I.len]; exact (List.getElem?_eq_some_iff.mp hi).1
  obtain ⟨m, hm, hl⟩ := id I1.loc
  obtain ⟨z, rz, lk⟩ := hl i n .non hi (List.getElem?_set_self hiσ) (.inl hk)
  have hmn : m n = some z := by
    rcases lk with ⟨_, e⟩ | ⟨k, _⟩
    · exact e
    · rcases k with k | k
      · rw [show X.env.kindOf n = some .local from hk] at k; cases k
      · rw [show X.env.kindOf n = some .local from hk] at k; cases k
  have hcls : (X.env.scope.kind == .class || (X.env.scope.kind == .module && X.env.locals != X.env.globals)) = false := by rw [I.ok.kind]; rfl
  unfold unbindBehindTheSuite
  refine wpAny_onRaise ?_
  unfold unbindName
  refine wpAny_bind (wpAny_point (wpAny_bind ?_))
  unfold deleteName
  simp only [show X.env.kindOf n = some .local from hk, hcls]
  rw [if_neg (by decide)]
  refine wpAny_bind (wpAny_nsDel_keeps hm fun h2 v n2 sb => ?_)
  rw [hmn]
  simp only [Option.isSome_some, Bool.not_true, Bool.false_eq_true, if_false]
  have K := I1.gone (tk := s1.toks) hN hi hk hm hl n2 sb
  rw [List.set_set] at K
  exact wpAny_pure (wpAny_point (q _ K))
end
def tTry (K : PySem.W.Frag) (FE : Addr) (i : Nat) (tb : (St → Addr → Hp → Prop) → TS) (th : TS) : TS := fun D σ H => ∃ W : St → Addr → Hp → Prop, tb W D σ H ∧ ∀ σ' e C dx H', W σ' e H' → H' e = some (XO e C dx) → ∃ Ca, C = .ref Ca ∧ PySem.W.mroIn K Ca (.ref FE) = some true ∧
  th { nx := fun σ2 H2 => D.nx (σ2.set i none) H2, rt := D.rt, bk := fun σ2 H2 => D.bk (σ2.set i none) H2, ct := fun σ2 H2 => D.ct (σ2.set i none) H2 } (σ'.set i (some (.ref e))) H'
theorem ps_tryAs {X : Cx} {body suite : List Stmt} {b0 : Stmt} {fe n : Str} {i : Nat} {FE : Addr} {tb : (St → Addr → Hp → Prop) → TS} {th : TS} {np hpos pos : Pos} (hstk : X.stack = X.env :: X.outer) (hfrm : X.env.frame = some X.env.locals)
    (hg : Gl X fe) (hm : X.mg fe = some (.ref FE)) (xc : XCatch X.K FE) (hN : X.N.Nodup) (hi : X.N[i]? = some n) (hk : X.env.scope.names.lookup n = some .local) (hb : ∀ pins W, PSs (X.tr pins W) body (tb W)) (hh : ∀ ev, PSs (X.hn ev) (b0 :: suite) th)
    (hdb : (fe == ("__debug__" : Str)) = false := by decide) : PS X (.Try body [.ExceptHandler (some (.Name fe np)) (some n) (b0 :: suite) hpos] [] [] pos) (tTry X.K FE i tb th) := by
  intro pins s σ H D I h
  obtain ⟨W, hW, hx⟩ := h
  refine wpAny_Try_except (wpAny_mono (hb pins W [] s σ H D I.tr hW) (fun f s1 z => ?_) fun ev s1 z => ?_)
  · cases f with
    | next =>
      obtain ⟨σ1, H1, I1, q⟩ := z
      exact wpAny_execs_nil ⟨σ1, H1, I1.untr, q⟩
    | brk =>
      obtain ⟨σ1, H1, I1, q⟩ := z
      exact ⟨σ1, H1, I1.untr, q⟩
    | cont =>
      obtain ⟨σ1, H1, I1, q⟩ := z
      exact ⟨σ1, H1, I1.untr, q⟩
    | ret u =>
      obtain ⟨v, σ1, H1, I1, rv, q⟩ := z
      exact ⟨v, σ1, H1, I1.untr, rv, q⟩
  · obtain ⟨e, C, dx, T, σ1, H1, rfl, J, he, te, fp, xo, tt, w1⟩ := z
    obtain ⟨f0, f1, f2, f3, f4, f5⟩ := fp
    obtain ⟨Ca, rfl, hmro, q⟩ := hx σ1 e C dx H1 w1 he
    have elt : e < s1.heap.objs.size := let ⟨_, _, z, _⟩ := xo; Heap.lt_size z
    have hst := J.stack
    rw [hstk] at hst
    refine note_x (base := X.base) (J.ok.frames.trans (congrArg some hstk)) hst hfrm xo (.inr ⟨T, rfl, tt⟩) (fun z => te (Value.ref.inj z)) fun h1 T1 hT1 xo1 tt1 k => ?_
    rw [← hstk] at k
    have un : Un (frs X.stack) [T] H1 H1 s1.heap h1 := by
      refine ⟨fun b o z n hb hx => ?_, fun b o z n hb hx => ?_, fun _ _ _ n _ => n, fun b o z hx => ?_, fun _ _ z => z, fun _ _ _ z => z, fun b ps z => ⟨#[], by rw [z]; simp⟩⟩
      · exact k.there z (fun z => by rw [z, he] at n; cases n) (fun z => hx (by simp [Value.ref.inj z])) hb
      · obtain ⟨sl, z1, _⟩ := k b o z (fun z => by rw [z, he] at n; cases n) (fun z => hx (by simp [Value.ref.inj z]))
        exact ⟨sl, z1⟩
      · by_cases hbe : b = e
        · obtain ⟨oe, _, z1, _⟩ := xo1
          exact ⟨oe, by rw [hbe]; exact z1⟩
        · obtain ⟨sl, z1, _⟩ := k b o z hbe (fun z => hx (by simp [Value.ref.inj z]))
          exact ⟨_, z1⟩
    have J1 : Inv X pins σ1 H1 { s1 with heap := h1 } := J.call (g' := s1.gens) (t' := s1.toks) (d' := s1.drawn) (ch := [T]) un (KeptX.hok J k he (fun T0 z => by obtain rfl : T = T0 := Value.ref.inj z; exact f0) xo1.xp) J.bare fun b hb => by
      obtain rfl : b = T := by simpa using hb
      exact ⟨f3, f1, f4, f5⟩
    obtain ⟨g0, g1, g2, g3, g4, g5⟩ := J.fpOk (H' := H1) hT1 (J.hok.fresh hT1)
    have neT : T1 ≠ e := Nat.ne_of_gt (Nat.lt_of_lt_of_le elt hT1)
    refine flight_x (s := { s1 with heap := h1 }) xo1 tt1 neT fun h2 xo2 tt2 sz2 oth2 => ?_
    have J2 : Inv X pins σ1 H1 { s1 with heap := h2 } := Inv.turned (s := { s1 with heap := h1 }) (h' := h2) (t' := s1.toks) (it := T1) J1 (fun b o hb z => (oth2 b hb).trans z) g0 g1 g3 g4 g5
    refine wpAny_handleBy_cons (codeAny_handlers_test ?_) (by intro z; cases z)
    refine ld_glob (X := X.hn (.ref e)) J2.hn hg hm ?_ hdb
    obtain ⟨oe, vs, z1, z2, _⟩ := id xo2
    refine match_x J2.kIn xc hmro z1 z2 ?_
    refine codeAny_handlers_suite_as ?_
    refine flight_x (s := { s1 with heap := h2 }) xo2 tt2 neT fun h3 xo3 tt3 sz3 oth3 => ?_
    have J3 : Inv X pins σ1 H1 { s1 with heap := h3 } := Inv.turned (s := { s1 with heap := h2 }) (h' := h3) (t' := s1.toks) (it := T1) J2 (fun b o hb z => (oth3 b hb).trans z) g0 g1 g3 g4 g5
    refine store_ok (v := .ref e) J3 hN hi (.inl hk) rfl (fun s4 J4 => ?_) (.inr hk)
    refine wpAny_mono (hh (.ref e) pins s4 _ H1 _ J4.hn q) (fun f s5 z => ?_) fun _ _ z => False.elim z
    cases f with
    | next =>
      obtain ⟨σ5, H5, I5, q5⟩ := z
      exact goes_x (I5.unhn J.ok.hd) hN hi hk fun s6 J6 => ⟨_, _, J6, q5⟩
    | brk =>
      obtain ⟨σ5, H5, I5, q5⟩ := z
      exact goes_x (I5.unhn J.ok.hd) hN hi hk fun s6 J6 => ⟨_, _, J6, q5⟩
    | cont =>
      obtain ⟨σ5, H5, I5, q5⟩ := z
      exact goes_x (I5.unhn J.ok.hd) hN hi hk fun s6 J6 => ⟨_, _, J6, q5⟩
    | ret u =>
      obtain ⟨v, σ5, H5, I5, rv, q5⟩ := z
      exact goes_x (I5.unhn J.ok.hd) hN hi hk fun s6 J6 => ⟨v, _, _, J6, rv, q5⟩

end L2

namespace L2
open PySem PySem.Spec PyProof.Rows
structure XAttr (K : PySem.W.Frag) (C : Addr) : Prop where
  ga : PySem.W.findIn K (.ref C) "__getattribute__" = some (some (.builtin "BaseException.__getattribute__"))
  hk : PySem.W.findIn K (.ref C) "__getattr__" = some none
  ba : PySem.W.mroIn K C (.type "BaseException") = some true
  ob : PySem.W.mroIn K C (.type "object") = some true
  hd : PySem.W.hasDictIn K C = true
  cl : PySem.W.findIn K (.ref C) "__class__" = some (some (.builtin "object.__class__"))
  cg : PySem.W.specialIn K (.builtin "object.__class__") "__get__" = some (some (.builtin "getset_descriptor.__get__"))
  ct : PySem.W.takesIn K (.builtin "object.__class__") = some true
section
open PySem.W Builtin Builtin.ObjectAttr
variable {prog : Program} {w : World} {A : Around} {E : Value → Shared → Prop} {s : Shared} {K : PySem.W.Frag} {C x : Addr} {ox : Obj} {od : Option Obj} {name : Str} {v : Value}
theorem ga_x {tk : Tok} {fill expr : Bool} {Q : Value → Shared → Prop} (X : K.In s.heap) (I : PySem.W.InstAt s.heap x ox C od) (c : XAttr K C) (hv : handedIn v = true)
    (ent : ∀ {A' : Around} {Q' : Fin → Shared → Prop} {E' : Value → Shared → Prop}, Q' (.done (.ret v)) s → wpAny (model prog w) A' (Builtin.«object.__getattribute__» ⟨[.ref x, .str name tk], []⟩) Q' E' s) (q : Q v s) :
    wpAny (model prog w) A (getAttrBy (.ref x) (.str name tk) fill expr) Q E s := by
  have V := F.attr_ValueError.ga
  have isB : Looks (model prog w) s.heap (isInstance (.ref x) (.type "BaseException")) true := I.type.andThen (looks_mroIn X c.ba)
  unfold getAttrBy
  refine wpAny_holding (wpAny_bind (I.type.here (wpAny_bind ((looks_findIn X c.ga).here ?_))))
  dsimp only
  have nga : (Value.builtin "BaseException.__getattribute__" == Value.builtin "object.__getattribute__") = false := by decide +kernel
  rw [if_neg (by rw [nga, Bool.and_false]; decide)]
  unfold getAttrByItsOwn hookBefore
  refine wpAny_bind (show wpAny _ _ (typeLookup (.ref C) _) _ _ _ from (looks_findIn X c.hk).here (wpAny_bind (wpAny_attempt (wpAny_holding ?_))))
  unfold callGetattribute boundAndCalled
  rw [if_neg (by cases expr <;> decide)]
  refine wpAny_bind (wpAny_of_eq (V.bind _) ?_)
  dsimp only
  refine wpAny_call (codeAny_call_builtin V.plain F.entry_bexc_ga (@check_slot (model prog w) _ _ s "BaseException.__getattribute__" "BaseException" "__getattribute__" (.ref x) [.str name tk] [] _ (by decide +kernel) (by decide +kernel) isB (F.args_bexc_ga _ _) (ent ?_)))
  exact handed_on hv q
theorem class_x {Q : Option Value → Shared → Prop} (X : K.In s.heap) (I : PySem.W.InstAt s.heap x ox C od) (c : XAttr K C) (hf : findObj K C od "__class__" = some (.bind (.builtin "getset_descriptor.__get__") (.builtin "object.__class__"))) (q : Q (some (.ref C)) { s with toks := s.toks + 1 }) :
    wpAny (model prog w) A (getAttr? (.ref x) "__class__") Q E s := by
  unfold getAttr? getAttrBy?
  refine wpAny_bind (wpAny_mkText (wpAny_bind (wpAny_attempt (ga_x (s := { s with toks := s.toks + 1 }) X I c rfl (fun z => ?_) (wpAny_pure q)))))
  refine wpAny_bind (wpAny_pure (wpAny_bind (wpAny_pure (wpAny_bind (I.type _ _ _ _ (fun _ _ z => z) (wpAny_bind (looks_find X I hf _ _ _ _ (fun _ _ z => z) ?_)))))))
  dsimp only
  unfold bindTo
  exact wpAny_bind (wpAny_holding (wpAny_call (class_get (s := { s with toks := s.toks + 1 }) X I c.ob (wpAny_pure z))))
theorem find_class_x (c : XAttr K C) : ∀ od : Option Obj, findObj K C od "__class__" = some (.bind (.builtin "getset_descriptor.__get__") (.builtin "object.__class__"))
  | some o => findObj_data (by have h := c.hd; unfold hasDictIn at h; cases q : clsIn K C with | none => rw [q] at h; cases h | some cd => rfl) c.cl c.cg c.ct
  | none => by
    have h := c.hd
    unfold hasDictIn at h
    cases q : clsIn K C with
    | none => rw [q] at h; cases h
    | some cd =>
      unfold findObj
      rw [q, c.cl]
      simp only [Option.bind_some, c.cg, c.ct]
theorem kitx_x {e : Addr} (c : XAttr K C) : KitX K (.ref e) (.ref C) (fun h => ∃ ox od, PySem.W.InstAt h e ox C od) where
  ty := fun _ _ _ z => let ⟨_, _, I⟩ := z; I.type
  it := fun _ _ X _ => by
    have h := c.hd
    unfold hasDictIn clsIn at h
    split at h
    · rename_i c' d' cd' sl' ho
      intro A' Q' E' s' k q
      unfold isType loadHead
      exact wpAny_bind (wpAny_loadPart (k _ _ (X _ _ ho)) (wpAny_pure q))
    · cases h
  ne := fun h tp dd its n sl X htp => by
    have hd := c.hd
    unfold hasDictIn clsIn at hd
    refine Bool.eq_false_iff.mpr fun q => ?_
    obtain rfl : C = tp := Value.ref.inj (beq_iff_eq.mp q)
    split at hd
    · rename_i ho
      have z := (X _ _ ho).symm.trans htp
      cases z
    · cases hd
  ca := fun X z k => by
    obtain ⟨ox, od, I⟩ := z
    exact class_x X I c (find_class_x c od) k
end
theorem XO.inst {P : Program} {w : World} {H : Hp} {h : Heap} {e C : Addr} {dx : Option Addr} (k : HOk P w H h) (x : H e = some (XO e (.ref C) dx)) (d : ∀ a, dx = some a → ∃ fs, H a = some (.xd fs)) : ∃ ox od, PySem.W.InstAt h e ox C od := by
  obtain ⟨oe, vs, g1, g2, g3, g4, g5⟩ := XO.at k x
  have nc : PySem.W.notCls oe = true := by obtain ⟨_, _, dt, _⟩ := oe; obtain rfl : dt = _ := g4; rfl
  cases dx with
  | none => exact ⟨oe, none, ⟨g1, g2, nc, by rw [g3]; trivial⟩⟩
  | some a =>
    obtain ⟨fs, hfs⟩ := d a rfl
    obtain ⟨mA, ⟨o, es, ep, ho, _⟩, _⟩ := (show ObjOk P w H h a (.xd fs) from k a _ hfs)
    exact ⟨oe, some o, ⟨g1, g2, nc, by rw [g3]; exact ho⟩⟩
def TyX (K : PySem.W.Frag) (H : Hp) (x : V) (t : Value) : Prop := (x = .non ∧ t = .type "NoneType") ∨ ∃ e C dx, x = .ref e ∧ t = .ref C ∧ H e = some (XO e (.ref C) dx) ∧ (∀ a, dx = some a → ∃ fs, H a = some (.xd fs)) ∧ XAttr K C
section
variable {X : Cx}
theorem call_isiX (K : PySem.W.Frag) (hK : X.K = K := by rfl) : CallR X (.builtin "isinstance") (fun xs H Q => ∃ x c t b, xs = [x, c] ∧ TyX K H x t ∧ ((∃ a, c = .ref a ∧ PySem.W.kitOne K t (.ref a) = some b) ∨ ∃ T, c = .ty T ∧ PySem.W.kitOne K t (.type T) = some b) ∧ Q (.bl b) H) := by
  subst hK
  intro pins s σ H xs us Q I r h
  obtain ⟨x, c, t, b, rfl, ty, kc, q⟩ := h
  obtain ⟨u, v, rfl, ru, rv⟩ := vals2 r
  have fin : ∀ tk, EP X pins σ Q (.bool b) { s with toks := tk } := fun tk => ⟨.bl b, H, I.tok _, rfl, q⟩
  have go : PySem.W.kitOne X.K t v = some b → wpAny (model X.prog X.w) X.A (call (.builtin "isinstance") [u, v]) (EP X pins σ Q) X.xe s := fun kv => by
    rcases ty with ⟨rfl, rfl⟩ | ⟨e, C, dx, rfl, rfl, he, hd, xa⟩
    · exact isinst_ok I ru .non kv fin
    · cases ru
      exact PySem.W.kia_one (kitx_x xa) I.kIn (XO.inst I.hok he hd) kv (fun z => nomatch z) fin
  rcases kc with ⟨a, rfl, k⟩ | ⟨T, rfl, k⟩
  · cases rv
    exact go k
  · cases rv
    exact go k
theorem pe_gref {x : Str} {C : Addr} {pos : Pos} (hg : Gl X x) (hm : X.mg x = some (.ref C)) (hdb : (x == ("__debug__" : Str)) = false := by decide) : PE X (.Name x pos) (tC (.ref C)) := fun _ _ _ H _ I h => ld_glob I hg hm ⟨.ref C, H, I, rfl, h⟩ hdb
theorem pe_gint {x : Str} {i : Int} {t : Tok} {pos : Pos} (hg : Gl X x) (hm : X.mg x = some (.int i t)) (hdb : (x == ("__debug__" : Str)) = false := by decide) : PE X (.Name x pos) (tC (.int i)) := fun _ _ _ H _ I h => ld_glob I hg hm ⟨.int i, H, I, ⟨_, rfl⟩, h⟩ hdb
end

end L2

namespace L2
open PySem PySem.Spec PyProof.Rows
section
variable {X : Cx}
theorem vals_bools : ∀ {bs : List Bool} {us : List Value} {i : Nat} {v : Value}, Vals (bs.map V.bl) us → us[i]? = some v → ∃ b, bs[i]? = some b ∧ v = .bool b
  | [], us, i, v, r, e => by cases r; simp at e
  | b :: bs, us, 0, v, r, e => by cases r with | cons r0 rs => simp at e; subst e; exact ⟨b, rfl, r0⟩
  | b :: bs, us, i + 1, v, r, e => by
    cases r with
    | cons r0 rs => obtain ⟨b', e1, e2⟩ := vals_bools (i := i) rs (by simpa using e); exact ⟨b', by simpa using e1, e2⟩
theorem call_all (K : PySem.W.Frag) (hc : X.calm = true) (hK : X.K = K := by rfl) : CallR X (.builtin "all") (fun xs H Q => ∃ (p : Addr) (bs : List Bool), xs = [.ref p] ∧ SqL K H p (bs.map V.bl) ∧ Q (.bl (bs.all id)) H) := by
  subst hK
  intro pins s σ H xs us Q I r h
  obtain ⟨p, bs, rfl, hp, q⟩ := h
  obtain ⟨u, rfl, ru⟩ := vals1 r
  cases ru
  obtain ⟨its, rv, pl, hz⟩ := I.list hp
  have lt : p < s.heap.objs.size := let ⟨o, ho, _⟩ := pl.isList; Heap.lt_size ho
  have ne : p ≠ s.heap.objs.size := Nat.ne_of_lt lt
  refine call_all_walk (wpAny_pyIter_list pl.isList ⟨_, _, _, _, _, _, fun i => bs.getD i true, rfl, Walks.list (A := X.A.in1) (I.ok.hd hc) _ p ne its.toArray, ⟨⟨_, Heap.get?_push_size _ rfl, rfl, rfl⟩, pl.isList.push _⟩, ?_, fun h' tk k => ?_⟩)
  · intro i v s' Q' E' hv hq
    obtain ⟨b, e1, rfl⟩ := vals_bools (i := i) rv (by simpa using hv)
    have e2 : bs.getD i true = b := by rw [List.getD_eq_getElem?_getD, e1]; rfl
    dsimp only at hq
    rw [e2] at hq
    exact wpAny_pure hq
  · have el : its.toArray.size = bs.length := by rw [List.size_toArray, ← rv.length, List.length_map]
    have ea : ((List.range its.toArray.size).all fun i => bs.getD i true) = bs.all id := by
      rw [el, Bool.eq_iff_iff, List.all_eq_true, List.all_eq_true]
      constructor
      · intro z b hb
        obtain ⟨i, hi⟩ := List.mem_iff_getElem?.mp hb
        have := z i (List.mem_range.mpr (List.getElem?_eq_some_iff.mp hi).1)
        rw [List.getD_eq_getElem?_getD, hi] at this
        exact this
      · intro z i hi
        have hi' := List.mem_range.mp hi
        rw [List.getD_eq_getElem?_getD, List.getElem?_eq_getElem hi']
        exact z _ (List.getElem_mem hi')
    rw [ea]
    refine ⟨.bl _, H, ?_, rfl, q⟩
    have J := I.kept (h' := s.heap.push { cls := .type "list_iterator", data := .fields #[.ref p, .int 0 0] }) (t' := s.toks) fun b o z => Heap.get?_push_of_some _ z
    obtain ⟨g0, g1, g2, g3, g4, g5⟩ := I.fpOk (H' := H) (b := s.heap.objs.size) (Nat.le_refl _) (I.hok.fresh (Nat.le_refl _))
    exact Inv.turned (s := { s with heap := s.heap.push { cls := .type "list_iterator", data := .fields #[.ref p, .int 0 0] } }) (h' := h') (t' := tk) (it := s.heap.objs.size) J (fun b o hb z => k b o (by simpa using hb) z) g0 g1 g3 g4 g5
end

end L2

namespace L2
open PySem PySem.Spec PyProof.Rows

section
variable {X : Cx}
end
theorem FnOk.calm {P : Program} {w : World} {K : PySem.W.Frag} {mg : Str → Option Value} {base : Heap} {k : Nat} {f : Addr} {fd : FuncData} {ps : List Str} {sp sp' : Sp} (F : FnOk P w K mg base (CXe P w) k f fd ps sp) (h : ∀ vs H Q E, sp' vs H Q E → sp vs H Q (fun _ _ _ => False)) : FnOk P w K mg base CX0 k f fd ps sp' :=
  ⟨fun vs H Q E q => F.len vs H Q _ (h _ _ _ _ q), fun A outer s H args us vs Q E hr he hb hv hs => codeAny_mono (F.run A outer s H args us vs Q _ hr he hb hv (h _ _ _ _ hs)) fun r s' hq => by
    cases r with
    | ok fl => cases fl <;> exact hq
    | error e =>
      obtain ⟨_, _, _, _, _, _, _, _, _, _, _, _, _, _, _, _, _, z⟩ := hq
      exact z.elim⟩

end L2

namespace L2
open PySem PySem.Spec PyProof.Rows

section
variable {X : Cx} {e st : Expr} {te ts : TE} {pos p2 : Pos}
theorem fold_rep (l : List Nat) : ∀ (m : Nat) (acc : List Nat), List.foldl (fun x1 x2 => x1 ++ x2) acc.toArray (List.replicate m l.toArray) = (acc ++ (List.replicate m l).flatten).toArray
  | 0, acc => by simp
  | m + 1, acc => by
    rw [List.replicate_succ, List.foldl_cons, show acc.toArray ++ l.toArray = (acc ++ l).toArray by simp, fold_rep l m (acc ++ l), List.replicate_succ, List.flatten_cons, List.append_assoc]
theorem op_repS : OpR X (binaryOp .Mult) (fun x y H Q => ∃ z n, x = .str z ∧ y = .int n ∧ (1 < n ∧ n ≤ 1000 ∧ 0 < z.length ∧ z.length ≤ 100) ∧ ∀ r : Str, r.cps.toList = (List.replicate n.toNat z.cps.toList).flatten → Q (.str r) H) := by
  intro pins s σ H x y v u Q I rx ry h
  obtain ⟨z, n, rfl, rfl, ⟨h1, h2, h3, h4⟩, q⟩ := h
  obtain ⟨t, rfl⟩ := rx
  obtain ⟨t', rfl⟩ := ry
  have e1 : ¬ n < 1 := by omega
  have e2 : (n == 1 || z.length == 0) = false := by
    have a : (n == 1) = false := by simp; omega
    have b : (z.length == 0) = false := by simp; omega
    rw [a, b]; rfl
  have hm : z.length * n.toNat ≤ 100000 := Nat.le_trans (Nat.mul_le_mul h4 (show n.toNat ≤ 1000 by omega)) (by decide)
  have hsl := sizeLine_eq
  have ef : List.foldl (fun x1 x2 => x1 ++ x2) #[] (List.replicate n.toNat z.cps) = (List.replicate n.toNat z.cps.toList).flatten.toArray := by
    have := fold_rep z.cps.toList n.toNat []
    rw [List.nil_append] at this
    exact this
  refine P.mul_str ?_ (fun _ _ => ?_) (fun _ _ => ?_) ?_
  · rw [decide_eq_false (by omega), decide_eq_false (by omega)]; rfl
  · have : (z.length : Int) ≤ 100 := by omega
    have : (100 : Int) ≤ (2 ^ 63 - 1) / n := by
      rw [Int.le_ediv_iff_mul_le (by omega)]
      omega
    omega
  · unfold Builtin.Str.tooLong
    simp
    omega
  · rw [if_neg e1, if_neg (by rw [e2]; decide)]
    refine ⟨?_, ⟨.str _, H, I.tok _, ⟨_, rfl⟩, q _ (by rw [ef])⟩⟩
    show (List.foldl (fun x1 x2 => x1 ++ x2) #[] (List.replicate n.toNat z.cps)).size ≤ sizeLine
    rw [ef, List.size_toArray]
    have hl : (List.replicate n.toNat z.cps.toList).flatten.length = n.toNat * z.length := by
      simp [Str.length]
    rw [hl, Nat.mul_comm]
    omega
end
structure XCls0 (K : PySem.W.Frag) (C FE : Addr) : Prop where
  ob : ∃ (nm qn : Str) (N : Addr) (bs : List Value) (sn : List Str) (sub : List Value) (ab : Bool) (col : Option Bool) (dd : Option Addr) (k0 k1 k2 k3 k5 : Option Value) (c1 : Value) (d1 : Option Addr) (es : Array DictEntry) (n : Nat) (sl1 : Array (Option Value)), K.lookup C = some (excClassObj nm qn C N bs (.ref FE :: bmV) true sn sub ab col dd k0 k1 k2 k3 k5 "ValueError.__new__") ∧
    K.lookup N = some ⟨c1, d1, .dict es n, sl1⟩ ∧ strKeys es = true ∧ nsFind es "__init__" = none
  fe : ∃ (c0 : Value) (dd : Option Addr) (cd : ClassData) (sl : Array (Option Value)) (c1 : Value) (d1 : Option Addr) (es : Array DictEntry) (n : Nat) (sl1 : Array (Option Value)), K.lookup FE = some ⟨c0, dd, .cls cd, sl⟩ ∧ K.lookup cd.ns = some ⟨c1, d1, .dict es n, sl1⟩ ∧ strKeys es = true ∧ nsFind es "__init__" = none
theorem ns_of {K : PySem.W.Frag} {h : Heap} {N : Addr} {c1 : Value} {d1 : Option Addr} {es : Array DictEntry} {n : Nat} {sl1 : Array (Option Value)} (X : K.In h) (l : K.lookup N = some ⟨c1, d1, .dict es n, sl1⟩) (sk : strKeys es = true) : h.Ns N (fun y => nsFind es y) := by
  refine ⟨_, es, n, X _ _ l, rfl, fun e he => ?_, fun _ => rfl⟩
  have z := List.all_eq_true.mp sk e (by simpa using he)
  cases ek : e.key with
  | str nm t => exact ⟨nm, t, rfl⟩
  | _ => rw [ek] at z; cases z
theorem XCls0.tail {K : PySem.W.Frag} {C FE : Addr} {h : Heap} (x : XCls0 K C FE) (X : K.In h) : OwnTail h bmV (.ref FE :: bmV) := by
  obtain ⟨c0, dd, cd, sl, c1, d1, es, n, sl1, l1, l2, sk, ni⟩ := x.fe
  exact .own (X _ _ l1) (ns_of X l2 sk) ni .base
section
variable {prog : Program} {w : World} {A : Around} {E : Value → Shared → Prop} {h : Heap} {g : Array GenState} {d : Drawn} {t : Nat} {os : OsState}
variable {nm qn : Str} {C N : Addr} {bs bm : List Value} {hdct : Bool} {sn : List Str} {sub : List Value} {ab : Bool} {col : Option Bool} {dd : Option Addr} {k0 k1 k2 k3 k5 : Option Value}
theorem typecall_0 {rest : List Value} {mN : Str → Option Value} {Q : Fin → Shared → Prop} (hC : h.get? C = some (excClassObj nm qn C N bs bm hdct sn sub ab col dd k0 k1 k2 k3 k5 "ValueError.__new__")) (T : OwnTail h bmV bm) (hn : h.Ns N mN) (hni : mN "__init__" = none) (hrest : rest.length ≤ sizeLine)
    (q : ∀ h' : Heap, (∀ b o, h.get? b = some o → h'.get? b = some o) → (∃ t', h'.get? (h.objs.size + 1) = some (xNew C t')) → Q (.done (.ret (.ref (h.objs.size + 1)))) ⟨h', g, d, t, os⟩) :
    wpAny (model prog w) A (Builtin.«type.__call__» ⟨.ref C :: rest, []⟩) Q E ⟨h, g, d, t, os⟩ := by
  have V := F.excBase_ValueError
  repeat (first
    | with_reducible refine wpAny_madeBy_exc hC ?_
    | with_reducible refine wpAny_loadPart_at hC ?_
    | wp_step)
  refine codeAny_call_builtin_code (Code.quiet_builtin _ V.quiet) (wpAny_check_new_subT V T hC (codeAny_exc_new_subT V T hC ?_ hrest))
  show wpAny _ _ _ _ _ _
  have kp : ∀ b o, h.get? b = some o → ((h.push (xTup rest)).push (xNew C h.objs.size)).get? b = some o := fun b o e => Heap.get?_push_of_some _ (Heap.get?_push_of_some _ e)
  have hx : ((h.push (xTup rest)).push (xNew C h.objs.size)).get? (h.objs.size + 1) = some (xNew C h.objs.size) := by heap_get
  have self : (Value.ref C :: bm).contains (.ref C) = true := by simp
  unfold isInstance
  repeat (first
    | with_reducible refine wpAny_loadPart_at hx ?_
    | (with_reducible refine wpAny_isSubtype_exc (kp _ _ hC) ?_; rw [self])
    | wp_step)
  show wpAny _ _ (typeLookup (.ref C) _) _ _ _
  refine wpAny_typeLookup_tail (kp _ _ hC) (hn.keeps kp) (T.keeps kp) V.mroIs V.init.lookup ?_
  rw [hni]
  refine wpAny_holding (wpAny_bind (wpAny_of_eq (V.init.bind _) (wpAny_bind (wpAny_call (codeAny_call_builtin V.init.plain V.initEntry (wpAny_check_init_subT V (T.keeps kp) (kp _ _ hC) hx rfl ?_))))))
  wp_walk
  refine q _ (fun b o hb => ?_) ⟨((h.push (xTup rest)).push (xNew C h.objs.size)).objs.size, ?_⟩
  · exact (Heap.get?_update_other _ _ (Nat.ne_of_gt (Nat.lt_succ_of_lt (Heap.lt_size hb)))).trans (Heap.get?_push_of_some _ (kp b o hb))
  · exact Heap.get?_update_self _ (Heap.get?_push_of_some _ hx) rfl
theorem call_0 {rest : List Value} {mN : Str → Option Value} {Q : Value → Shared → Prop} (hC : h.get? C = some (excClassObj nm qn C N bs bm hdct sn sub ab col dd k0 k1 k2 k3 k5 "ValueError.__new__")) (T : OwnTail h bmV bm) (hn : h.Ns N mN) (hni : mN "__init__" = none) (hrest : rest.length ≤ sizeLine)
    (q : ∀ h' : Heap, (∀ b o, h.get? b = some o → h'.get? b = some o) → (∃ t', h'.get? (h.objs.size + 1) = some (xNew C t')) → Q (.ref (h.objs.size + 1)) ⟨h', g, d, t, os⟩) :
    wpAny (model prog w) A (call (.ref C) rest) Q E ⟨h, g, d, t, os⟩ := by
  have hT : (⟨h, g, d, t, os⟩ : Shared).TypeIs (.ref C) "type" := ⟨_, hC, rfl⟩
  have look := tc_lookup
  have bnd := tc_bind (.ref C)
  refine wpAny_call (codeAny_of_tree ?_)
  show wpAny _ _ (callAny (.ref C) _) _ _ _
  repeat (any_goals (first
    | assumption
    | with_reducible refine wpAny_loadPart_at hC ?_
    | wp_step))
  exact ⟨rfl, codeAny_call_builtin_at (Code.quiet_builtin _ (by decide +kernel)) entry_typeCall (wpAny_check_type_call_sub hC (typecall_0 hC T hn hni hrest q))⟩
end
def tRaise0 (C : Addr) (E : XK) (te : TA) : TS := fun _ σ H => te σ H fun vs H1 => ∃ y, vs = [y] ∧ ∀ e H', Same H1 H' → H1 e = none → H' e = some (XO e (.ref C) none) → E (.ref e) none H'
section
variable {P : Program} {w : World} {K : PySem.W.Frag} {mg : Str → Option Value} {base : Heap} {N : List Str} {qual : Str} {scope : Scope} {f0 : Addr} {cd : Value} {A : Around} {outer : List Env} {s0 : Shared} {H0 : Hp} {E : XK}
theorem ps_raise0 {x : Str} {C FE : Addr} {e1 : Expr} {te : TA} {p cpos pos : Pos} (xc : XCls0 K C FE) (hk : PySem.W.keepIn K (.ref C) = true) (hg : Gl (cxOf (CXe P w) P w K mg base N qual scope f0 cd A outer s0 H0 E) x) (hm : mg x = some (.ref C))
    (ha : PA (cxOf (CXe P w) P w K mg base N qual scope f0 cd A outer s0 H0 E) [e1] te) (hdb : (x == ("__debug__" : Str)) = false := by decide) (he : starEach [e1] (cxOf (CXe P w) P w K mg base N qual scope f0 cd A outer s0 H0 E).env = [(false, eval e1 (cxOf (CXe P w) P w K mg base N qual scope f0 cd A outer s0 H0 E).env)] := by rfl) :
    PS (cxOf (CXe P w) P w K mg base N qual scope f0 cd A outer s0 H0 E) (.Raise (some (.Call (.Name x p) [e1] [] cpos)) none pos) (tRaise0 C E te) := by
  intro pins s σ H D I h
  obtain ⟨nm, qn, Nn, bs, sn, sub, ab, col, dd, k0, k1, k2, k3, k5, c1, d1, es, n, sl1, l, ln, sk, ni⟩ := xc.ob
  rw [arm_exec_Raise]
  refine wpAny_bind (wpAny_standAt (raise_x (C := C) (nm := nm) (qn := qn) (N := Nn) (bs := bs) (bm := .ref FE :: bmV) (hdct := true) (sn := sn) (sub := sub) (ab := ab) (col := col) (dd := dd) (k0 := k0) (k1 := k1) (k2 := k2) (k3 := k3) (k5 := k5) (newId := "ValueError.__new__") rfl (I.ok.hd rfl) ?_))
  refine wpAny_bind (wpAny_mono (wpAny_Call_Name_kw (ld_glob I hg hm ?_ hdb)) (fun v s' z => wpAny_bind (wpAny_standAt (wpAny_pure z))) fun _ _ z => z)
  refine PySem.W.callWith_K (h₀ := base) I.ok.mod.kin hk (thn (ha cpos pins s σ H _ I h) fun us s1 ⟨vs, H1, I1, r, q⟩ => ⟨I1.kIn, ?_⟩) he rfl
  obtain ⟨y, rfl, q⟩ := q
  obtain ⟨u, rfl, ry⟩ := vals1 r
  obtain ⟨hp, g, d, tk, os⟩ := s1
  refine call_0 (I1.kIn _ _ l) (xc.tail I1.kIn) (ns_of I1.kIn ln sk) ni (by show 1 ≤ sizeLine; decide) (fun h' kp ⟨t', hx⟩ => ?_)
  have fr : H1 (hp.objs.size + 1) = none := I1.hok.fresh (Nat.le_succ _)
  have x0 : XObj h' (hp.objs.size + 1) (.ref C) none .none := ⟨_, _, hx, rfl, rfl, rfl, rfl⟩
  have J : Inv _ pins σ (upd H1 (hp.objs.size + 1) (XO (hp.objs.size + 1) (.ref C) none)) ⟨h', g, d, tk, os⟩ := I1.laid (a := hp.objs.size + 1) (o := XO (hp.objs.size + 1) (.ref C) none) (h' := h') (t' := tk) kp (Nat.le_succ _) (XP.obj x0.xp)
  exact ⟨_, _, _, rfl, J.kIn _ _ l, hx, rfl, rfl, rfl, leave_cx J upd_same x0 (.inl rfl) (by simp) (fun T z => by cases z) (Nat.le_trans I1.sz (Nat.le_succ _)) (q _ _ (same_new fr _) fr upd_same)⟩
end

end L2

namespace L2
open PySem PySem.Spec PyProof.Rows

section
variable {X : Cx}
theorem pe_gstr {x : Str} {z : Str} {t : Tok} {pos : Pos} (hg : Gl X x) (hm : X.mg x = some (.str z t)) (hdb : (x == ("__debug__" : Str)) = false := by decide) : PE X (.Name x pos) (tC (.str z)) := fun _ _ _ H _ I h => ld_glob I hg hm ⟨.str z, H, I, ⟨t, rfl⟩, h⟩ hdb
end

end L2

namespace L2
open PySem PySem.Spec PyProof.Rows
theorem vals_nums : ∀ {ns : List Int} {us : List Value} {i : Nat} {v : Value}, Vals (ns.map V.int) us → us[i]? = some v → ∃ n t, ns[i]? = some n ∧ v = .int n t
  | [], us, i, v, r, e => by cases r; simp at e
  | n :: ns, us, 0, v, r, e => by
    cases r with
    | cons r0 rs =>
      simp at e
      subst e
      obtain ⟨t, rfl⟩ := r0
      exact ⟨n, t, rfl, rfl⟩
  | n :: ns, us, i + 1, v, r, e => by
    cases r with
    | cons r0 rs => obtain ⟨n', t, e1, e2⟩ := vals_nums (i := i) rs (by simpa using e); exact ⟨n', t, by simpa using e1, e2⟩
theorem preSum_sum (ns : List Int) : ∀ k, k ≤ ns.length → preSum (fun i => ns.getD i 0) k = (ns.take k).sum
  | 0, _ => by simp [preSum]
  | k + 1, h => by
    have hk : k < ns.length := h
    rw [preSum, preSum_sum ns k (Nat.le_of_lt hk), List.take_add_one, List.getD_eq_getElem?_getD, List.getElem?_eq_getElem hk]
    simp only [Option.getD_some, Option.toList_some, List.sum_append, List.sum_cons, List.sum_nil, Int.add_zero]
section
variable {X : Cx}
theorem call_sum (K : PySem.W.Frag) (hc : X.calm = true) (hK : X.K = K := by rfl) : CallR X (.builtin "sum") (fun xs H Q => ∃ (p : Addr) (ns : List Int), xs = [.ref p] ∧ SqL K H p (ns.map V.int) ∧ Q (.int ns.sum) H) := by
  subst hK
  intro pins s σ H xs us Q I r h
  obtain ⟨p, ns, rfl, hp, q⟩ := h
  obtain ⟨u, rfl, ru⟩ := vals1 r
  cases ru
  obtain ⟨its, rv, pl, hz⟩ := I.list hp
  have lt : p < s.heap.objs.size := let ⟨o, ho, _⟩ := pl.isList; Heap.lt_size ho
  have ne : p ≠ s.heap.objs.size := Nat.ne_of_lt lt
  refine call_sum_walkAnyS (wpAny_pyIter_list pl.isList ⟨_, _, _, _, _, _, _, fun i => ns.getD i 0, rfl, (Walks.list (A := X.A.in1) (I.ok.hd hc) _ p ne its.toArray).toS, ⟨⟨_, Heap.get?_push_size _ rfl, rfl, rfl⟩, pl.isList.push _⟩, ?_, ?_, fun s' t' m => ?_⟩)
  · intro b hb
    rw [Heap.size_push]
    rcases List.mem_cons.mp hb with z | z
    · rw [z]; exact Nat.lt_succ_self _
    · rw [List.mem_singleton.mp z]; exact Nat.lt_succ_of_lt lt
  · intro i v hv
    obtain ⟨n, t, e1, rfl⟩ := vals_nums (i := i) rv (by simpa using hv)
    exact ⟨t, by dsimp only; rw [List.getD_eq_getElem?_getD, e1]; rfl⟩
  · have el : its.toArray.size = ns.length := by rw [List.size_toArray, ← rv.length, List.length_map]
    rw [el, preSum_sum ns _ (Nat.le_refl _), List.take_length]
    refine ⟨.int _, H, ?_, ⟨t', rfl⟩, q⟩
    have J := I.kept (h' := s.heap.push { cls := .type "list_iterator", data := .fields #[.ref p, .int 0 0] }) (t' := s.toks) fun b o z => Heap.get?_push_of_some _ z
    obtain ⟨g0, g1, g2, g3, g4, g5⟩ := I.fpOk (H' := H) (b := s.heap.objs.size) (Nat.le_refl _) (I.hok.fresh (Nat.le_refl _))
    obtain ⟨h', gn, dr, tk, os⟩ := s'
    obtain ⟨mh, mg', md, mo, mt⟩ := m
    dsimp only at mh mg' md mo mt
    subst mg' md mo
    exact Inv.turned (s := { s with heap := s.heap.push { cls := .type "list_iterator", data := .fields #[.ref p, .int 0 0] } }) (h' := h') (t' := tk) (it := s.heap.objs.size) J (fun b o hb z => mh b o (by simpa using hb) z) g0 g1 g3 g4 g5
end

theorem star_K {c : Const} {k : Nat} {p : Pos} {es : List Expr} {env : Env} : starEach (Expr.Constant c k p :: es) env = (false, eval (Expr.Constant c k p) env) :: starEach es env := rfl
theorem star_B {l r : Expr} {o : Operator} {p : Pos} {es : List Expr} {env : Env} : starEach (Expr.BinOp l o r p :: es) env = (false, eval (Expr.BinOp l o r p) env) :: starEach es env := rfl

end L2

namespace L2
open PySem PySem.Spec PyProof.Rows
section
variable {X : Cx}
def rStarts3 : V → List V → Hp → VK → Prop := fun x vs H Q => ∃ (z y : Str) (i : Int), x = .str z ∧ vs = [.str y, .int i] ∧ Q (.bl (Txt.startswith3 z y i)) H
end
section
variable {X : Cx}
theorem mt_starts3 : MtM X "str.startswith" rStarts3 := by
  intro pins s σ H x vs v us Q I rx rv h
  obtain ⟨z, y, i, rfl, rfl, q⟩ := h
  obtain ⟨t, rfl⟩ := rx
  obtain ⟨u, w', rfl, ⟨t1, rfl⟩, ⟨t2, rfl⟩⟩ := vals2 rv
  exact SC.startswith3 ⟨.bl _, H, I, rfl, q⟩
end
section
variable {X : Cx}
theorem call_strI : CallR X (.type "str") (fun xs H Q => ∃ i : Int, xs = [.int i] ∧ i.natAbs.log2 < 1920 ∧ Q (.str (toString i)) H) := by
  intro pins s σ H xs us Q I r h
  obtain ⟨i, rfl, hi, q⟩ := h
  obtain ⟨u, rfl, t, rfl⟩ := vals1 r
  exact PySem.P.str_of_int hi ⟨.str _, H, I.tok _, ⟨_, rfl⟩, q⟩
end

end L2

namespace L2
open PySem PySem.Spec PyProof.Rows
section
variable {κ : Type} [DecidableEq κ]
def valV (kvs : List (κ × V)) (k : κ) : Option V := (kvs.find? fun kv => decide (kv.1 = k)).map (·.2)
def putK (kvs : List (κ × V)) (k : κ) (v : V) : List (κ × V) :=
  if (kvs.any fun kv => decide (kv.1 = k)) = true then kvs.map (fun kv => if kv.1 = k then (kv.1, v) else kv) else kvs ++ [(k, v)]
def dropK (kvs : List (κ × V)) (k : κ) : List (κ × V) := kvs.filter fun kv => decide (kv.1 ≠ k)

theorem valV_pos {p : κ × V} {r : List (κ × V)} {k : κ} (e : p.1 = k) : valV (p :: r) k = some p.2 := by simp [valV, List.find?_cons, e]
theorem valV_neg {p : κ × V} {r : List (κ × V)} {k : κ} (e : ¬ p.1 = k) : valV (p :: r) k = valV r k := by simp [valV, List.find?_cons, e]
theorem valV_any (k : κ) : ∀ kvs : List (κ × V), (kvs.any fun kv => decide (kv.1 = k)) = (valV kvs k).isSome
  | [] => rfl
  | p :: r => by
    rw [List.any_cons]
    by_cases e : p.1 = k
    · simp only [valV_pos e, decide_eq_true e, Bool.true_or, Option.isSome_some]
    · rw [valV_neg e, decide_eq_false e, Bool.false_or]; exact valV_any k r
theorem length_putK (kvs : List (κ × V)) (k : κ) (v : V) : (putK kvs k v).length ≤ kvs.length + 1 := by
  unfold putK
  split
  · rw [List.length_map]; omega
  · rw [List.length_append, List.length_cons, List.length_nil]; omega

theorem RelO.isSome_eq {o : Option V} {u : Option Value} (r : RelO o u) : o.isSome = u.isSome := by
  cases o with
  | none => cases u with
    | none => rfl
    | some _ => exact (show False from r).elim
  | some _ => cases u with
    | none => exact (show False from r).elim
    | some _ => rfl
theorem RelO.getD {o : Option V} {u : Option Value} {d : V} {d' : Value} (r : RelO o u) (rd : RelV d d') : RelV (o.getD d) (u.getD d') := by
  cases o with
  | none => cases u with
    | none => exact rd
    | some _ => exact (show False from r).elim
  | some _ => cases u with
    | none => exact (show False from r).elim
    | some _ => exact r

theorem KV.val {kvs : List (κ × V)} {vs : List (κ × Value)} (r : KV kvs vs) (k : κ) : RelO (valV kvs k) (valueAt vs k) := by
  unfold KV at r
  induction r with
  | nil => exact True.intro
  | @cons p q ps qs h t ih =>
    obtain ⟨h1, h2⟩ := h
    by_cases e : p.1 = k
    · have e' : q.1 = k := h1.symm.trans e
      have b : valueAt (q :: qs) k = some q.2 := by simp [valueAt, List.find?_cons, e']
      rw [valV_pos e, b]; exact h2
    · have e' : ¬ q.1 = k := fun z => e (h1.trans z)
      have b : valueAt (q :: qs) k = valueAt qs k := by simp [valueAt, List.find?_cons, e']
      rw [valV_neg e, b]; exact ih
theorem KV.any {kvs : List (κ × V)} {vs : List (κ × Value)} (r : KV kvs vs) (k : κ) : (kvs.any fun kv => decide (kv.1 = k)) = vs.any fun kv => decide (kv.1 = k) := by
  unfold KV at r
  induction r with
  | nil => rfl
  | cons h t ih => rw [List.any_cons, List.any_cons, ih, h.1]
theorem KV.repl {kvs : List (κ × V)} {vs : List (κ × Value)} (r : KV kvs vs) (k : κ) {y : V} {u : Value} (ry : RelV y u) :
    KV (kvs.map fun kv => if kv.1 = k then (kv.1, y) else kv) (vs.map fun kv => if kv.1 = k then (kv.1, u) else kv) := by
  unfold KV at r ⊢
  induction r with
  | nil => exact .nil
  | @cons p q ps qs h t ih =>
    rw [List.map_cons, List.map_cons]
    refine .cons ?_ ih
    obtain ⟨h1, h2⟩ := h
    by_cases e : p.1 = k
    · rw [if_pos e, if_pos (h1.symm.trans e)]; exact ⟨h1, ry⟩
    · rw [if_neg e, if_neg (fun z => e (h1.trans z))]; exact ⟨h1, h2⟩
theorem KV.put {kvs : List (κ × V)} {vs : List (κ × Value)} (r : KV kvs vs) (k : κ) {y : V} {u : Value} (ry : RelV y u) : KV (putK kvs k y) (stored vs k u) := by
  unfold putK stored
  rw [r.any k]
  by_cases e : (vs.any fun kv => decide (kv.1 = k)) = true
  · rw [if_pos e, if_pos e]; exact r.repl k ry
  · rw [if_neg e, if_neg e]; exact Paired.snoc r ⟨rfl, ry⟩
theorem KV.drop {kvs : List (κ × V)} {vs : List (κ × Value)} (r : KV kvs vs) (k : κ) : KV (dropK kvs k) (without vs k) := by
  unfold KV at r ⊢
  unfold dropK without
  induction r with
  | nil => exact .nil
  | @cons p q ps qs h t ih =>
    obtain ⟨h1, h2⟩ := h
    rw [List.filter_cons, List.filter_cons]
    by_cases e : p.1 = k
    · have a : ¬ decide (p.1 ≠ k) = true := by simp [e]
      have b : ¬ decide (q.1 ≠ k) = true := by simp [h1.symm.trans e]
      rw [if_neg a, if_neg b]; exact ih
    · have e' : ¬ q.1 = k := fun z => e (h1.trans z)
      have a : decide (p.1 ≠ k) = true := by simp [e]
      have b : decide (q.1 ≠ k) = true := by simp [e']
      rw [if_pos a, if_pos b]; exact .cons ⟨h1, h2⟩ ih
theorem KV.keys {kvs : List (κ × V)} {vs : List (κ × Value)} (r : KV kvs vs) : kvs.map (·.1) = vs.map (·.1) := by
  unfold KV at r
  induction r with
  | nil => rfl
  | cons h t ih => rw [List.map_cons, List.map_cons, ih, h.1]
theorem KV.length {kvs : List (κ × V)} {vs : List (κ × Value)} (r : KV kvs vs) : kvs.length = vs.length := Paired.length r
end


theorem kV_is {P : Program} {w : World} {k : Key} {u : Value} (r : RelV (kV k) u) : (mixKind P w).is k u = true := by
  cases k with
  | inl i => obtain ⟨t, e⟩ := (show ∃ t, u = Value.int i t from r); subst e; exact mixKind_int P w i t
  | inr x => obtain ⟨t, e⟩ := (show ∃ t, u = Value.str x t from r); subst e; exact mixKind_str P w x t
theorem items_are {P : Program} {w : World} : ∀ {ks : List Key} {us : List Value}, Vals (ks.map kV) us → ItemsAre (mixKind P w) ks us
  | [], _, r => by rw [List.map_nil] at r; cases r; exact .nil
  | k :: ks, _, r => by
    rw [List.map_cons] at r
    cases r with
    | cons h t => exact .cons (kV_is h) (items_are t)

abbrev KT (H : Hp) : List (List Key × V) → List (List Key × Addr × Value) → Prop := Paired fun p q => p.1 = q.1 ∧ H q.2.1 = some (.tup (p.1.map kV)) ∧ RelV p.2 q.2.2
theorem KT.val {H : Hp} {kvs : List (List Key × V)} {xs : List (List Key × Addr × Value)} (r : KT H kvs xs) (k : List Key) : RelO (valV kvs k) ((atKey xs k).map (·.2)) := by
  induction r with
  | nil => exact True.intro
  | @cons p q ps qs h t ih =>
    obtain ⟨h1, _, h2⟩ := h
    by_cases e : p.1 = k
    · have e' : q.1 = k := h1.symm.trans e
      have b : atKey (q :: qs) k = some q.2 := by simp [atKey, List.find?_cons, e']
      rw [valV_pos e, b]; exact h2
    · have e' : ¬ q.1 = k := fun z => e (h1.trans z)
      have b : atKey (q :: qs) k = atKey qs k := by simp [atKey, List.find?_cons, e']
      rw [valV_neg e, b]; exact ih
theorem KT.repl {H : Hp} {kvs : List (List Key × V)} {xs : List (List Key × Addr × Value)} (r : KT H kvs xs) (k : List Key) {y : V} {u : Value} (ry : RelV y u) :
    KT H (kvs.map fun kv => if kv.1 = k then (kv.1, y) else kv) (xs.map (putAt k u)) := by
  induction r with
  | nil => exact .nil
  | @cons p q ps qs h t ih =>
    rw [List.map_cons, List.map_cons]
    refine .cons ?_ ih
    obtain ⟨h1, h2, h3⟩ := h
    unfold putAt
    by_cases e : p.1 = k
    · rw [if_pos e, if_pos (h1.symm.trans e)]; exact ⟨h1, h2, ry⟩
    · rw [if_neg e, if_neg (fun z => e (h1.trans z))]; exact ⟨h1, h2, h3⟩
theorem KT.put {H : Hp} {kvs : List (List Key × V)} {xs : List (List Key × Addr × Value)} (r : KT H kvs xs) (k : List Key) {b : Addr} {y : V} {u : Value} (hb : H b = some (.tup (k.map kV))) (ry : RelV y u) :
    KT H (putK kvs k y) (storedH xs k b u) := by
  have e : (kvs.any fun kv => decide (kv.1 = k)) = (atKey xs k).isSome := by
    rw [valV_any, (r.val k).isSome_eq, Option.isSome_map]
  unfold putK storedH
  rw [e]
  by_cases q : (atKey xs k).isSome = true
  · rw [if_pos q, if_pos q]; exact r.repl k ry
  · rw [if_neg q, if_neg q]; exact Paired.snoc r ⟨rfl, hb, ry⟩
theorem KT.keeps {H H' : Hp} {kvs : List (List Key × V)} {xs : List (List Key × Addr × Value)} (r : KT H kvs xs) (ht : ∀ b ys, H b = some (.tup ys) → H' b = some (.tup ys)) : KT H' kvs xs :=
  Paired.mapP r fun _ _ z => ⟨z.1, ht _ _ z.2.1, z.2.2⟩

section
variable {P : Program} {w : World} {H : Hp} {h : Heap} {a : Addr}
theorem rd_of {u : HO} (ok : HOk P w H h) (e : Rd H a u) : ObjOk P w H h a u := e.ok ok
theorem dk_rd {kvs : List (Key × V)} (ok : HOk P w H h) (e : Rd H a (.dK kvs)) : kvs.length ≤ sizeLine ∧ (a == sysModules) = false ∧ ∃ vs, KV kvs vs ∧ h.DictOf (mixKind P w) a vs :=
  show ObjOk P w H h a (.dK kvs) from rd_of ok e
theorem dk_of {kvs : List (Key × V)} (ok : HOk P w H h) (e : H a = some (.dK kvs)) : kvs.length ≤ sizeLine ∧ (a == sysModules) = false ∧ ∃ vs, KV kvs vs ∧ h.DictOf (mixKind P w) a vs := dk_rd ok (.inl e)
theorem key_of {ks : List Key} (ok : HOk P w H h) (e : H a = some (.tup (ks.map kV))) : (tupleKind (mixKind P w)).is h ks a := by
  obtain ⟨_, its, r, o, h1, h2, n, h3⟩ := (show ObjOk P w H h a (.tup (ks.map kV)) from ok a _ e)
  exact ⟨o, its.toArray, n, h1, h2, h3, by simpa using items_are r⟩
theorem dt_rd {kvs : List (List Key × V)} (ok : HOk P w H h) (e : Rd H a (.dT kvs)) : kvs.length ≤ sizeLine ∧ (a == sysModules) = false ∧
    ∃ xs, KT H kvs xs ∧ h.DictOfH (tupleKind (mixKind P w)) a xs := by
  obtain ⟨z, y, xs, r, o, es, ep, h1, h2, h3, h4, h5⟩ := (show ObjOk P w H h a (.dT kvs) from rd_of ok e)
  refine ⟨z, y, xs, r, o, es, ep, h1, h2, h3, h4, fun x hx => ?_, h5⟩
  have all : ∀ {l : List (List Key × V)} {m : List (List Key × Addr × Value)}, KT H l m → ∀ x ∈ m, (tupleKind (mixKind P w)).is h x.1 x.2.1 := by
    intro l m q
    induction q with
    | nil => intro x hx; exact nomatch hx
    | @cons p q ps qs hq t ih =>
      intro x hx
      rcases List.mem_cons.mp hx with e | hx
      · subst e
        exact key_of ok (by rw [← hq.1]; exact hq.2.1)
      · exact ih x hx
  exact all r x hx
end

def DGet (H : Hp) (a : Addr) (y : V) (r : Option V) : Prop :=
  (∃ kvs k, Rd H a (.dK kvs) ∧ y = kV k ∧ r = valV kvs k) ∨ ∃ kvs k b, Rd H a (.dT kvs) ∧ y = .ref b ∧ H b = some (.tup (k.map kV)) ∧ r = valV kvs k
def DPut (H : Hp) (a : Addr) (y v : V) (H' : Hp) : Prop :=
  (∃ kvs k, H a = some (.dK kvs) ∧ y = kV k ∧ kvs.length < sizeLine ∧ H' = upd H a (.dK (putK kvs k v))) ∨
  ∃ kvs k b, H a = some (.dT kvs) ∧ y = .ref b ∧ H b = some (.tup (k.map kV)) ∧ kvs.length < sizeLine ∧ H' = upd H a (.dT (putK kvs k v))
theorem DGet.k {H : Hp} {a : Addr} {kvs : List (Key × V)} {k : Key} (e : H a = some (.dK kvs)) : DGet H a (kV k) (valV kvs k) := .inl ⟨kvs, k, .inl e, rfl, rfl⟩
theorem DGet.t {H : Hp} {a b : Addr} {kvs : List (List Key × V)} {k : List Key} (e : H a = some (.dT kvs)) (eb : H b = some (.tup (k.map kV))) : DGet H a (.ref b) (valV kvs k) := .inr ⟨kvs, k, b, .inl e, rfl, eb, rfl⟩
theorem DPut.k {H : Hp} {a : Addr} {kvs : List (Key × V)} {k : Key} {v : V} (e : H a = some (.dK kvs)) (hl : kvs.length < sizeLine) : DPut H a (kV k) v (upd H a (.dK (putK kvs k v))) := .inl ⟨kvs, k, e, rfl, hl, rfl⟩
theorem DPut.t {H : Hp} {a b : Addr} {kvs : List (List Key × V)} {k : List Key} {v : V} (e : H a = some (.dT kvs)) (eb : H b = some (.tup (k.map kV))) (hl : kvs.length < sizeLine) :
    DPut H a (.ref b) v (upd H a (.dT (putK kvs k v))) := .inr ⟨kvs, k, b, e, rfl, eb, hl, rfl⟩


section
variable {X : Cx} {pins : List (Addr × Obj)} {σ : St} {H : Hp} {s : Shared} {a : Addr} {y v : V} {u r : Value} {o : Option V} {A : Around} {E : Value → Shared → Prop}

theorem Inv.big (I : Inv X pins σ H s) : sysModules < s.heap.objs.size := by
  have h : mainGlobals < s.heap.objs.size := (I.mod.glob.keeps I.bk).lt
  exact Nat.lt_trans (by decide) h

theorem d_getItem {Q : Value → Shared → Prop} (hu : A.units + 1 < cLine) (I : Inv X pins σ H s) (g : DGet H a y (some v)) (ry : RelV y u) (h : ∀ w' s', Inv X pins σ H s' → RelV v w' → Q w' s') :
    wpAny (model X.prog X.w) A (getItem (.ref a) u) Q E s := by
  rcases g with ⟨kvs, k, e, ey, l⟩ | ⟨kvs, k, b, e, ey, eb, l⟩
  · subst ey
    obtain ⟨z, hd, vs, rel, dd⟩ := dk_rd I.hok e
    obtain ⟨w', hw, rw'⟩ := RelO.some_of (v := v) (o := valueAt vs k) (by rw [l]; exact rel.val k)
    exact wpAny_getItem_of (kV_is ry) dd.mapOf hw (h w' _ (I.tok _) rw')
  · subst ey
    cases (show u = Value.ref b from ry)
    obtain ⟨z, hd, xs, rel, dd⟩ := dt_rd I.hok e
    obtain ⟨w', hw, rw'⟩ := RelO.some_of (v := v) (o := (atKey xs k).map (·.2)) (by rw [l]; exact rel.val k)
    obtain ⟨p, hp, hp2⟩ := Option.map_eq_some_iff.mp hw
    refine wpAny_getItem_heap (tupleKind_room_in1 hu) (key_of I.hok eb) dd hp ?_
    rw [hp2]
    exact h w' _ (I.tok _) rw'
theorem d_write {h' : Heap} {t' : Nat} {ob : HO} (I : Inv X pins σ H s) (mu : Mut (H a)) (hs : Heap.SameBut a s.heap h') (he : ∃ q, h'.get? a = some q) (new : ObjOk X.prog X.w (upd H a ob) h' a ob) :
    Inv X pins σ (upd H a ob) { s with heap := h', toks := t' } :=
  I.write (x := a) (e := a) mu (.inl rfl) (fun b q hb z => (hs.2 b hb).trans z) he new
theorem dk_new {P : Program} {w : World} {H' : Hp} {h' : Heap} {kvs : List (Key × V)} {vs : List (Key × Value)} (z : kvs.length ≤ sizeLine) (hd : (a == sysModules) = false) (rel : KV kvs vs) (dd : h'.DictOf (mixKind P w) a vs) :
    ObjOk P w H' h' a (.dK kvs) := ⟨z, hd, vs, rel, dd⟩
end

section
variable {X : Cx} {pins : List (Addr × Obj)} {σ : St} {H : Hp} {s : Shared} {a : Addr} {kvs : List (Key × V)} {k : Key} {u : Value} {A : Around} {E : Value → Shared → Prop}
end


def NoSl (i : Expr) : Prop := ∀ ov iv, subscripted i false ov iv = operate [ov, iv] (getItem ov iv)
theorem subD_of {prog : Program} {w : World} {A : Around} {E : Value → Shared → Prop} {s : Shared} {env : Env} {value slice : Expr} {pos : Pos} {T id : String} {Q : Value → Shared → Prop}
    (hl : typeLookup (.type T) "__getitem__" = pure (some (.builtin id))) (hs : NoSl slice)
    (h : wpAny (model prog w) A (eval value env) (fun o s₁ => wpAny (model prog w) A (eval slice env) (fun i s₂ => s₂.TypeIs o T ∧ wpAny (model prog w) A (getItem o i) Q E s₂) E s₁) E s) :
    wpAny (model prog w) A (eval (.Subscript value slice pos) env) Q E s := by
  refine Subscript_ (wpAny_mono h (fun o s₁ h₁ => wpAny_mono h₁ (fun i s₂ h₂ => ?_) fun _ _ x => x) fun _ _ x => x)
  obtain ⟨hT, h₂⟩ := h₂
  unfold subscriptTail
  refine wpAny_bind ?_
  rw [getitemInPython_of_ne hT.not_modules]
  refine wpAny_bind (wpAny_specialOf hT hl ?_)
  have fin : wpAny (model prog w) A (subscripted slice false o i) (fun r s₃ => wpAny (model prog w) A (letTemporaryGo value o r >>= fun _ => pure r) Q E s₃) E s₂ := by
    rw [hs o i]
    exact wpAny_operating (wpAny_mono h₂ (fun r s₃ h₃ => wpAny_bind (wpAny_letTemporaryGo (wpAny_pure h₃))) fun _ _ x => x)
  first
    | exact wpAny_pure (wpAny_bind fin)
    | exact wpAny_bind (wpAny_pure (wpAny_bind fin))
    | exact wpAny_bind fin

theorem dict_typeIs {X : Cx} {pins : List (Addr × Obj)} {σ : St} {H : Hp} {s : Shared} {a : Addr} {y : V} {o : Option V} (I : Inv X pins σ H s) (g : DGet H a y o) : s.TypeIs (.ref a) "dict" := by
  rcases g with ⟨kvs, k, e, _, _⟩ | ⟨kvs, k, b, e, _, _, _⟩
  · obtain ⟨_, _, vs, _, dd⟩ := dk_rd I.hok e
    exact dd.typeIs
  · obtain ⟨_, _, xs, _, dd⟩ := dt_rd I.hok e
    exact dd.typeIs

def tDGet (td ty : TE) : TE := fun σ H Q => td σ H fun x H1 => ty σ H1 fun y H2 => ∃ a v, x = .ref a ∧ DGet H2 a y (some v) ∧ Q v H2

section
variable {X : Cx} {o i e value : Expr} {pos pos' tpos : Pos} {td ty tv : TE}
theorem pe_dget (hu : X.A.units + 1 < cLine) (ho : PE X o td) (hi : PE X i ty) (hs : NoSl i) : PE X (.Subscript o i pos) (tDGet td ty) := by
  intro pins s σ H Q I h
  refine subD_of PySem.F.slot_dict_getitem.lookup hs (thn (ho pins s σ H _ I h) fun u s1 ⟨x, H1, I1, rx, q1⟩ => thn (hi pins s1 σ H1 _ I1 q1) fun iv s2 ⟨y, H2, I2, ry, a, v, ex, g, q2⟩ => ?_)
  subst ex
  obtain rfl : u = Value.ref a := rx
  exact ⟨dict_typeIs I2 g, d_getItem hu I2 g ry fun w' s3 I3 rw' => ⟨v, H2, I3, rw', q2⟩⟩
end


theorem dk_empty {P : Program} {w : World} {H : Hp} (h : Heap) (hb : sysModules < h.objs.size) : ObjOk P w H (h.push { cls := .type "dict", data := .dict #[] }) h.objs.size (.dK []) :=
  ⟨Nat.zero_le _, beq_eq_false_iff_ne.mpr (Ne.symm (Nat.ne_of_lt hb)), [], .nil, Heap.DictOf.new h⟩
section
variable {X : Cx} {pos : Pos}
end

def tPairs : List (TE × TE) → St → Hp → (List (V × V) → Hp → Prop) → Prop
  | [], _, H, Q => Q [] H
  | (tk, tv) :: r, σ, H, Q => tk σ H fun x H1 => tv σ H1 fun y H2 => tPairs r σ H2 fun ps H3 => Q ((x, y) :: ps) H3
abbrev VV : List (V × V) → List (Value × Value) → Prop := Paired fun p q => RelV p.1 q.1 ∧ RelV p.2 q.2
def PPs (X : Cx) (pos : Pos) (keys : List (Option Expr)) (values : List Expr) (trs : List (TE × TE)) : Prop :=
  ∀ (pins : List (Addr × Obj)) (s : Shared) (σ : St) (H : Hp) (Q : List (V × V) → Hp → Prop), Inv X pins σ H s → tPairs trs σ H Q →
    wpAny (model X.prog X.w) X.A (evalPairs (pairTrees keys values X.env pos)) (fun vs s' => ∃ ps H', Inv X pins σ H' s' ∧ VV ps vs ∧ Q ps H') X.xe s
theorem pps_nil {X : Cx} {pos : Pos} : PPs X pos [] [] [] := fun pins s σ H Q I h => pairTrees_nil_walk ⟨[], H, I, .nil, h⟩
theorem pps_cons {X : Cx} {pos : Pos} {k v : Expr} {ks : List (Option Expr)} {vs : List Expr} {tk tv : TE} {trs : List (TE × TE)} (hk : PE X k tk) (hv : PE X v tv) (hr : PPs X pos ks vs trs) :
    PPs X pos (some k :: ks) (v :: vs) ((tk, tv) :: trs) := fun pins s σ H Q I h =>
  pairTrees_cons_walk (thn (hk pins s σ H _ I h) fun u s1 ⟨x, H1, I1, rx, q1⟩ => thn (hv pins s1 σ H1 _ I1 q1) fun w2 s2 ⟨y, H2, I2, ry, q2⟩ =>
    thn (hr pins s2 σ H2 _ I2 q2) fun ws s3 ⟨ps, H3, I3, rel, q3⟩ => ⟨(x, y) :: ps, H3, I3, .cons ⟨rx, ry⟩ rel, q3⟩)

def mergeK (kvs more : List (Key × V)) : List (Key × V) := more.foldl (fun acc kv => putK acc kv.1 kv.2) kvs
theorem KV.merge : ∀ {more : List (Key × V)} {rs : List (Key × Value)} {kvs : List (Key × V)} {vs : List (Key × Value)}, KV more rs → KV kvs vs → KV (mergeK kvs more) (merged vs rs) := by
  intro more rs kvs vs r
  unfold KV at r
  induction r generalizing kvs vs with
  | nil => intro q; exact q
  | @cons p q ps qs h t ih =>
    intro r0
    have e : KV (putK kvs p.1 p.2) (stored vs q.1 q.2) := by
      have := r0.put p.1 h.2
      rw [← h.1]; exact this
    exact ih e
theorem length_mergeK : ∀ (more kvs : List (Key × V)), (mergeK kvs more).length ≤ kvs.length + more.length
  | [], kvs => by show kvs.length ≤ kvs.length + 0; omega
  | p :: r, kvs => by
    have h1 := length_mergeK r (putK kvs p.1 p.2)
    have h2 := length_putK kvs p.1 p.2
    show (mergeK (putK kvs p.1 p.2) r).length ≤ _
    rw [List.length_cons]; omega
theorem carries_of {P : Program} {w : World} : ∀ {kvs : List (Key × V)} {ws : List (Value × Value)}, VV (kvs.map fun kv => (kV kv.1, kv.2)) ws → ∃ rs, Carries (mixKind P w) ws rs ∧ KV kvs rs
  | [], _, r => by rw [List.map_nil] at r; cases r; exact ⟨[], True.intro, .nil⟩
  | p :: kvs, _, r => by
    rw [List.map_cons] at r
    cases r with
    | @cons a b as bs h t =>
      obtain ⟨rs, c, q⟩ := carries_of (P := P) (w := w) t
      obtain ⟨b1, b2⟩ := b
      exact ⟨(p.1, b2) :: rs, ⟨kV_is h.1, rfl, c⟩, .cons ⟨rfl, h.2⟩ q⟩
def tDisp (trs : List (TE × TE)) : TE := fun σ H Q => ∀ p, H p = none → tPairs trs σ (upd H p (.dK [])) fun ps H2 => H2 p = some (.dK []) ∧ ∃ kvs : List (Key × V), ps = kvs.map (fun kv => (kV kv.1, kv.2)) ∧ kvs.length ≤ 15 ∧ Q (.ref p) (upd H2 p (.dK (mergeK [] kvs)))
theorem pe_disp {X : Cx} {pos : Pos} {keys : List (Option Expr)} {values : List Expr} {trs : List (TE × TE)} (h : PPs X pos keys values trs) (hall : keys.all (·.isSome) = true) (hl : keys.length = values.length) (h0 : keys ≠ [])
    (h15 : keys.length ≤ 15) : PE X (.Dict keys values pos) (tDisp trs) := by
  intro pins s σ H Q I q
  have hn := I.hok.fresh (Nat.le_refl s.heap.objs.size)
  have I1 := I.laid (a := s.heap.objs.size) (o := .dK []) (h' := s.heap.push { cls := .type "dict", data := .dict #[] }) (t' := s.toks) (fun _ _ q => Heap.get?_push_of_some _ q) (Nat.le_refl _) (dk_empty s.heap I.big)
  refine wpAny_Dict_walk (knd := mixKind X.prog X.w) hall hl h0 h15 (thn (h pins _ σ _ _ I1 (q _ hn)) fun ws s2 ⟨ps, H2, I2, rel, e, kvs, ep, lk, q2⟩ => ?_)
  subst ep
  obtain ⟨rs, c, rk⟩ := carries_of (P := X.prog) (w := X.w) rel
  obtain ⟨z, hd, vs0, r0, dd⟩ := dk_of I2.hok e
  cases r0
  refine ⟨rs, c, dd, fun h' dd' hs => ⟨.ref s.heap.objs.size, _, ?_, rfl, q2⟩⟩
  have hz : (mergeK [] kvs).length ≤ sizeLine := by
    have h1 := length_mergeK kvs []
    rw [List.length_nil] at h1
    rw [sizeLine_eq]; omega
  have he : ∃ q, h'.get? s.heap.objs.size = some q := let ⟨q, _, _, hq, _⟩ := dd'; ⟨q, hq⟩
  exact d_write I2 (by rw [e]; exact True.intro) hs he (dk_new hz hd (rk.merge .nil) dd')


structure M1 (X : Cx) (o : Expr) (m : Str) (apos : Pos) (e : Expr) (cpos : Pos) : Prop where
  base : attributeBase o m X.env (eval o X.env) = eval o X.env
  few : ((backTo cpos (starEach [e] X.env)).all (fun x => !x.1) && (backToKw cpos (keywordEach [] X.env)).all (fun x => x.1.isSome)
    && decide (([e] : List Expr).length + ([] : List Keyword).length + (if ([] : List Keyword).isEmpty then 0 else 1) < 30)) = true
  line : (apos.endLine == cpos.line) = true
  trees : backTo cpos (starEach [e] X.env) = [(false, eval e X.env)]
structure M2 (X : Cx) (o : Expr) (m : Str) (apos : Pos) (e f : Expr) (cpos : Pos) : Prop where
  base : attributeBase o m X.env (eval o X.env) = eval o X.env
  few : ((backTo cpos (starEach [e, f] X.env)).all (fun x => !x.1) && (backToKw cpos (keywordEach [] X.env)).all (fun x => x.1.isSome)
    && decide (([e, f] : List Expr).length + ([] : List Keyword).length + (if ([] : List Keyword).isEmpty then 0 else 1) < 30)) = true
  line : (apos.endLine == cpos.line) = true
  trees : backTo cpos (starEach [e, f] X.env) = [(false, eval e X.env), (false, eval f X.env)]


section
variable {X : Cx} {pins : List (Addr × Obj)} {σ : St} {H : Hp} {s : Shared} {a : Addr} {y d : V} {u r : Value} {o : Option V} {A : Around} {E : Value → Shared → Prop}
end

section
variable {X : Cx} {o e f : Expr} {apos cpos : Pos} {td ty tx : TE}
end

section
variable {X : Cx} {pins : List (Addr × Obj)} {σ : St} {H : Hp} {s : Shared} {a : Addr} {kvs : List (Key × V)} {A : Around} {E : Value → Shared → Prop}
end


section
variable {X : Cx} {pins : List (Addr × Obj)} {σ : St} {H : Hp} {s : Shared} {a : Addr} {y : V} {u : Value} {A : Around} {E : Value → Shared → Prop}
end
section
variable {X : Cx}
end
section
variable {κ : Type} [DecidableEq κ]
end

end L2

namespace L2
open PySem PySem.Spec PyProof.Rows
section
variable {X : Cx} {pins : List (Addr × Obj)} {σ : St} {H : Hp} {s : Shared} {a : Addr} {A : Around} {E : Value → Shared → Prop}
end
theorem kv_len {kvs : List (Key × V)} {vs : List (Key × Value)} (r : KV kvs vs) : kvs.length = vs.length := r.length
theorem key_is {P : Program} {w : World} {k : Key} {u : Value} (h : (mixKind P w).is k u = true) : RelV (kV k) u := by
  rw [mixKind_is] at h
  rcases keyIs_shape h with ⟨i, t, rfl, rfl⟩ | ⟨x, t, rfl, rfl⟩
  · exact ⟨t, rfl⟩
  · exact ⟨t, rfl⟩
theorem kv_get {kvs : List (Key × V)} {vs : List (Key × Value)} (r : KV kvs vs) {i : Nat} {k : Key} {v : Value} (h : vs[i]? = some (k, v)) : ∃ y, kvs[i]? = some (k, y) := by
  unfold KV at r
  induction r generalizing i with
  | nil => simp at h
  | cons a _ ih =>
    cases i with
    | zero =>
      simp at h
      rename_i p q _ _ _
      refine ⟨p.2, ?_⟩
      simp
      have e := a.1
      rw [h] at e
      exact Prod.ext e rfl
    | succ i => simpa using ih (by simpa using h)

end L2

namespace L2
open PySem PySem.Spec PyProof.Rows
def SameS (H H' : Hp) : Prop := (∀ a xs, H a = some (.lst xs) → H' a = some (.lst xs)) ∧ ∀ a xs, H a = some (.tup xs) → H' a = some (.tup xs)
theorem Same.seqs {H H' : Hp} (e : Same H H') : SameS H H' := ⟨fun _ _ h => e _ _ h, fun _ _ h => e _ _ h⟩
theorem SameS.trans {H H' H'' : Hp} (e : SameS H H') (e' : SameS H' H'') : SameS H H'' := ⟨fun _ _ h => e'.1 _ _ (e.1 _ _ h), fun _ _ h => e'.2 _ _ (e.2 _ _ h)⟩
theorem SameS.upd {H : Hp} {a : Addr} {o : HO} (h : (∀ xs, H a ≠ some (.lst xs)) ∧ ∀ xs, H a ≠ some (.tup xs)) : SameS H (L2.upd H a o) :=
  ⟨fun b xs e => by rw [upd_ne (fun z : b = a => h.1 xs (z ▸ e))]; exact e, fun b xs e => by rw [upd_ne (fun z : b = a => h.2 xs (z ▸ e))]; exact e⟩
mutual
theorem DeepT.seqs {H H' : Hp} (e : SameS H H') : ∀ (d : DV) (v : V), DeepT H d v → DeepT H' d v
  | .non, v, h => by rw [DeepT] at *; exact h
  | .bl b, v, h => by rw [DeepT] at *; exact h
  | .int i, v, h => by rw [DeepT] at *; exact h
  | .str x, v, h => by rw [DeepT] at *; exact h
  | .lst ds, v, h => by rw [DeepT] at *; obtain ⟨a, xs, r, q, t⟩ := h; exact ⟨a, xs, r, e.1 _ _ q, DeepTs.seqs e ds xs t⟩
  | .tup ds, v, h => by rw [DeepT] at *; obtain ⟨a, xs, r, q, t⟩ := h; exact ⟨a, xs, r, e.2 _ _ q, DeepTs.seqs e ds xs t⟩
theorem DeepTs.seqs {H H' : Hp} (e : SameS H H') : ∀ (ds : List DV) (xs : List V), DeepTs H ds xs → DeepTs H' ds xs
  | [], xs, h => by rw [DeepTs] at *; exact h
  | d :: ds, xs, h => by rw [DeepTs] at *; obtain ⟨y, ys, r, q, t⟩ := h; exact ⟨y, ys, r, DeepT.seqs e d y q, DeepTs.seqs e ds ys t⟩
end
def strsC : List Expr → Option (List Str)
  | [] => some []
  | .Constant (.str z) _ _ :: r => match strsC r with
    | some zs => some (z :: zs)
    | none => none
  | _ => none
theorem pa_strs {X : Cx} : ∀ {es : List Expr} {zs : List Str}, strsC es = some zs → PA X es (fun _ H Q => Q (zs.map V.str) H)
  | [], zs, h => by
    cases h
    exact pa_nil
  | .Constant (.str z) k ps :: r, zs, h => by
    rw [strsC] at h
    cases e : strsC r with
    | none => rw [e] at h; cases h
    | some ys =>
      rw [e] at h
      cases h
      exact pa_cons (te := fun _ H Q => Q (.str z) H) pe_str (pa_strs e) rfl
  | .Constant (.int _) _ _ :: r, zs, h => by cases h

end L2

namespace L2
open PySem PySem.Spec PyProof.Rows
def cst (o : Obj) : HO := .frz o (.ext fun _ => True)
theorem cst_ok {P : Program} {w : World} {H : Hp} {h : Heap} {a : Addr} {o : Obj} (e : h.get? a = some o) : ObjOk P w H h a (cst o) := ⟨e, trivial, ⟨o, e⟩, fun _ _ _ _ => trivial⟩
theorem of_cst {P : Program} {w : World} {H : Hp} {h : Heap} {a : Addr} {o : Obj} (x : HOk P w H h) (e : H a = some (cst o)) : h.get? a = some o := (x a _ e).1
def LTab (pos : Pos) (q : Str) (H : Hp) (T : Addr) : Prop :=
  H T = some (.tbl #[]) ∨ ∃ (c' : Addr) (oc : Obj) (vs : Array Value) (t : Tok), H T = some (.tbl #[rawInt pos.line, rawInt pos.col, .ref c']) ∧ H c' = some (cst oc) ∧ oc.data = .fields vs ∧ vs[1]? = some (.str q t)
def Bmod (base : Heap) (mg : Str → Option Value) : Prop :=
  ∃ (bm : Addr) (ob : Obj), mg "__builtins__" = some (.ref bm) ∧ bm ≠ builtinsNs ∧ bm ≠ mainGlobals ∧ base.get? bm = some ob ∧ ob.cls = .type "module" ∧ ob.dict = some builtinsNs ∧ ob.data = .plain
theorem Bmod.keeps {h h' : Heap} {mg : Str → Option Value} (x : Bmod h mg) (k : ∀ b o, h.get? b = some o → h'.get? b = some o) : Bmod h' mg :=
  let ⟨bm, ob, a, b, c, e, r⟩ := x; ⟨bm, ob, a, b, c, k _ _ e, r⟩
def tLam (q : Str) (mk : Addr → Value → Obj) (T : Addr) (pos : Pos) : TE := fun _ H Q => LTab pos q H T ∧
  ∀ (lf c' : Addr) (ctv : Value) (oc : Obj) (vs : Array Value) (t : Tok) (H' : Hp), (∀ b o, H b = some o → b ≠ T → H' b = some o) → H' lf = some (cst (mk c' ctv)) → H' c' = some (cst oc) → oc.data = .fields vs → vs[1]? = some (.str q t) →
    H' T = some (.tbl #[rawInt pos.line, rawInt pos.col, .ref c']) → Q (.ref lf) H'
section
variable {X : Cx}
def lamO (X : Cx) (params : Arguments) (body : Expr) (scope : Scope) (clos : List (Str × Addr)) (c' : Addr) (ctv : Value) : Obj :=
  PySem.W.kla_obj "<lambda>" (X.env.qual ++ "<lambda>") params body scope clos ((X.mg "__name__").getD .none) c' ctv
theorem pe_lam {params : Arguments} {body : Expr} {scope : Scope} {pos : Pos} {clos : List (Str × Addr)} {cc T : Addr} (hdef : defaultsOf params X.env = ([], [])) (hcl : closureFor scope X.env = pure clos) (hcode : X.env.code = .ref cc)
    (hK : PySem.W.codeHdIn X.K cc T = true) (hB : Bmod X.base X.mg) : PE X (.Lambda params body scope pos) (tLam (X.env.qual ++ "<lambda>") (lamO X params body scope clos) T pos) := by
  intro pins s σ H Q I ⟨lt, h⟩
  have hg : s.heap.Ns mainGlobals X.mg := I.ok.mod.glob.keeps I.bk
  obtain ⟨bm, ob, b1, b2, b3, b4, b5⟩ := hB
  have hTn : ∃ ps, H T = some (.tbl ps) := by
    rcases lt with e | ⟨c', oc, vs, t, e, _⟩
    · exact ⟨_, e⟩
    · exact ⟨_, e⟩
  obtain ⟨ps0, hT0⟩ := hTn
  have hgP : mainGlobals ≠ T := fun q => by
    obtain ⟨o, es, ep, e, _⟩ := I.ok.mod.glob
    have := (I.bs _ _ e).2
    rw [q, hT0] at this; cases this
  have hbP : bm ≠ T := fun q => by
    have := (I.bs _ _ b4).2
    rw [q, hT0] at this; cases this
  have hb : s.heap.BuiltinsAt X.mg T := ⟨bm, ob, b1, b2, b3, hbP, I.bk _ _ b4, b5⟩
  have C := PySem.W.codeHd_of_K I.kIn hK
  refine PySem.W.kla_eval hdef ?_
  rcases lt with eT | ⟨c', oc, vs, t, eT, ec, hd, hv⟩
  · have hP : s.heap.get? T = some (PySem.W.tabObj #[]) := I.hok T _ eT
    refine PySem.W.kla_makeFunction (mg := X.mg) hcl I.ok.glob hg hcode C hP trivial rfl hgP hb fun c' ctv h' tk hx hge hlt hrec htb => ?_
    obtain ⟨c₂, oc, vs, t, e2, hoc, hd, hv⟩ := hrec
    cases e2
    have htb' : h'.get? T = some (PySem.W.tabObj #[rawInt pos.line, rawInt pos.col, .ref c']) := by simpa using htb
    have hTs : T < s.heap.objs.size := Heap.lt_size hP
    have old : ∀ b o, b ≠ T → s.heap.get? b = some o → (h'.push (lamO X params body scope clos c' ctv)).get? b = some o := fun b o hb e => Heap.get?_push_of_some _ (hx b o hb e)
    have cT : c' ≠ T := Nat.ne_of_gt (Nat.lt_of_lt_of_le hTs hge)
    have lT : h'.objs.size ≠ T := Nat.ne_of_gt (Nat.lt_trans (Nat.lt_of_lt_of_le hTs hge) hlt)
    have lc : h'.objs.size ≠ c' := Nat.ne_of_gt hlt
    have fr : ∀ b o, s.heap.get? b = some o → b ≠ c' ∧ b ≠ h'.objs.size := fun b o e => ⟨Nat.ne_of_lt (Nat.lt_of_lt_of_le (Heap.lt_size e) hge), Nat.ne_of_lt (Nat.lt_trans (Nat.lt_of_lt_of_le (Heap.lt_size e) hge) hlt)⟩
    have frH : ∀ b o, H b = some o → b ≠ c' ∧ b ≠ h'.objs.size := fun b o e => ⟨Nat.ne_of_lt (Nat.lt_of_lt_of_le (I.hok.lt e) hge), Nat.ne_of_lt (Nat.lt_trans (Nat.lt_of_lt_of_le (I.hok.lt e) hge) hlt)⟩
    refine ⟨.ref h'.objs.size, upd (upd (upd H T (.tbl #[rawInt pos.line, rawInt pos.col, .ref c'])) c' (cst oc)) h'.objs.size (cst (lamO X params body scope clos c' ctv)), I.un ⟨?_, ?_, ?_, ?_, ?_, ?_, ?_⟩ ?_, rfl, h h'.objs.size c' ctv oc vs t _ ?_ upd_same ?_ hd hv ?_⟩
    · intro b o e n _ _
      exact old b o (fun q => by subst q; rw [eT] at n; cases n) e
    · intro b o e n _ _
      exact ⟨o.slots, old b o (fun q => by subst q; rw [eT] at n; cases n) e⟩
    · intro b o e n _
      rw [upd_ne (fr b o e).2, upd_ne (fr b o e).1, upd_ne (fun q => by subst q; rw [eT] at n; cases n)]
      exact n
    · intro b o e _
      by_cases q : b = T
      · subst q; exact ⟨_, Heap.get?_push_of_some _ htb'⟩
      · exact ⟨o, old b o q e⟩
    · intro b xs e
      rw [upd_ne (frH b _ e).2, upd_ne (frH b _ e).1, upd_ne (fun q => by subst q; rw [eT] at e; cases e)]
      exact e
    · intro b o u e
      rw [upd_ne (frH b _ e).2, upd_ne (frH b _ e).1, upd_ne (fun q => by subst q; rw [eT] at e; cases e)]
      exact e
    · intro b ps e
      by_cases q : b = T
      · subst q
        rw [eT] at e; cases e
        exact ⟨#[rawInt pos.line, rawInt pos.col, .ref c'], by rw [upd_ne lT.symm, upd_ne cT.symm, upd_same]; simp⟩
      · exact ⟨#[], by rw [upd_ne (frH b _ e).2, upd_ne (frH b _ e).1, upd_ne q, e]; simp⟩
    · intro a o e
      by_cases q1 : a = h'.objs.size
      · subst q1
        rw [upd_same] at e; cases e
        exact cst_ok (Heap.get?_push_size _ rfl)
      rw [upd_ne q1] at e
      by_cases q2 : a = c'
      · subst q2
        rw [upd_same] at e; cases e
        exact cst_ok (Heap.get?_push_of_some _ hoc)
      rw [upd_ne q2] at e
      by_cases q3 : a = T
      · subst q3
        rw [upd_same] at e; cases e
        exact Heap.get?_push_of_some _ htb'
      rw [upd_ne q3] at e
      refine (I.hok a o e).stay (fun b u hz r => old b u ?_ r) (fun b r => ?_) fun b xs r => ?_
      · rcases hz with rfl | hz
        · exact q3
        · intro q; subst q; rw [eT] at hz; cases hz
      · rw [upd_ne (frH b _ r).2, upd_ne (frH b _ r).1, upd_ne (fun q => by subst q; rw [eT] at r; cases r)]
        exact r
      · rw [upd_ne (frH b _ r).2, upd_ne (frH b _ r).1, upd_ne (fun q => by subst q; rw [eT] at r; cases r)]
        exact r
    · intro b o e q
      rw [upd_ne (frH b _ e).2, upd_ne (frH b _ e).1, upd_ne q]
      exact e
    · rw [upd_ne lc.symm, upd_same]
    · rw [upd_ne lT.symm, upd_ne cT.symm, upd_same]
  · have hP : s.heap.get? T = some (PySem.W.tabObj #[rawInt pos.line, rawInt pos.col, .ref c']) := I.hok T _ eT
    have hf : codeAmong pos (#[rawInt pos.line, rawInt pos.col, Value.ref c'] : Array Value).toList = some (.ref c') := by simp [codeAmong, rawInt]
    refine PySem.W.kla_makeFunctionHit (mg := X.mg) hcl I.ok.glob hg hcode C hP (by simp [TriplesOk, rawInt]) hf hb fun ctv h' tk hk hsz => ?_
    have frH : ∀ b o, H b = some o → b ≠ h'.objs.size := fun b o e => Nat.ne_of_lt (Nat.lt_of_lt_of_le (I.hok.lt e) hsz)
    refine ⟨.ref h'.objs.size, upd H h'.objs.size (cst (lamO X params body scope clos c' ctv)), I.laid (fun b u e => Heap.get?_push_of_some _ (hk b u e)) hsz (cst_ok (Heap.get?_push_size _ rfl)), rfl, h h'.objs.size c' ctv oc vs t _ ?_ upd_same ?_ hd hv ?_⟩
    · intro b o e _
      rw [upd_ne (frH b _ e)]
      exact e
    · rw [upd_ne (frH _ _ ec)]
      exact ec
    · rw [upd_ne (frH _ _ eT)]
      exact eT
end

def cxL (CX : CXT) (P : Program) (w : World) (K : PySem.W.Frag) (mg : Str → Option Value) (base : Heap) (N : List Str) (qual : Str) (scope : Scope) (f : Addr) (cd : Value) (cl : List (Str × Addr)) (A : Around) (outer : List Env) (s : Shared) (H : Hp) (E : XK) : Cx where
  prog := P
  w := w
  K := K
  mg := mg
  base := base
  A := A.deeper (PySem.W.envX qual scope s.heap.objs.size f cd cl)
  N := N
  s₀ := s
  H₀ := H
  env := PySem.W.envX qual scope s.heap.objs.size f cd cl
  outer := outer
  stack := PySem.W.envX qual scope s.heap.objs.size f cd cl :: outer
  ex := []
  calm := true
  fn := fun _ => false
  pn := []
  xe := fun e s' => wpAny (model P w) (A.deeper (PySem.W.envX qual scope s.heap.objs.size f cd cl)) (leaving (PySem.W.envX qual scope s.heap.objs.size f cd cl) e) (fun _ s'' => CX outer H s E e s'') (fun e' s'' => CX outer H s E e' s'') s'
structure LamScope (x y : Str) (sc : Scope) : Prop where
  kind : sc.kind = .function
  co : sc.isCoroutine = false
  gen : sc.isGenerator = false
  ne : y ≠ x
  par : sc.names.lookup y = some .local
  fre : sc.names.lookup x = some .free
  nocell : ∀ z ∈ sc.names, z.2 ≠ .cell
  only : ∀ z, sc.names.lookup z = some .free → z = x
theorem lk1 {x z : Str} {c d : Addr} (h : ([(x, c)] : List (Str × Addr)).lookup z = some d) : z = x ∧ d = c := by
  rw [List.lookup_cons] at h
  by_cases q : (z == x) = true
  · rw [q] at h; exact ⟨beq_iff_eq.mp q, (Option.some.inj h).symm⟩
  · rw [Bool.eq_false_iff.mpr q] at h; cases h
theorem lk1_self {x : Str} {c : Addr} : ([(x, c)] : List (Str × Addr)).lookup x = some c := by
  rw [List.lookup_cons, beq_self_eq_true]
theorem lam_fn {CX : CXT} {P : Program} {w : World} {K : PySem.W.Frag} {mg : Str → Option Value} {base : Heap} {k : Nat} {lf c' cell : Addr} {x y : Str} {params : Arguments} {body : Expr} {scope : Scope} {qual : Str} {pm ctv u : Value} {oc : Obj} {vs : Array Value} {t : Tok} {d : V} {sp : Sp}
    (S : LamScope x y scope) (hcell : base.IsCell cell (some u)) (ru : RelV d u) (hd : oc.data = .fields vs) (hv : vs[1]? = some (.str qual t))
    (hsp : ∀ us H Q E, sp us H Q E → H lf = some (cst (PySem.W.kla_obj "<lambda>" qual params body scope [(x, cell)] pm c' ctv)) ∧ H c' = some (cst oc) ∧ ∃ v, us = [v])
    (hbody : ∀ (A : Around) (outer : List Env) (s : Shared) (H : Hp) (v : V) (Q : VK) (E : XK), Room k (A.deeper (PySem.W.envX qual scope s.heap.objs.size lf (.ref c') [(x, cell)])) → sp [v] H Q E →
      ∃ t, PE (cxL CX P w K mg base [y, x] qual scope lf (.ref c') [(x, cell)] A outer s H E) body t ∧ t [some v, some d] H Q) :
    FnOk P w K mg base CX (k + 1) lf (PySem.W.kla_fn "<lambda>" qual params body scope [(x, cell)] pm (.ref c') ctv) [y] sp := by
  refine ⟨fun us H Q E h => ?_, fun A outer s H args us vs' Q E hr e0 hb r h => ?_⟩
  · obtain ⟨_, _, v, rfl⟩ := hsp _ _ _ _ h; rfl
  obtain ⟨h1, h2, v, rfl⟩ := hsp _ _ _ _ h
  obtain ⟨uv, rfl, rv⟩ := vals1 r
  have lim : s.heap.NoLimit := e0.mod.nolimit.keeps fun b o e => (e0.bs b o e).1
  refine PySem.W.kla_callFunE hr.depth (of_cst e0.hok h1) rfl S.co S.gen rfl ⟨c', oc, vs, t, rfl, of_cst e0.hok h2, hd, hv⟩ (hb _ _ _ _ ?_)
  refine wpAny_newFunctionEnv S.nocell (fun z hz => ?_) (fun h₁ hns hsb => ⟨lim.fresh _ hsb, PySem.W.kla_codeExpr ?_⟩) S.kind
  · have hz' : z = (y, uv) := by simpa using hz
    subst hz'; exact S.par
  have hk : ∀ b o, s.heap.get? b = some o → h₁.get? b = some o := fun b o e => hsb.extBut b o (Nat.ne_of_lt (Heap.lt_size e)) (Heap.get?_push_of_some _ e)
  obtain ⟨oc', hoc, hdc⟩ := hcell
  have hcs : s.heap.get? cell = some oc' := (e0.bs _ _ hoc).1
  have hcH : H cell = none := (e0.bs _ _ hoc).2
  obtain ⟨tb, ht, hq⟩ := hbody A outer s H v Q E (hr.deeper _) h
  have noA : ∀ b : Addr, b ∉ (cxL CX P w K mg base [y, x] qual scope lf (.ref c') [(x, cell)] A outer s H E).ex := fun b z => absurd (show b ∈ ([] : List Addr) from z) (by simp)
  have I : Inv (cxL CX P w K mg base [y, x] qual scope lf (.ref c') [(x, cell)] A outer s H E) [] [some v, some d] H { s with heap := h₁, toks := s.toks + (([y] : List Str).zip [uv]).length } := by
    refine ⟨⟨e0.mod, S.kind, rfl, rfl, Nat.le_refl _, fun y1 z c q1 q2 => ?_, fun y1 q1 => ?_, fun _ _ q => ?_, fun _ => hr.hd, Around.frames_deeper e0.frames, .inr ⟨rfl, rfl⟩, fun b z => absurd z (noA b), e0.bs, e0.bsz, fun b _ _ => noA b, fun b z => absurd z (noA b), e0.funs, e0.frf⟩,
      rfl, e0.bare, Un.kept hk, ⟨_, hns, fun i y1 v1 q1 q2 q3 => ?_⟩, fun y1 c q => ?_, e0.hok.fresh (Nat.le_refl _), fun y1 c q => ?_, fun p hp => absurd (show p ∈ ([] : List (Addr × Obj)) from hp) (by simp), e0.hok.kept hk, rfl⟩
    · exact (lk1 q1).1.trans (lk1 q2).1.symm
    · have q1 : scope.names.lookup y1 = some .cell ∨ scope.names.lookup y1 = some .free := q1
      rcases q1 with q1 | q1
      · exact absurd rfl (S.nocell _ (PySem.mem_of_lookup q1))
      · have := S.only _ q1
        subst this
        exact ⟨cell, lk1_self⟩
    · have q : false = true := q
      cases q
    · match i, q1, q2 with
      | 0, q1, q2 =>
        have e1 : y = y1 := Option.some.inj q1
        have e2 : v = v1 := Option.some.inj (Option.some.inj q2)
        subst e1 e2
        exact ⟨uv, rv, .inl ⟨S.par, by show List.lookup y [(y, uv)] = some uv; rw [List.lookup_cons, beq_self_eq_true]⟩⟩
      | 1, q1, q2 =>
        have e1 : x = y1 := Option.some.inj q1
        have e2 : d = v1 := Option.some.inj (Option.some.inj q2)
        subst e1 e2
        exact ⟨u, ru, .inr ⟨.inr S.fre, cell, lk1_self, oc', hk _ _ hcs, hdc⟩⟩
      | i + 2, q1, q2 => exact absurd q1 (by simp [cxL])
    · obtain ⟨_, rfl⟩ := lk1 q
      exact ⟨_, oc', hk _ _ hcs, hdc⟩
    · obtain ⟨_, rfl⟩ := lk1 q
      exact hcH
  exact wpAny_mono (ht [] _ _ H _ I hq) (fun u1 s' ⟨v1, H', J, rv1, q⟩ => ⟨v1, H', J.os, J.bare, J.base, J.hok, rv1, q⟩) fun e s' hs => hs

section
variable {X : Cx} {CX : CXT} {k : Nat} {f : Addr} {fd : FuncData} {ps : List Str} {sp : Sp} {dvs : List V} {ds : List Value} {E : XK}
def bigOf (X : Cx) (H : Hp) (h : Heap) : Heap := PySem.W.hideAll (hidT h H) (frs X.stack)
theorem big_keep {pins : List (Addr × Obj)} {σ : St} {H : Hp} {s : Shared} (I : Inv X pins σ H s) : ∀ b o, X.base.get? b = some o → (bigOf X H s.heap).get? b = some o := fun b o e => by
  obtain ⟨e1, e2⟩ := I.bs b o e
  refine PySem.W.hideAll_get _ (hidT_get e1 e2) fun hb => ?_
  have := (I.stack.mem hb).1
  rw [e] at this; cases this
theorem big_cell {pins : List (Addr × Obj)} {σ : St} {H : Hp} {s : Shared} (I : Inv X pins σ H s) {x : Str} {c : Addr} {u : Option Value} (hfn : X.fn x = true) (hc : X.env.cells.lookup x = some c) (h : s.heap.IsCell c u) : (bigOf X H s.heap).IsCell c u := by
  obtain ⟨o, e, d⟩ := h
  refine ⟨o, PySem.W.hideAll_get _ (hidT_get e (I.freeC x c hc)) fun hb => ?_, d⟩
  rcases List.mem_cons.mp (I.stkSub c hb) with q | q
  · exact I.cne x c hc q
  · obtain ⟨_, o', ho', _⟩ := I.ok.funs.mem q
    exact absurd (Nat.lt_of_lt_of_le (Heap.lt_size ho') (I.ok.cab x c hfn hc)) (Nat.lt_irrefl _)
theorem big_mod {pins : List (Addr × Obj)} {σ : St} {H : Hp} {s : Shared} (I : Inv X pins σ H s) : Mod X.K X.mg (bigOf X H s.heap) :=
  let k := big_keep I
  ⟨I.mod.kin.keeps k, I.mod.glob.keeps k, let ⟨mb, h, r⟩ := I.mod.blt; ⟨mb, h.keeps k, r⟩, I.mod.nolimit.keeps k⟩
theorem run_fnB {pins : List (Addr × Obj)} {σ : St} {H : Hp} {s : Shared} {Q : VK} {us : List Value} {vs : List V} (F : FnOk X.prog X.w X.K X.mg (bigOf X H s.heap) CX k f fd ps sp) (hr : Room k X.A) (hb : Binds X.K fd ps ds) (hd : Vals dvs ds) (hx : Passes CX X E)
    (I : Inv X pins σ H s) (r : Vals vs us) (h : sp (vs ++ dvs) H Q E) : wpAny (model X.prog X.w) X.A (call (.ref f) us) (EP X pins σ Q) X.xe s := by
  have r2 : Vals (vs ++ dvs) (us ++ ds) := r.append hd
  have hl : (us ++ ds).length = ps.length := by rw [← r2.length]; exact F.len _ _ _ _ h
  have e0 : Env0 X.prog X.w X.K X.mg (bigOf X H s.heap) X.A X.stack s H := by
    have st := I.env0
    refine ⟨st.frames, big_mod I, fun b o e => of_hidT (PySem.W.of_hideAll _ e), ?_, ?_, st.frf, st.hok, st.bare⟩
    · unfold bigOf; rw [PySem.W.hideAll_size, hidT_size]; exact Nat.le_refl _
    · have all : ∀ (l : List Env), (∀ b ∈ frs l, b ∈ frs X.stack) → s.heap.FunFrames X.base l → s.heap.FunFrames (bigOf X H s.heap) l := by
        intro l
        induction l with
        | nil => intro _ _; trivial
        | cons env r ih =>
          intro hs hl
          obtain ⟨hk, ⟨L, o, hf, hn, ho, hd⟩, hr⟩ := hl
          have hL : L ∈ frs X.stack := hs L (by unfold frs; rw [List.filterMap_cons, hf]; exact List.mem_cons_self)
          exact ⟨hk, ⟨L, o, hf, PySem.W.hideAll_none _ hL, ho, hd⟩, ih (fun b hb => hs b (by unfold frs; rw [List.filterMap_cons, hf]; exact List.mem_cons_of_mem _ hb)) hr⟩
      exact all X.stack (fun _ hb => hb) I.stack
  refine wpAny_call (codeAny_mono (F.run X.A X.stack s H ⟨us, []⟩ (us ++ ds) (vs ++ dvs) Q E hr e0 (hb s us I.kIn hl) r2 h) fun r s' hq => ?_)
  cases r with
  | error e => exact hx pins σ H s e s' I hq
  | ok fl =>
    cases fl with
    | ret u => exact I.after hq
    | next => exact False.elim hq
    | brk => exact False.elim hq
    | cont => exact False.elim hq
end

section
variable {X : Cx} {CX : CXT} {k : Nat} {f : Addr} {fd : FuncData} {ps : List Str} {E : XK}
def tCallLam (i : Nat) (q : Str) (sp : Addr → Addr → Value → Obj → V → Sp) (E : XK) (t : TA) : TE := fun σ H Q => t σ H fun vs H1 =>
  ∃ (lf c' : Addr) (ctv : Value) (oc : Obj) (ws : Array Value) (tq : Tok) (d : V), σ[i]? = some (some d) ∧ oc.data = .fields ws ∧ ws[1]? = some (.str q tq) ∧ sp lf c' ctv oc d vs H1 Q E
theorem pe_callLam {q g x : Str} {i : Nat} {c : Addr} {sp : Addr → Addr → Value → Obj → V → Sp} {p pos : Pos} {e : Expr} {es : List Expr} {t : TA} (hN : X.N[i]? = some x) (hk1 : X.env.kindOf x = some .cell) (hfn : X.fn x = true) (hc : X.env.cells.lookup x = some c)
    (F : ∀ (base' : Heap) (lf c' : Addr) (ctv u : Value) (oc : Obj) (ws : Array Value) (tq : Tok) (d : V), (∀ b o, X.base.get? b = some o → base'.get? b = some o) → base'.IsCell c (some u) → RelV d u → oc.data = .fields ws → ws[1]? = some (.str q tq) →
      FnOk X.prog X.w X.K X.mg base' CX k f fd ps (sp lf c' ctv oc d))
    (hr : Room k X.A) (hg : Gl X g) (hm : X.mg g = some (.ref f)) (hk : PySem.W.keepIn X.K (.ref f) = true) (hb : Binds X.K fd ps []) (hx : Passes CX X E)
    (ha : PA X (e :: es) t) (hdb : (g == ("__debug__" : Str)) = false := by decide) (he : starEach (e :: es) X.env = (false, eval e X.env) :: starEach es X.env := by rfl) (hpl : (backTo pos (starEach es X.env)).any (·.1) = false := by rfl) :
    PE X (.Call (.Name g p) (e :: es) [] pos) (tCallLam i q sp E t) := by
  intro pins s σ H Q I h
  refine wpAny_Call_Name_kw (ld_glob I hg hm ?_ hdb)
  refine PySem.W.callWith_K (h₀ := X.base) I.ok.mod.kin hk (thn (ha pos pins s σ H _ I h) fun us s2 ⟨vs, H2, I2, r2, lf, c', ctv, oc, ws, tq, d, hs, hd, hv, hq⟩ => ⟨I2.kIn, ?_⟩) he hpl
  obtain ⟨m, hm', hl⟩ := I2.loc
  obtain ⟨u, ru, lk⟩ := hl i x d hN hs (.inr (.inl hk1))
  have hcell : s2.heap.IsCell c (some u) := by
    rcases lk with ⟨z, _⟩ | ⟨_, c2, e2, z⟩
    · rw [hk1] at z; cases z
    · rw [hc] at e2; cases e2; exact z
  refine run_fnB (dvs := []) (F _ lf c' ctv u oc ws tq d (big_keep I2) (big_cell I2 hfn hc hcell) ru hd hv) hr hb .nil hx I2 r2 ?_
  rw [List.append_nil]; exact hq
end

end L2

namespace L2
open PySem PySem.Spec PyProof.Rows
def IsFn (K : PySem.W.Frag) (H : Hp) (f : Addr) : Prop := PySem.W.fnIn K f = true ∨ ∃ (oc : Value) (od : Option Addr) (fd : FuncData) (sl : Array (Option Value)), H f = some (cst ⟨oc, od, .func fd, sl⟩)
section
variable {X : Cx}
theorem IsFn.at_ {K : PySem.W.Frag} {pins : List (Addr × Obj)} {σ : St} {H : Hp} {s : Shared} {f : Addr} (I : Inv X pins σ H s) (hK : X.K = K) (h : IsFn K H f) : PySem.W.FnAt f s.heap := by
  subst hK
  rcases h with h | ⟨oc, od, fd, sl, e⟩
  · unfold PySem.W.fnIn at h
    split at h
    · rename_i oc od fd sl e
      exact ⟨oc, od, fd, sl, I.kIn _ _ e⟩
    · cases h
  · exact ⟨oc, od, fd, sl, of_cst I.hok e⟩
def tCallF (K : PySem.W.Frag) (i : Nat) (f : Addr) (sp : Sp) (E : XK) (t : TA) : TE := fun σ H Q => σ[i]? = some (some (.ref f)) ∧ IsFn K H f ∧ t σ H fun vs H1 => IsFn K H1 f ∧ sp vs H1 Q E
theorem pe_callF (K : PySem.W.Frag) {CX : CXT} {k i : Nat} {f : Addr} {fd : FuncData} {ps : List Str} {sp : Sp} {E : XK} {x : Str} {p pos : Pos} {e : Expr} {es : List Expr} {t : TA} (F : FnOk X.prog X.w X.K X.mg X.base CX k f fd ps sp) (hr : Room k X.A) (hN : X.N[i]? = some x) (hv : Vis X.env.scope x) (hb : Binds X.K fd ps []) (hx : Passes CX X E)
    (ha : PA X (e :: es) t) (hK : X.K = K := by rfl) (hdb : (x == ("__debug__" : Str)) = false := by decide) (hcd : (x == ("__classdict__" : Str)) = false := by decide) (he : starEach (e :: es) X.env = (false, eval e X.env) :: starEach es X.env := by rfl) (hpl : (backTo pos (starEach es X.env)).any (·.1) = false := by rfl) :
    PE X (.Call (.Name x p) (e :: es) [] pos) (tCallF K i f sp E t) := by
  intro pins s σ H Q I ⟨hs, hf, h⟩
  refine wpAny_Call_Name_kw (thn (pe_var (pos := p) hN hv hdb hcd pins s σ H (fun y H' => y = .ref f ∧ H' = H) I ⟨_, hs, rfl, rfl⟩) fun u s1 ⟨y, H1, I1, r, e1, e2⟩ => ?_)
  subst e1 e2
  cases r
  refine PySem.W.callWith_F (hf.at_ I1 hK) (thn (ha pos pins s1 σ H1 _ I1 h) fun us s2 ⟨vs, H2, I2, r2, hf2, q⟩ => ⟨hf2.at_ I2 hK, ?_⟩) he hpl
  exact run_fn (dvs := []) F hr hb .nil hx I2 r2 (by rw [List.append_nil]; exact q)
end

theorem law_callT {P : Program} {w : World} {K : PySem.W.Frag} {mg mb : Str → Option Value} {CX : CXT} {k : Nat} {fa a cc T : Addr} {fd : FuncData} {x : Str} {sp : Sp} {s₁ : Shared} {vs : List Value} {ns : List Int}
    (KX : K.In s₁.heap) (hns : s₁.heap.Ns mainGlobals mg) (hb : s₁.heap.Ns builtinsNs mb) (hbb : ∀ x : Str, x ≠ "__name__" → mb x = bootBuiltins x) (hlim : s₁.heap.NoLimit) (hg : s₁.gens = #[]) (hBm : Bmod s₁.heap mg)
    (hT : s₁.heap.get? T = some (PySem.W.tabObj #[])) (hC : PySem.W.codeHdIn K cc T = true) (hKT : K.lookup T = none)
    (ha : s₁.heap.get? a = some { cls := .type "list", data := .seq vs.toArray }) (hi : IntsAre vs ns) (hl : ns.length ≤ sizeLine) (hr : Room k callerA)
    (F : ∀ base : Heap, K.In base → base.Ns mainGlobals mg → Bmod base mg → FnOk P w K mg base CX k fa fd [x] sp) (hbind : ∀ (s : Shared) (u : Value), BindsTo s fd ⟨[u], []⟩ [(x, u)])
    (hsp : ∀ H : Hp, H T = some (.tbl #[]) → SqL K H a (ns.map V.int) → sp [.ref a] H (fun v _ => v = .bl true) fun _ _ _ => False)
    (hCX : ∀ H e s', CX [] H s₁ (fun _ _ _ => False) e s' → False) :
    codeAny (model P w) callerA (.call (.ref fa) ⟨[.ref a], []⟩) (fun r s' => r = .ok (.ret (.bool true)) ∧ OldK s₁.heap s'.heap ∧ s'.os = s₁.os ∧ AllBare s'.gens) s₁ := by
  have rv := vals_ints hi
  have lenV := hi.length
  have aT : a ≠ T := fun q => by rw [q, hT] at ha; cases ha
  have core : ∀ H : Hp, H T = some (.tbl #[]) → (∀ b, H b = none ∨ b = T ∨ (b = a ∧ ∃ ob xs, H b = some (.frz ob (.lst xs)))) → SqL K H a (ns.map V.int) → HOk P w H s₁.heap → (H a ≠ none → K.lookup a = none) →
      codeAny (model P w) callerA (.call (.ref fa) ⟨[.ref a], []⟩) (fun r s' => r = .ok (.ret (.bool true)) ∧ OldK s₁.heap s'.heap ∧ s'.os = s₁.os ∧ AllBare s'.gens) s₁ := by
    intro H hHT hO hS hok hK
    have noA : ∀ {b : Addr} {o : Obj}, s₁.heap.get? b = some o → (∀ ps, o.data ≠ .fields ps) → (∀ xs n, o.data ≠ .seq xs n) → H b = none := fun {b o} e d1 d2 => by
      rcases hO b with q | q | ⟨q, _⟩
      · exact q
      · subst q; rw [hT] at e; cases e; exact absurd rfl (d1 _)
      · subst q; rw [ha] at e; cases e; exact absurd rfl (d2 _ _)
    have nsK : ∀ {b : Addr} {m : Str → Option Value}, s₁.heap.Ns b m → (hidT s₁.heap H).Ns b m := fun {b m} ⟨o, es, ep, e, d, r⟩ => ⟨o, es, ep, hidT_get e (noA e (fun _ z => by rw [d] at z; cases z) fun _ _ z => by rw [d] at z; cases z), d, r⟩
    have hKb : K.In (hidT s₁.heap H) := fun b o e => hidT_get (KX b o e) (by
      rcases hO b with q | q | ⟨q, ob, xs, z⟩
      · exact q
      · subst q; rw [hKT] at e; cases e
      · subst q; rw [hK (by rw [z]; simp)] at e; cases e)
    have hM : Mod K mg (hidT s₁.heap H) := ⟨hKb, nsK hns, ⟨mb, nsK hb, hbb⟩, let ⟨mc, h1, h2⟩ := hlim; ⟨mc, nsK h1, h2⟩⟩
    have hB2 : Bmod (hidT s₁.heap H) mg := by
      obtain ⟨bm, ob, b1, b2, b3, b4, b5, b6, b7⟩ := hBm
      exact ⟨bm, ob, b1, b2, b3, hidT_get b4 (noA b4 (fun _ z => by rw [b7] at z; cases z) fun _ _ z => by rw [b7] at z; cases z), b5, b6, b7⟩
    have e0 : Env0 P w K mg (hidT s₁.heap H) callerA [] s₁ H := ⟨rfl, hM, fun b o e => of_hidT e, Nat.le_of_eq (hidT_size _ _), trivial, fun b hb => absurd (show b ∈ ([] : List Addr) from hb) (by simp), hok, .of_eq hg⟩
    refine codeAny_mono ((F _ hKb (nsK hns) hB2).run callerA [] s₁ H ⟨[.ref a], []⟩ [.ref a] [.ref a] _ _ hr e0 (hbind s₁ (.ref a)) (.cons rfl .nil) (hsp H hHT hS)) fun r s' h => ?_
    cases r with
    | error e => exact (hCX H e s' h).elim
    | ok fl =>
      cases fl with
      | next => exact False.elim h
      | brk => exact False.elim h
      | cont => exact False.elim h
      | ret u =>
        obtain ⟨v, H', os, bare, un, hok', r', q⟩ := h
        have q' : v = .bl true := q
        subst q'
        obtain rfl : u = Value.bool true := r'
        have grown : ∃ more, s'.heap.get? T = some (PySem.W.tabObj (#[] ++ more)) := by
          obtain ⟨more, e⟩ := un.tbls T _ hHT
          exact ⟨more, hok' T _ e⟩
        have kept : ∀ b o, b ≠ T → s₁.heap.get? b = some o → s'.heap.get? b = some o := fun b o hb e => by
          rcases hO b with q | q | ⟨q, ob, xs, z⟩
          · exact un.keep b o e q (by intro z; exact absurd (show b ∈ ([] : List Addr) from z) (by simp)) (by simp)
          · exact absurd q hb
          · have z2 := un.frzs b ob _ z
            obtain ⟨e1, _⟩ := hok b _ z
            obtain ⟨e2, _⟩ := hok' b _ z2
            rw [e] at e1; cases e1
            exact e2
        obtain ⟨more, hmore⟩ := grown
        refine ⟨rfl, ⟨fun b o e => ?_, fun b o e => ?_⟩, os, bare⟩
        · by_cases hb : b = T
          · subst hb
            rw [hT] at e; cases e
            exact .inr (.inl ⟨((PySem.W.codeHd_of_K KX hC).tab hT).isCodeTable, rfl, #[], more, rfl, hmore⟩)
          · exact .inl (kept b o hb e)
        · by_cases hb : b = T
          · subst hb; exact ⟨_, hmore⟩
          · exact ⟨o, kept b o hb e⟩
  cases hk : K.lookup a with
  | some o =>
    have e := KX a o hk
    rw [ha] at e
    cases e
    refine core (fun b => if b = T then some (.tbl #[]) else none) (if_pos rfl) (fun b => ?_) (.inr ⟨_, vs.toArray, _, hk, rfl, rfl, rfl, by rw [List.size_toArray, lenV]; exact hl, by simpa using rv⟩) (fun b u z => ?_) fun z => absurd (if_neg aT) z
    · by_cases hb : b = T
      · exact .inr (.inl hb)
      · exact .inl (if_neg hb)
    · by_cases hb : b = T
      · have z' := (if_pos hb).symm.trans z
        cases z'
        subst hb
        exact hT
      · have z' := (if_neg hb).symm.trans z
        cases z'
  | none =>
    refine core (fun b => if b = T then some (.tbl #[]) else if b = a then some (.frz { cls := .type "list", data := .seq vs.toArray } (.lst (ns.map V.int))) else none) (if_pos rfl) (fun b => ?_)
      (.inl (.inr ⟨{ cls := .type "list", data := .seq vs.toArray }, (if_neg aT).trans (if_pos rfl)⟩)) (fun b u z => ?_) fun _ => hk
    · by_cases hb : b = T
      · exact .inr (.inl hb)
      · by_cases hb2 : b = a
        · exact .inr (.inr ⟨hb2, _, _, (if_neg hb).trans (if_pos hb2)⟩)
        · exact .inl ((if_neg hb).trans (if_neg hb2))
    · by_cases hb : b = T
      · have z' := (if_pos hb).symm.trans z
        cases z'
        subst hb
        exact hT
      · have z1 := (if_neg hb).symm.trans z
        by_cases hb2 : b = a
        · have z' := (if_pos hb2).symm.trans z1
          cases z'
          subst hb2
          exact ⟨ha, by rw [List.length_map]; exact hl, vs, _, rv, ha⟩
        · have z' := (if_neg hb2).symm.trans z1
          cases z'
theorem walk_ofT {l : PySem.W.OpenLaw} {n k : Nat} {q : Program} {loose : List Str} {XP : (Str → Option Value) → Heap → Prop} {YP : World → Heap → Prop} {d : DefRec} {K : Params → PySem.W.Frag} {CX : World → CXT} {sp : World → Sp} {x : Str} {cc T : Addr}
    (hn : l.most = some n) (hn2 : n ≤ sizeLine) (hdf : d.params.defaults = []) (hr : Room k callerA)
    (hY : ∀ (w : World) (h : Heap), YP w h → (K w.params).In h) (hYT : ∀ (w : World) (h : Heap), YP w h → h.get? T = some (PySem.W.tabObj #[])) (hC : ∀ w : World, PySem.W.codeHdIn (K w.params) cc T = true) (hKT : ∀ w : World, (K w.params).lookup T = none)
    (F : ∀ (w : World) (mg : Str → Option Value) (fa : Addr) (h : Heap), (K w.params).In h → h.Ns mainGlobals mg → mg d.name = some (.ref fa) →
      ∃ fd : FuncData, (∀ (s : Shared) (u : Value), BindsTo s fd ⟨[u], []⟩ [(x, u)]) ∧
        ∀ base : Heap, (K w.params).In base → base.Ns mainGlobals mg → Bmod base mg → FnOk l.prog w (K w.params) mg base (CX w) k fa fd [x] (sp w))
    (hsp : ∀ (w : World) (H : Hp) (a : Addr) (ns : List Int), ns.length ≤ n → H T = some (.tbl #[]) → SqL (K w.params) H a (ns.map V.int) → sp w [.ref a] H (fun v _ => v = .bl true) fun _ _ _ => False)
    (hCX : ∀ (w : World) (H : Hp) (s : Shared) (e : Value) (s' : Shared), CX w [] H s (fun _ _ _ => False) e s' → False) :
    PySem.W.WalkO q loose XP YP l.row.toRowW d [] (fun f vs => PySem.call f vs) := by
  refine Att.attach_call hn hdf fun w s₀ s₁ mg mb fa o pm cd doc a vs ns G Y ho hd hcd hmg hobj hints hlen hg => ?_
  have KX := hY w _ Y
  obtain ⟨fd, hb, hF⟩ := F w mg fa _ KX G.T.g hmg
  have hBm : Bmod s₁.heap mg := by
    obtain ⟨bm, ob, b1, b2, b3, b4, b5, b6⟩ := G.T.bmain
    refine ⟨bm, ob, b1, b2, fun q => ?_, b3, b4, b5, b6⟩
    obtain ⟨o, es, ep, e, hd, _⟩ := G.T.g
    rw [q, e] at b3; cases b3; rw [hd] at b6; cases b6
  exact law_callT KX G.T.g G.T.b G.T.builtins G.T.nolimit hg hBm (hYT w _ Y) (hC w) (hKT w) hobj hints (Nat.le_trans hlen hn2) hr hF hb (fun H h1 h2 => hsp w H a ns hlen h1 h2) fun H e s' => hCX w H s₁ e s'

end L2

namespace L2
open PySem PySem.Spec PyProof.Rows
structure KD (P : Program) (w : World) (K : PySem.W.Frag) (d : Addr) (kvs : List (Key × V)) : Prop where
  ex : ∃ (o : Obj) (es : Array DictEntry) (ep : Nat) (vs : List (Key × Value)), K.lookup d = some o ∧ o.ExactDict ∧ o.data = .dict es ep ∧ PySem.KeysOf (mixKind P w) es ∧ PySem.Pairs (mixKind P w) es.toList vs ∧ (vs.map (·.1)).Nodup ∧ KV kvs vs
  sm : (d == sysModules) = false
section
variable {X : Cx} {d : Addr} {kvs : List (Key × V)}
theorem KD.at_ {pins : List (Addr × Obj)} {σ : St} {H : Hp} {s : Shared} (D : KD X.prog X.w X.K d kvs) (I : Inv X pins σ H s) : ∃ vs ep, KV kvs vs ∧ s.heap.DictAt (mixKind X.prog X.w) d vs ep ∧ s.heap.DictOf (mixKind X.prog X.w) d vs := by
  obtain ⟨o, es, ep, vs, h1, h2, h3, h4, h5, h6, h7⟩ := D.ex
  exact ⟨vs, ep, h7, ⟨o, es, I.kIn _ _ h1, h2, h3, h4, h5, h6⟩, ⟨o, es, ep, I.kIn _ _ h1, h2, h3, h4, h5, h6⟩⟩
def tKGet (d : Addr) (kvs : List (Key × V)) (td ty : TE) : TE := fun σ H Q => td σ H fun x H1 => ty σ H1 fun y H2 => ∃ k v, x = .ref d ∧ y = kV k ∧ valV kvs k = some v ∧ Q v H2
theorem pe_kget {o i : Expr} {pos : Pos} {td ty : TE} (D : KD X.prog X.w X.K d kvs) (ho : PE X o td) (hi : PE X i ty) (hs : NoSl i) : PE X (.Subscript o i pos) (tKGet d kvs td ty) := by
  intro pins s σ H Q I h
  refine subD_of PySem.F.slot_dict_getitem.lookup hs (thn (ho pins s σ H _ I h) fun u s1 ⟨x, H1, I1, rx, q1⟩ => thn (hi pins s1 σ H1 _ I1 q1) fun iv s2 ⟨y, H2, I2, ry, k, v, ex, ey, l, q2⟩ => ?_)
  subst ex ey
  obtain rfl : u = Value.ref d := rx
  obtain ⟨vs, ep, rel, _, dd⟩ := D.at_ I2
  obtain ⟨w', hw, rw'⟩ := RelO.some_of (v := v) (o := valueAt vs k) (by rw [← l]; exact rel.val k)
  exact ⟨dd.typeIs, wpAny_getItem_of (kV_is ry) dd.mapOf hw ⟨v, H2, I2.tok _, rw', q2⟩⟩
def Itk (kvs : List (Key × V)) : It := ⟨fun i _ => i < kvs.length, fun i H x H' => H' = H ∧ ∃ k v, kvs[i]? = some (k, v) ∧ x = kV k, fun i _ => kvs.length ≤ i⟩
theorem turn_kd {P : Program} {w : World} {K : PySem.W.Frag} {tg : Expr} (it : Addr) {o : Obj} {es : Array DictEntry} {ep : Nat} (D : KD P w K d kvs) (hk : K.lookup d = some o) (hd : o.data = .dict es ep) : Turn P w K tg (Itk kvs) [it] it (fun i h => h.IsKeyIter it d i kvs.length ep) where
  mem := by simp
  obj := fun i h st b hb => by
    have e : b = it := by simpa using hb
    subst e
    obtain ⟨o, e, c, d⟩ := st
    exact ⟨o, e, fun v z => by rw [d] at z; cases z⟩
  keep := fun i h h' st k => st.at fun o e => k it (by simp) o e
  item := by
    intro X hP hw hK hc i pins s σ H E I hf st hg
    subst hP hw hK
    obtain ⟨o', es', ep', vs, h1, h2, h3, h4, h5, h6, rel⟩ := D.ex
    rw [hk] at h1; cases h1
    rw [hd] at h3; cases h3
    have da : s.heap.DictAt (mixKind X.prog X.w) d vs ep := ⟨o, es, I.kIn _ _ hk, h2, hd, h4, h5, h6⟩
    have hi : i < kvs.length := hg
    have hl := kv_len rel
    obtain ⟨f0, f1, f2, f3, f4, f5⟩ := hf it (by simp)
    have hx : vs[i]? = some (vs[i]'(by omega)) := List.getElem?_eq_getElem _
    obtain ⟨y, hy⟩ := kv_get rel (k := (vs[i]'(by omega)).1) (v := (vs[i]'(by omega)).2) hx
    rw [hl] at st
    refine wpAny_pyNext_dict_item (k := (vs[i]'(by omega)).1) (v := (vs[i]'(by omega)).2) st da hx fun key h' hk' st' sb => ?_
    have I1 : Inv X pins σ H { s with heap := h' } := I.turned (t' := s.toks) (fun b o hb e => (sb.2 b hb).trans e) f0 f1 f3 f4 f5
    obtain ⟨o2, e2, c2, d2⟩ := id st'
    rw [← hl] at st'
    exact ⟨key, rfl, go_of (s := { s with heap := h' }) e2 c2 d2 (by decide) ⟨_, H, I1, key_is hk', ⟨rfl, _, y, hy, rfl⟩, st', fun b hb => (hf b hb).1⟩⟩
  done := by
    intro X hP hw hK hc i pins s σ H E I hf st hg
    subst hP hw hK
    obtain ⟨o', es', ep', vs, h1, h2, h3, h4, h5, h6, rel⟩ := D.ex
    rw [hk] at h1; cases h1
    rw [hd] at h3; cases h3
    have da : s.heap.DictAt (mixKind X.prog X.w) d vs ep := ⟨o, es, I.kIn _ _ hk, h2, hd, h4, h5, h6⟩
    have hi : kvs.length ≤ i := hg
    have hl := kv_len rel
    rw [hl] at st
    obtain ⟨f0, f1, f2, f3, f4, f5⟩ := hf it (by simp)
    exact wpAny_pyNext_dict_end (I.ok.hd hc) st da (List.getElem?_eq_none (by omega)) fun h' eb => ⟨rfl, I.turned (t' := s.toks) (fun b o hb e => eb b o hb e) f0 f1 f3 f4 f5⟩
  self := fun _ _ _ _ _ st h => wpAny_pyIter_keyiter st h
def iKd (d : Addr) (kvs : List (Key × V)) (tl : TE) : TI := fun σ H R => tl σ H fun x H1 => x = .ref d ∧ R (Itk kvs) H1
theorem pi_kd {tg l : Expr} {tl : TE} (D : KD X.prog X.w X.K d kvs) (hl : PE X l tl) : PI X tg l (iKd d kvs tl) := by
  intro pins s σ H R I h
  refine thn (hl pins s σ H _ I h) fun v s1 ⟨x, H1, I1, r1, e, q⟩ => ?_
  subst e
  cases r1
  obtain ⟨o, es, ep, vs, h1, h2, h3, h4, h5, h6, rel⟩ := D.ex
  have da : s1.heap.DictAt (mixKind X.prog X.w) d vs ep := ⟨o, es, I1.kIn _ _ h1, h2, h3, h4, h5, h6⟩
  refine wpAny_pyIter_dict D.sm da ?_
  have hlen : vs.length = kvs.length := (kv_len rel).symm
  refine ⟨s1.heap.objs.size, [s1.heap.objs.size], _, _, _, rfl, I1.kept (t' := s1.toks) fun b o e => Heap.get?_push_of_some _ e, turn_kd _ D h1 h3, ⟨_, Heap.get?_push_size _ rfl, rfl, by rw [hlen]; rfl⟩, fun b hb => ?_, q⟩
  have e : b = s1.heap.objs.size := by simpa using hb
  subst e
  exact I1.fpOk (Nat.le_refl _) (I1.hok.fresh (Nat.le_refl _))
theorem forW_kd {g : TG} {tb : TS} {D : Ends} {σ : St} {H : Hp} (Pv : Nat → St → Hp → Prop) (h0 : Pv 0 σ H)
    (hs : ∀ i k v σ H, kvs[i]? = some (k, v) → Pv i σ H → g (kV k) σ H fun σ2 H2 => tb { D with nx := Pv (i + 1), ct := Pv (i + 1), bk := D.nx } σ2 H2) (hd : ∀ σ H, Pv kvs.length σ H → D.nx σ H) : ForW g tb D σ (Itk kvs) H := by
  refine ⟨fun i m σ H => m = kvs.length - i ∧ i ≤ kvs.length ∧ Pv i σ H, ⟨kvs.length, by simp, Nat.zero_le _, h0⟩, ?_⟩
  rintro i m σ H ⟨rfl, hi, p⟩
  by_cases hlt : i < kvs.length
  · refine .inr ⟨hlt, Pv (i + 1), fun σ' H' p' => ⟨kvs.length - (i + 1), by omega, rfl, hlt, p'⟩, fun x H' y => ?_⟩
    obtain ⟨e, k, v, hk, y⟩ := y
    subst e y
    exact hs i k v σ _ hk p
  · have e : i = kvs.length := by omega
    subst e
    exact .inl ⟨Nat.le_refl _, hd σ H p⟩
end
theorem kd_two {P : Program} {w : World} {K : PySem.W.Frag} {d : Addr} {x y a b : Str} {t1 t2 t3 t4 : Tok} {ep : Nat} (sm : (d == sysModules) = false)
    (lk : K.lookup d = some { cls := .type "dict", data := .dict #[⟨PyData.keyHash w.params x, .str x t1, .str a t2⟩, ⟨PyData.keyHash w.params y, .str y t3, .str b t4⟩] ep }) (ne : x ≠ y) :
    KD P w K d [(.inr x, .str a), (.inr y, .str b)] := by
  refine ⟨⟨_, _, _, [(.inr x, .str a t2), (.inr y, .str b t4)], lk, ?_, rfl, ?_, ?_, ?_, .cons ⟨rfl, _, rfl⟩ (.cons ⟨rfl, _, rfl⟩ .nil)⟩, sm⟩
  · exact ⟨rfl, rfl, rfl⟩
  · intro e he
    have he' : e = ⟨PyData.keyHash w.params x, .str x t1, .str a t2⟩ ∨ e = ⟨PyData.keyHash w.params y, .str y t3, .str b t4⟩ := by simpa using he
    rcases he' with rfl | rfl
    · exact ⟨.inr x, kV_is (k := .inr x) ⟨_, rfl⟩, rfl⟩
    · exact ⟨.inr y, kV_is (k := .inr y) ⟨_, rfl⟩, rfl⟩
  · exact .cons (kV_is (k := .inr x) ⟨_, rfl⟩) rfl (.cons (kV_is (k := .inr y) ⟨_, rfl⟩) rfl .nil)
  · simp; exact ne

end L2

namespace L2
open PySem PySem.Spec PyProof.Rows
section
variable {X : Cx}
end

end L2

namespace L2
open PySem PySem.Spec PyProof.Rows
section
variable {X : Cx}
theorem call_intB : CallR X (.type "int") (fun xs H Q => ∃ b : Bool, xs = [.bl b] ∧ Q (.int (if b then 1 else 0)) H) := by
  intro pins s σ H xs us Q I r h
  obtain ⟨b, rfl, q⟩ := h
  obtain ⟨u, rfl, ru⟩ := vals1 r
  cases ru
  exact call_int_bool ⟨.int _, H, I.tok _, ⟨_, rfl⟩, q⟩
theorem op_repT : OpR X (binaryOp .Mult) (fun x y H Q => ∃ z n, x = .str z ∧ y = .int n ∧ (0 ≤ n ∧ n ≤ 1000 ∧ 0 < z.length ∧ z.length ≤ 100) ∧ ∀ r : Str, r.cps.toList = (List.replicate n.toNat z.cps.toList).flatten → Q (.str r) H) := by
  intro pins s σ H x y v u Q I rx ry h
  obtain ⟨z, n, rfl, rfl, ⟨h1, h2, h3, h4⟩, q⟩ := h
  rcases (show n = 0 ∨ n = 1 ∨ 1 < n by omega) with rfl | rfl | hn
  · obtain ⟨t, rfl⟩ := rx
    obtain ⟨t', rfl⟩ := ry
    exact P.mul_str_none (by decide) (by decide) ⟨.str _, H, I.tok _, ⟨_, rfl⟩, q _ rfl⟩
  · obtain ⟨t, rfl⟩ := rx
    obtain ⟨t', rfl⟩ := ry
    refine P.mul_str (by decide) (fun _ e => by simp at e) (fun _ e => by simp at e) ?_
    rw [if_neg (by decide), if_pos (by simp)]
    exact ⟨.str z, H, I, ⟨_, rfl⟩, q _ (by simp)⟩
  · exact op_repS pins s σ H _ _ v u Q I rx ry ⟨z, n, rfl, rfl, ⟨hn, h2, h3, h4⟩, q⟩
end
theorem atI_map {α β : Type} (f : α → β) (xs : List α) (k : Int) : atI (xs.map f) k = (atI xs k).map f := by
  unfold atI
  rw [List.length_map]
  cases ixN xs.length k with
  | none => rfl
  | some j => simp
def at0 {α : Type} (xs : List α) (d : α) (k : Int) : α := (atI xs k).getD d
theorem at0_of {α : Type} {xs : List α} {d : α} {k : Int} (h0 : 0 ≤ k) (h : k < (xs.length : Int)) : atI xs k = some (at0 xs d k) := by
  obtain ⟨v, hv, _⟩ := atI_of h0 h
  unfold at0
  rw [hv]
  rfl
theorem at0_mem {α : Type} {xs : List α} {d : α} {k : Int} (h0 : 0 ≤ k) (h : k < (xs.length : Int)) : at0 xs d k ∈ xs := by
  obtain ⟨v, hv, hv'⟩ := atI_of h0 h
  unfold at0
  rw [hv]
  exact List.mem_of_getElem? hv'
theorem atM {α : Type} {f : α → V} {xs : List α} {d : α} {k : Int} (h0 : 0 ≤ k) (h : k < (xs.length : Int)) : atI (xs.map f) k = some (f (at0 xs d k)) := by
  rw [atI_map, at0_of (d := d) h0 h]
  rfl
section
variable {H : Hp}
theorem deeps_c {d : DV} {ds : List DV} {xs : List V} (h : DeepTs H (d :: ds) xs) : ∃ y ys, xs = y :: ys ∧ DeepT H d y ∧ DeepTs H ds ys := by rw [DeepTs] at h; exact h
theorem deeps_n {xs : List V} (h : DeepTs H [] xs) : xs = [] := by rw [DeepTs] at h; exact h
theorem deep_s {z : Str} {v : V} (h : DeepT H (.str z) v) : v = .str z := by rw [DeepT] at h; exact h
theorem deep_i {n : Int} {v : V} (h : DeepT H (.int n) v) : v = .int n := by rw [DeepT] at h; exact h
theorem deep_t {ds : List DV} {v : V} (h : DeepT H (.tup ds) v) : ∃ a xs, v = .ref a ∧ H a = some (.tup xs) ∧ DeepTs H ds xs := by rw [DeepT] at h; exact h
theorem deep_l {ds : List DV} {v : V} (h : DeepT H (.lst ds) v) : ∃ a xs, v = .ref a ∧ H a = some (.lst xs) ∧ DeepTs H ds xs := by rw [DeepT] at h; exact h
theorem deeps_strs : ∀ {ws : List Str} {xs : List V}, DeepTs H (ws.map DV.str) xs → xs = ws.map V.str
  | [], xs, h => deeps_n h
  | w :: ws, xs, h => by
    obtain ⟨y, ys, rfl, h1, h2⟩ := deeps_c h
    rw [deep_s h1, deeps_strs h2]
    rfl
theorem strs_deeps : ∀ (ws : List Str), DeepTs H (ws.map DV.str) (ws.map V.str)
  | [] => DeepTs.nil
  | w :: ws => by
    show DeepTs H (.str w :: ws.map DV.str) _
    rw [DeepTs]
    exact ⟨_, _, rfl, by rw [DeepT], strs_deeps ws⟩
end
theorem star_N {x : Str} {p : Pos} {es : List Expr} {env : Env} : starEach (Expr.Name x p :: es) env = (false, eval (Expr.Name x p) env) :: starEach es env := rfl
theorem star_S {a b : Expr} {p : Pos} {es : List Expr} {env : Env} : starEach (Expr.Subscript a b p :: es) env = (false, eval (Expr.Subscript a b p) env) :: starEach es env := rfl
theorem star_C {a : Expr} {b : List Expr} {c : List Keyword} {p : Pos} {es : List Expr} {env : Env} : starEach (Expr.Call a b c p :: es) env = (false, eval (Expr.Call a b c p) env) :: starEach es env := rfl

end L2

namespace L2
open PySem PySem.Spec PyProof.Rows
theorem lk_s_int : typeLookup (.type "str") "__int__" = pure none := by rw [typeLookup_type, builtinLookup_eq_fast]; kernel_rfl
theorem lk_s_index : typeLookup (.type "str") "__index__" = pure none := by rw [typeLookup_type, builtinLookup_eq_fast]; kernel_rfl
theorem lk_s_trunc : typeLookup (.type "str") "__trunc__" = pure none := by rw [typeLookup_type, builtinLookup_eq_fast]; kernel_rfl
def fgI (n : Nat) : Str := (toString (n : Int) : String)
theorem eq_step {M : Model} {A : Around} {m m' : Sem Value} {Q : Value → Shared → Prop} {E : Value → Shared → Prop} {s : Shared} (h : m = m') (q : wpAny M A m' Q E s) : wpAny M A m Q E s := h ▸ q
set_option maxHeartbeats 4000000 in
theorem meets_int_text (z : Str) (n : Nat) (u : Tok) (h1 : 1 ≤ n) (h2 : n ≤ 20) (hz : z = fgI n) : Meets (Builtin.«int.__new__» ⟨[.type "int", .str z u], []⟩) (Made.int n).spec :=
  Meets.of_wp fun prog w A R s hs => by
    obtain ⟨hp, g, d, tk, os⟩ := s
    have f1 := F.conv_sub_int
    have f2 := F.madeHere_int
    have f3 := lk_s_int
    have f4 := lk_s_index
    have f5 := lk_s_trunc
    repeat (any_goals (first | assumption | wp_step))
    refine eq_step (m' := mkInt n) ?_ ?_
    · have : n = 1 ∨ n = 2 ∨ n = 3 ∨ n = 4 ∨ n = 5 ∨ n = 6 ∨ n = 7 ∨ n = 8 ∨ n = 9 ∨ n = 10 ∨ n = 11 ∨ n = 12 ∨ n = 13 ∨ n = 14 ∨ n = 15 ∨ n = 16 ∨ n = 17 ∨ n = 18 ∨ n = 19 ∨ n = 20 := by omega
      rw [hz]
      rcases this with h | h | h | h | h | h | h | h | h | h | h | h | h | h | h | h | h | h | h | h <;> (subst h; kernel_rfl)
    · repeat (any_goals (first | assumption | wp_step))
      all_goals exact ⟨_, rfl, hs⟩
section
variable {X : Cx}
theorem call_intS : CallR X (.type "int") (fun xs H Q => ∃ n : Nat, xs = [.str (fgI n)] ∧ 1 ≤ n ∧ n ≤ 20 ∧ Q (.int (n : Int)) H) := by
  intro pins s σ H xs us Q I r h
  obtain ⟨n, rfl, h1, h2, q⟩ := h
  obtain ⟨u, rfl, t, rfl⟩ := vals1 r
  exact call_int_1 (meets_int_text _ n t h1 h2 rfl) (show (Made.int n).post _ s from ⟨rfl, ⟨.int n, H, I.tok _, ⟨_, rfl⟩, q⟩⟩)
end
section
variable {prog : Program} {w : World} {A : Around} {E : Value → Shared → Prop} {s : Shared}
theorem call_treeK {id : String} {b : Builtin} {xs : List Value} {ks : List (Str × Value)} {Q : Value → Shared → Prop} (hk : builtinKind id = none) (hp : plainId id = true) (hb : entryFor table id = some b) (ha : argsOk id ⟨xs, ks⟩)
    (hc : wpAny (model prog w) A.in1 (b ⟨xs, ks⟩) (fun fin s' => match fin with
      | .done f => (match (Except.ok f : Result) with | .ok (.ret v) => Q v s' | .ok _ => False | .error e => E e s')
      | .again c' => c'.quiet = true ∧ codeAny (model prog w) A c' (fun r s' => match r with | .ok (.ret v) => Q v s' | .ok _ => False | .error e => E e s') s') E s) :
    wpAny (model prog w) A (call (.builtin id) xs ks) Q E s := by
  refine wpAny_call (codeAny_call_builtin hp hb ?_)
  simp only [checkBuiltinCall, hk]
  cases e : Manifest.signature? id with
  | none => exact wpAny_pure hc
  | some g =>
    have h2 : Bind.checkArgs id g ⟨xs, ks⟩ = pure () := by simpa only [argsOk, e] using ha
    simp only [h2]
    exact wpAny_pure hc
theorem args_mx (a d : Value) : argsOk "max" ⟨[a], [(("default" : Str), d)]⟩ := by unfold argsOk; kernel_rfl
theorem bind_mx (d : Value) : Builtin.Builtins.bindParams "max" ["key", "default"] 0 ⟨[], [(("default" : Str), d)]⟩ = pure [none, some d] := by kernel_rfl
end
section
variable {prog : Program} {w : World} {A : Around} {R : Result → Shared → Prop} {I : Addr} {fp wr : List Addr} {n : Nat} {P : Nat → Value → Prop} {St : Nat → Heap → Prop}
theorem mx_name : (toString "max" ++ toString ".loop" : String) = "max.loop" := by decide
theorem mx_loop (W : Walks prog w A.in1 I fp wr n P St) (bt : Nat → Nat → Bool) (hcmp : CmpOf prog w A.in1 .Gt P bt) (S : Addr) (hSf : S ∉ fp) (d : Value) :
    ∀ (k j : Nat) (s : Shared) (jb : Nat) (vb : Value) (c : Nat), n - j = k → j ≤ n → St j s.heap → P jb vb → s.heap.get? S = some { cls := .type "list", dict := none, data := .seq #[vb, vb] c, slots := #[] } →
    (∀ jr v h' tk, P jr v → (∀ b o, b ∉ wr → b ≠ S → s.heap.get? b = some o → h'.get? b = some o) → R (.ok (.ret v)) { s with heap := h', toks := tk }) →
    codeAny (model prog w) A (.builtin "max.loop" ⟨[.ref I, .none, .ref S], [(("default" : Str), d)]⟩) R s := by
  have nS : S ∉ wr := fun h => hSf (W.sub _ h)
  intro k
  induction k with
  | zero =>
    intro j s jb vb c e0 e1 st pb gS fin
    have ej : j = n := by omega
    subst ej
    refine codeAny_builtin F.entry_max_loop ?_
    rw [Around.under_plainId F.plain_max_loop _]
    refine wpAny_bind (wpAny_seqItems gS rfl ?_)
    refine wpAny_bind (wpAny_tryCatch (W.done s _ _ st fun h' tk keep => ?_))
    refine wpAny_bind ?_
    refine wpAny_updateSeq (keep S _ nS gS) rfl (wpAny_bind (wpAny_letGo (wpAny_pure ?_)))
    exact fin jb vb _ tk pb fun b o b1 b2 e => (Heap.get?_update_other _ _ (Ne.symm b2)).trans (keep b o b1 e)
  | succ k ih =>
    intro j s jb vb c e0 e1 st pb gS fin
    have lt : j < n := by omega
    refine codeAny_builtin F.entry_max_loop ?_
    rw [Around.under_plainId F.plain_max_loop _]
    refine wpAny_bind (wpAny_seqItems gS rfl ?_)
    refine wpAny_bind (wpAny_tryCatch (W.item j s _ _ lt st fun v h' tk pv st' keep => ?_))
    have gS' := keep S _ nS gS
    show wpAny _ A.in1 (tryCatch (holding [v, v] (richCompare .Gt v vb >>= _)) _ >>= _) _ _ _
    refine wpAny_bind (wpAny_tryCatch (wpAny_holding (wpAny_bind (hcmp j jb v vb _ _ _ pv pb ?_))))
    refine wpAny_bind (wpAny_holding (wpAny_truthy_bool ?_))
    refine wpAny_bind (wpAny_letGo (wpAny_pure ?_))
    cases hb : bt j jb with
    | true =>
      simp only [if_true]
      refine wpAny_bind ?_
      refine wpAny_updateSeq gS' rfl (wpAny_bind (wpAny_letGo ?_))
      rw [mx_name]
      refine wpAny_pure ⟨plainId_quiet F.plain_max_loop _, ih (j + 1) _ j v _ (by omega) lt (W.frame _ _ _ st' fun b hf o e => ?_) pv (Heap.get?_update_self _ gS' rfl) fun jr v' h2 tk2 p2 k2 => ?_⟩
      · exact (Heap.get?_update_other _ _ (fun h : S = b => hSf (by rw [h]; exact hf))).trans e
      · exact fin jr v' h2 tk2 p2 fun b o b1 b2 e => k2 b o b1 b2 ((Heap.get?_update_other _ _ (Ne.symm b2)).trans (keep b o b1 e))
    | false =>
      simp only [Bool.false_eq_true, if_false]
      refine wpAny_bind (wpAny_letGo ?_)
      rw [mx_name]
      refine wpAny_pure ⟨plainId_quiet F.plain_max_loop _, ih (j + 1) _ jb vb c (by omega) lt st' pb gS' fun jr v' h2 tk2 p2 k2 => ?_⟩
      exact fin jr v' h2 tk2 p2 fun b o b1 b2 e => k2 b o b1 b2 (keep b o b1 e)
theorem mx_first (W : Walks prog w A.in1 I fp wr n P St) (bt : Nat → Nat → Bool) (hcmp : CmpOf prog w A.in1 .Gt P bt) (S : Addr) (hSf : S ∉ fp) (d : Value) {s : Shared} {c : Nat} (st : St 0 s.heap) (gS : s.heap.get? S = some { cls := .type "list", dict := none, data := .seq #[] c, slots := #[] })
    (fin : ∀ v h' tk, (v = d ∨ ∃ j, P j v) → (∀ b o, b ∉ wr → b ≠ S → s.heap.get? b = some o → h'.get? b = some o) → R (.ok (.ret v)) { s with heap := h', toks := tk }) :
    codeAny (model prog w) A (.builtin "max.loop" ⟨[.ref I, .none, .ref S], [(("default" : Str), d)]⟩) R s := by
  have nS : S ∉ wr := fun h => hSf (W.sub _ h)
  refine codeAny_builtin F.entry_max_loop ?_
  rw [Around.under_plainId F.plain_max_loop _]
  refine wpAny_bind (wpAny_seqItems gS rfl ?_)
  rcases Nat.eq_zero_or_pos n with z | z
  · subst z
    refine wpAny_bind (wpAny_tryCatch (W.done s _ _ st fun h' tk keep => ?_))
    refine wpAny_bind (wpAny_rule (wpAny_pure ?_))
    exact fin d h' tk (.inl rfl) fun b o b1 _ e => keep b o b1 e
  · refine wpAny_bind (wpAny_tryCatch (W.item 0 s _ _ z st fun v h' tk pv st' keep => ?_))
    have gS' := keep S _ nS gS
    show wpAny _ A.in1 (updateSeq S (fun _ => #[v, v]) >>= _) _ _ _
    refine wpAny_bind ?_
    refine wpAny_updateSeq gS' rfl ?_
    rw [mx_name]
    refine wpAny_pure ⟨plainId_quiet F.plain_max_loop _, mx_loop W bt hcmp S hSf d _ 1 _ 0 v _ rfl z (W.frame _ _ _ st' fun b hf o e => ?_) pv (Heap.get?_update_self _ gS' rfl) fun jr v' h2 tk2 p2 k2 => ?_⟩
    · exact (Heap.get?_update_other _ _ (fun h : S = b => hSf (by rw [h]; exact hf))).trans e
    · exact fin v' h2 tk2 (.inr ⟨jr, p2⟩) fun b o b1 b2 e => k2 b o b1 b2 ((Heap.get?_update_other _ _ (Ne.symm b2)).trans (keep b o b1 e))
end
section
variable {prog : Program} {w : World} {A : Around} {E : Value → Shared → Prop} {s : Shared}
theorem max_dflt {l : Addr} {zs : Array (Int × Tok)} {d : Value} {Q : Value → Shared → Prop} (hh : A.handled = none) (hl : s.heap.IsList l (intItems zs))
    (h : ∀ v h' tk, (v = d ∨ ∃ j : Nat, (intItems zs)[j]? = some v) → (∀ b o, s.heap.get? b = some o → h'.get? b = some o) → Q v { s with heap := h', toks := tk }) :
    wpAny (model prog w) A (call (.builtin "max") [.ref l] [(("default" : Str), d)]) Q E s := by
  refine call_treeK F.kind_max F.plain_max F.entry_max (args_mx _ _) ?_
  refine wpAny_bind (wpAny_of_eq (bind_mx d) ?_)
  refine wpAny_bind (wpAny_pure ?_)
  refine wpAny_bind (iter_intList hl fun s₂ e st hfp hlI => ?_)
  subst e
  refine wpAny_bind (wpAny_newObj_type ?_)
  have W := Walks.list (prog := prog) (w := w) (A := A.in1) hh _ l hlI (intItems zs)
  rw [mx_name]
  refine wpAny_pure ⟨plainId_quiet F.plain_max_loop _, mx_first W _ (CmpOf.ints_gt (numAt zs) (fun _ _ => intItems_at)) _ (fun hm => Nat.lt_irrefl _ (hfp _ hm)) d (W.frame _ _ _ st fun b _ o e => Heap.get?_push_of_some _ e) (Heap.get?_push_size _ rfl) fun v h' tk hP hk => ?_⟩
  refine h v h' tk hP fun b o e => ?_
  have lb := Heap.lt_size e
  refine hk b o (fun hm => ?_) (fun q => ?_) (Heap.get?_push_of_some _ (Heap.get?_push_of_some _ e))
  · rcases List.mem_cons.mp hm with e1 | hm
    · exact absurd (e1 ▸ lb) (Nat.lt_irrefl _)
    · cases hm
  · have : b < (s.heap.push { cls := .type "list_iterator", data := .fields #[.ref l, .int 0 0] }).objs.size := by rw [Heap.size_push]; exact Nat.lt_succ_of_lt lb
    exact absurd (q ▸ this) (Nat.lt_irrefl _)
end
section
variable {X : Cx}
theorem mx_ok (hc : X.calm = true) {pins : List (Addr × Obj)} {s : Shared} {σ : St} {H : Hp} {p : Addr} {ns : List Int} {i : Int} {t : Tok} {Q : VK} (I : Inv X pins σ H s) (hq : SqL X.K H p (ns.map V.int)) (q : ∀ M, Q (.int M) H) :
    wpAny (model X.prog X.w) X.A (call (.builtin "max") [.ref p] [(("default" : Str), .int i t)]) (EP X pins σ Q) X.xe s := by
  obtain ⟨its, rv, pl, hz⟩ := I.list hq
  have hi : IntsAre its ns := intsAre_of rv
  obtain ⟨zs, e⟩ := hi.allInts.items
  have hl := pl.isList
  rw [e] at hl
  refine max_dflt (I.ok.hd hc) hl fun v h' tk hv hk => ?_
  rcases hv with rfl | ⟨j, hj⟩
  · exact ⟨.int _, H, I.kept hk, ⟨t, rfl⟩, q _⟩
  · obtain ⟨t', rfl⟩ := intItems_at hj
    exact ⟨.int _, H, I.kept hk, ⟨t', rfl⟩, q _⟩
def tMaxD (K : PySem.W.Frag) (te td : TE) : TE := fun σ H Q => te σ H fun x H1 => td σ H1 fun y H2 => ∃ (p : Addr) (ns : List Int) (i : Int), x = .ref p ∧ y = .int i ∧ SqL K H2 p (ns.map V.int) ∧ ∀ M : Int, Q (.int M) H2
theorem pe_maxD {e d : Expr} {te td : TE} {p pos kp : Pos} (hc : X.calm = true) (he : PE X e te) (hd : PE X d td) (hg : Gl X "max") (hm : X.mg "max" = none) (hs : starEach [e] X.env = [(false, eval e X.env)] := by rfl) :
    PE X (.Call (.Name "max" p) [e] [⟨some "default", d, kp⟩] pos) (tMaxD X.K te td) := by
  intro pins s σ H Q I h
  refine wpAny_Call_Name_kw (ld_blt I hg hm PyProof.Rows.boot_max ?_ (by decide) (by decide))
  have h' : tCons te tNil σ H fun vs H1 => tCons td tNil σ H1 fun ys H2 => ∃ (p : Addr) (ns : List Int) (i : Int), vs = [.ref p] ∧ ys = [.int i] ∧ SqL X.K H2 p (ns.map V.int) ∧ ∀ M : Int, Q (.int M) H2 := by
    have e1 : (fun x H1 => td σ H1 fun y H2 => ∃ (p : Addr) (ns : List Int) (i : Int), x = V.ref p ∧ y = V.int i ∧ SqL X.K H2 p (ns.map V.int) ∧ ∀ M : Int, Q (.int M) H2) = (fun x H1 => td σ H1 fun y H2 => ∃ (p : Addr) (ns : List Int) (i : Int), [x] = [V.ref p] ∧ [y] = [V.int i] ∧ SqL X.K H2 p (ns.map V.int) ∧ ∀ M : Int, Q (.int M) H2) := by
      simp only [List.cons.injEq, and_true]
    unfold tMaxD at h
    rw [e1] at h
    exact h
  refine PyProof.Rows.callWith_kw (thn ((pa_cons he pa_nil hs) pos pins s σ H _ I h') fun us s1 ⟨vs, H1, I1, r1, q1⟩ => thn ((pk_cons hd pk_nil) pos pins s1 σ H1 _ I1 q1) fun ws s2 ⟨ys, H2, I2, r2, q2⟩ => ?_) ?_ ?_ rfl rfl
  · obtain ⟨a, ns, i, rfl, rfl, hq, q⟩ := q2
    obtain ⟨u, rfl, ru⟩ := vals1 r1
    cases ru
    obtain ⟨u2, rfl, t, rfl⟩ := vals1 r2
    exact mx_ok hc I2 hq q
  · rw [hs]; rfl
  · rw [hs]; rfl
end

end L2

namespace K82
open PySem L2 
local macro_rules
  | `(tactic| simpa only [$xs,*]) => `(tactic| simp only [tIfS, tAnd, tOr, tNot, tB, tVar, tTest, tOp, tC, tUn, tCB, tCons, tNil, rI0, rI, rU, rNe, rEq, scal, rAppend, tBM, tDrop, tSeq, tAsg, gName, tRet, tNext, List.set_cons_zero, List.set_cons_succ, List.getElem?_cons_zero, List.getElem?_cons_succ, Option.some.injEq, V.int.injEq, V.bl.injEq, V.ref.injEq, V.str.injEq, exists_eq_left', exists_eq_left, exists_and_left, List.cons.injEq, and_true, true_and, and_assoc, exists_const, L2.start, List.map_cons, List.map_nil, List.length_cons, List.length_nil, List.replicate_succ, List.replicate_zero, List.cons_append, List.nil_append, List.append_nil, Nat.reduceAdd, Nat.reduceSub, tFor_eq, tComp_eq, tWhile_eq, tChain, tAug, ipI, rIxS, rSlS, rLower, rIndex, rPop, rCat, tBM0, gSub, rSetL, tSl, tPart, tNoPart, rSlL, tCall, tLst, tTup, iRng1, iRng2, iRng3, iList, iEnum, gTup, gCons, gNil, rIxL, rIxT, tYes, tAndV, tOrV, tNotV, tIf, tTest, exists_eq', List.ne_cons_self, reduceCtorEq, if_true, if_false, and_false, false_and, $xs,*])
def top (i : Nat) : Stmt := PySem.Challenge.pw_findcourt_k82_lines_looked_at.main.body.getD i (.Pass ⟨0, 0, 0, 0⟩)
abbrev sSmall : Stmt := top 13
abbrev sFig : Stmt := top 14
abbrev sIW : Stmt := top 15
abbrev sName : Stmt := top 16
abbrev sPS : Stmt := top 19
abbrev sDp : Stmt := top 24
abbrev sNN : Stmt := top 25
abbrev sNW : Stmt := top 26
abbrev sNL : Stmt := top 27
abbrev sBare : Stmt := top 34
abbrev sAW : Stmt := top 35
abbrev sNWs : Stmt := top 36
abbrev sWi : Stmt := top 37
abbrev sNA : Stmt := top 38
abbrev sNO : Stmt := top 39
abbrev sNB : Stmt := top 40
abbrev sNQ : Stmt := top 41
abbrev sRQ : Stmt := top 42
abbrev sMix : Stmt := top 44
abbrev sDraws : Stmt := top 45
abbrev sPop : Stmt := top 46
abbrev sPool : Stmt := top 47
abbrev sLFd : Stmt := top 48
abbrev sPat : Stmt := top 49
abbrev sQu : Stmt := top 50
abbrev sSh : Stmt := top 51
abbrev sRun : Stmt := top 52
abbrev sLd : Stmt := top 53
abbrev sLA : Stmt := top 54
abbrev sLP : Stmt := top 55
abbrev sLR : Stmt := top 56
abbrev sOn : Stmt := top 57
abbrev sSpo : Stmt := top 58
abbrev sSz : Stmt := top 59
abbrev sLaw : Stmt := top 60
abbrev sSI : Stmt := inClass (top 23) 0
abbrev sSees : Stmt := inClass (top 23) 1
abbrev sPas : Stmt := inClass (top 23) 2
abbrev sPO : Stmt := inClass (top 23) 3
abbrev sWh : Stmt := inClass (top 23) 4
abbrev sEnd : Stmt := inClass (top 23) 5
structure Txt (mg : Str → Option Value) : Prop where
  len : mg "len" = none
  range : mg "range" = none
  isinstance : mg "isinstance" = none
  str : mg "str" = none
  int : mg "int" = none
  list : mg "list" = none
  tuple : mg "tuple" = none
  all : mg "all" = none
  enumerate : mg "enumerate" = none
  max : mg "max" = none
  sum : mg "sum" = none
  valueError : mg "ValueError" = none
  mName : ∃ t, mg "MOST_NAME_SIGNS" = some (.int 12 t)
  mPat : ∃ t, mg "MOST_PATTERN_SIGNS" = some (.int 40 t)
  any : ∃ t, mg "ANY_FIELD" = some (.str "*" t)
  mDeep : ∃ t, mg "MOST_DEEP" = some (.int 60 t)
  mWord : ∃ t, mg "MOST_WORD_SIGNS" = some (.int 40 t)
  mWords : ∃ t, mg "MOST_WORDS" = some (.int 6 t)
  mWid : ∃ t, mg "MOST_WIDTH" = some (.int 20 t)
def lowC (c : Nat) : Bool := decide (97 ≤ c ∧ c ≤ 122)
def figC (c : Nat) : Bool := decide (48 ≤ c ∧ c ≤ 57)
def wC (c : Nat) : Bool := lowC c || figC c
def isP (c : Nat) : Bool := lowC c || figC c || decide (c = 63) || decide (c = 42)
def okNm (z : Str) : Bool := decide (1 ≤ z.length ∧ z.length ≤ 12) && z.cps.toList.all lowC
def okWd (z : Str) : Bool := decide (0 < z.length) && z.cps.toList.all wC
def spSmall : Sp := fun vs H Q _ => ∃ c : Nat, vs = [.str ⟨#[c]⟩] ∧ Q (.bl (lowC c)) H
def spFig : Sp := fun vs H Q _ => ∃ c : Nat, vs = [.str ⟨#[c]⟩] ∧ Q (.bl (figC c)) H
def spPS : Sp := fun vs H Q _ => ∃ c : Nat, vs = [.str ⟨#[c]⟩] ∧ Q (.bl (isP c)) H
def spName : Sp := fun vs H Q _ => ∃ z : Str, vs = [.str z] ∧ z.length ≤ 1000 ∧ ∀ H', Same H H' → Q (.bl (okNm z)) H'
def spIW : Sp := fun vs H Q _ => ∃ z : Str, vs = [.str z] ∧ z.length ≤ 1000 ∧ ∀ H', Same H H' → Q (.bl (okWd z)) H'
theorem lt1 (a b : Nat) : decide ([a] < [b]) = decide (a < b) := by
  by_cases h : a < b
  · rw [decide_eq_true h]
    exact decide_eq_true (List.cons_lt_cons_iff.mpr (.inl h))
  · rw [decide_eq_false h]
    refine decide_eq_false fun q => ?_
    rcases List.cons_lt_cons_iff.mp q with q | ⟨_, q⟩
    · exact h q
    · cases q
theorem cs1 (c : Nat) : (⟨#[c]⟩ : Str).cps.toList = [c] := rfl
theorem csa : ("a" : Str).cps.toList = [97] := by decide +kernel
theorem csz : ("z" : Str).cps.toList = [122] := by decide +kernel
theorem cs0 : ("0" : Str).cps.toList = [48] := by decide +kernel
theorem cs9 : ("9" : Str).cps.toList = [57] := by decide +kernel
theorem csq : ("?" : Str).cps.toList = [63] := by decide +kernel
theorem csst : ("*" : Str).cps.toList = [42] := by decide +kernel
theorem slen (z : Str) : z.cps.toList.length = z.length := by simp [Str.length]
theorem sExt {x y : Str} (h : x.cps.toList = y.cps.toList) : x = y := by
  obtain ⟨a⟩ := x
  obtain ⟨b⟩ := y
  exact congrArg Str.mk (Array.toList_inj.mp h)
theorem one_is {c k : Nat} {z : Str} (h : z.cps.toList = [k]) : decide ((⟨#[c]⟩ : Str) = z) = decide (c = k) := by
  by_cases e : c = k
  · rw [decide_eq_true e]
    exact decide_eq_true (sExt (by rw [h, e]))
  · rw [decide_eq_false e]
    refine decide_eq_false fun q => e ?_
    rw [← q] at h
    simpa using h
section
variable {P : Program} {w : World} {K : PySem.W.Frag} {mg : Str → Option Value} {base : Heap} {f : Addr} {fd : FuncData}
theorem scSmall : FnScope ["sign"] ["sign"] (defScope sSmall) := ⟨rfl, rfl, rfl, by decide +kernel, rfl, by decide +kernel, by decide +kernel⟩
theorem ok_small (F : Fun K "is_small_letter" "is_small_letter" sSmall f fd) : FnOk P w K mg base CX0 1 f fd ["sign"] spSmall := by
  refine F.ok scSmall (fun vs H Q E h => ?_) (fun cdv A outer s H vs Q E hr h => ?_)
  · obtain ⟨c, rfl, _⟩ := h
    rfl
  obtain ⟨c, rfl, q⟩ := h
  refine ⟨_, (pss_one (ps_ret (pe_chain op_le_str op_le_str pe_str (pv 0) pe_str))), ?_⟩
  simpa only [V.str.injEq]
  simp only [csa, csz, cs1, lt1]
  have fin : ∀ k, k = lowC c → Q (.bl k) H := fun k e => by rw [e]; exact q
  refine ite2 (fun h1 => fin _ ?_) (fun h1 => fin _ ?_)
  · unfold lowC; rw [Bool.eq_iff_iff]; simp at h1 ⊢; omega
  · unfold lowC; symm; apply decide_eq_false; simp at h1; omega
theorem scFig : FnScope ["sign"] ["sign"] (defScope sFig) := ⟨rfl, rfl, rfl, by decide +kernel, rfl, by decide +kernel, by decide +kernel⟩
theorem ok_fig (F : Fun K "is_figure" "is_figure" sFig f fd) : FnOk P w K mg base CX0 1 f fd ["sign"] spFig := by
  refine F.ok scFig (fun vs H Q E h => ?_) (fun cdv A outer s H vs Q E hr h => ?_)
  · obtain ⟨c, rfl, _⟩ := h
    rfl
  obtain ⟨c, rfl, q⟩ := h
  refine ⟨_, (pss_one (ps_ret (pe_chain op_le_str op_le_str pe_str (pv 0) pe_str))), ?_⟩
  simpa only [V.str.injEq]
  simp only [cs0, cs9, cs1, lt1]
  have fin : ∀ k, k = figC c → Q (.bl k) H := fun k e => by rw [e]; exact q
  refine ite2 (fun h1 => fin _ ?_) (fun h1 => fin _ ?_)
  · unfold figC; rw [Bool.eq_iff_iff]; simp at h1 ⊢; omega
  · unfold figC; symm; apply decide_eq_false; simp at h1; omega
theorem scPS : FnScope ["sign"] ["sign"] (defScope sPS) := ⟨rfl, rfl, rfl, by decide +kernel, rfl, by decide +kernel, by decide +kernel⟩
theorem ok_psign {g g' : Addr} {gd gd' : FuncData} (F : Fun K "is_pattern_sign" "is_pattern_sign" sPS f fd) (GS : FnOk P w K mg base CX0 1 g gd ["sign"] spSmall) (bS : Binds K gd ["sign"] []) (kS : PySem.W.keepIn K (.ref g) = true) (mS : mg "is_small_letter" = some (.ref g))
    (GF : FnOk P w K mg base CX0 1 g' gd' ["sign"] spFig) (bF : Binds K gd' ["sign"] []) (kF : PySem.W.keepIn K (.ref g') = true) (mF : mg "is_figure" = some (.ref g')) : FnOk P w K mg base CX0 2 f fd ["sign"] spPS := by
  refine F.ok scPS (fun vs H Q E h => ?_) (fun cdv A outer s H vs Q E hr h => ?_)
  · obtain ⟨c, rfl, _⟩ := h
    rfl
  obtain ⟨c, rfl, q⟩ := h
  refine ⟨_, (pss_one (ps_ret (pe_or (pe_call GS hr rfl mS kS bS .nil pass0 (pa_cons (pv 0) pa_nil)) (pe_or (pe_call GF hr rfl mF kF bF .nil pass0 (pa_cons (pv 0) pa_nil)) (pe_or (pe_cmpR op_eq (pv 0) pe_str (nomark _)) (pe_one (pe_cmpR op_eq (pv 0) pe_str (nomark _)))))))), ?_⟩
  simpa only [spSmall, spFig, V.str.injEq]
  have fin : ∀ k, k = isP c → Q (.bl k) H := fun k e => by rw [e]; exact q
  refine ⟨c, rfl, ite2 (fun h1 => fin _ (by unfold isP; rw [h1]; rfl)) (fun h1 => ⟨c, rfl, ite2 (fun h2 => fin _ (by unfold isP; rw [h2]; simp)) (fun h2 => ?_)⟩)⟩
  rw [one_is csq, one_is csst]
  refine ite2 (fun h3 => fin _ (by unfold isP; rw [h3]; simp)) (fun h3 => fin _ ?_)
  unfold isP
  rw [Bool.eq_false_iff.mpr h1, Bool.eq_false_iff.mpr h2, Bool.eq_false_iff.mpr h3]
  simp
theorem scName : FnScope ["text"] ["text"] (defScope sName) := ⟨rfl, rfl, rfl, by decide +kernel, rfl, by decide +kernel, by decide +kernel⟩
def invN (p : Nat → Bool) (z : Str) (H : Hp) (i : Nat) (ys : List V) (σ : St) (L : Hp) : Prop := ∃ v0 : Option V, ys = ((z.cps.toList.take i).map p).map V.bl ∧ L = H ∧ σ = [v0]
theorem ok_name {g : Addr} {gd : FuncData} (F : Fun K "is_name" "is_name" sName f fd) (T : Txt mg) (GS : FnOk P w K mg base CX0 1 g gd ["sign"] spSmall) (bS : Binds K gd ["sign"] []) (kS : PySem.W.keepIn K (.ref g) = true) (mS : mg "is_small_letter" = some (.ref g)) : FnOk P w K mg base CX0 2 f fd ["text"] spName := by
  refine F.ok scName (fun vs H Q E h => ?_) (fun cdv A outer s H vs Q E hr h => ?_)
  · obtain ⟨z, rfl, _⟩ := h
    rfl
  obtain ⟨z, rfl, hz, q⟩ := h
  obtain ⟨tM, hM⟩ := T.mName
  refine ⟨_, (pss_one (ps_ret (pe_and (pe_chain op_le op_le pe_int (pe_callB call_len_str rfl T.len PySem.boot_len (pa_cons (pv 0) pa_nil)) (pe_gint rfl hM)) (pe_one (pe_callB (call_all K rfl) rfl T.all (by decide +kernel) (pa_cons (pe_comp (N := ["sign"]) (pick := [none]) (NX := ["text"]) (sX := defScope sName) (by decide +kernel) rfl rfl rfl (pi_str (pv 0))
        (fun _ _ _ _ => (pg_name (i := 0) (by decide +kernel : (["sign"] : List Str).Nodup) rfl (Or.inl rfl))) (fun _ _ _ _ => pifs_nil) (fun _ _ _ _ => (pe_call GS hr rfl mS kS bS .nil pass0 (pa_cons (pv 0) pa_nil)))) pa_nil)))))), ?_⟩
  simpa only [iStr]
  have hsz : z.length ≤ sizeLine := small hz
  have bad : ¬ (1 ≤ z.length ∧ z.length ≤ 12) → Q (.bl false) H := fun n => by
    have e : okNm z = false := by unfold okNm; rw [decide_eq_false n, Bool.false_and]
    have := q H (Same.refl _)
    rw [e] at this
    exact this
  refine ⟨hsz, ite2 (fun c1 => ite2 (fun c2 => ?_) fun c2 => bad ?_) fun c1 => bad ?_⟩
  · have d1 := of_decide_eq_true c1
    have d2 := of_decide_eq_true c2
    refine compW_str (invN lowC z H) ⟨none, rfl, rfl, rfl⟩ ?_ ?_ ?_
    · rintro i ys σ L hi ⟨v0, rfl, rfl, rfl⟩
      rw [List.length_map, List.length_map, List.length_take]
      exact small (by omega)
    · rintro i c ys σ L hc ⟨v0, rfl, rfl, rfl⟩
      simpa only [spSmall]
      refine ⟨c, rfl, _, ?_, rfl, rfl⟩
      rw [List.take_add_one, hc, List.map_append, List.map_append]
      rfl
    · rintro ys σ L ⟨v0, rfl, rfl, rfl⟩ p hp
      rw [← slen, List.take_length]
      refine ⟨p, rfl, _, SqL.of upd_same, ?_⟩
      have e : okNm z = ((z.cps.toList.map lowC).all id) := by
        unfold okNm
        rw [decide_eq_true (by omega), Bool.true_and, List.all_map]
        rfl
      rw [← e]
      exact q _ (same_new hp _)
  · have := of_decide_eq_false (Bool.eq_false_iff.mpr c2); omega
  · have := of_decide_eq_false (Bool.eq_false_iff.mpr c1); omega
theorem scIW : FnScope ["text"] ["text"] (defScope sIW) := ⟨rfl, rfl, rfl, by decide +kernel, rfl, by decide +kernel, by decide +kernel⟩
theorem ok_iw {g g' : Addr} {gd gd' : FuncData} (F : Fun K "is_word" "is_word" sIW f fd) (T : Txt mg) (GS : FnOk P w K mg base CX0 1 g gd ["sign"] spSmall) (bS : Binds K gd ["sign"] []) (kS : PySem.W.keepIn K (.ref g) = true) (mS : mg "is_small_letter" = some (.ref g))
    (GF : FnOk P w K mg base CX0 1 g' gd' ["sign"] spFig) (bF : Binds K gd' ["sign"] []) (kF : PySem.W.keepIn K (.ref g') = true) (mF : mg "is_figure" = some (.ref g')) : FnOk P w K mg base CX0 2 f fd ["text"] spIW := by
  refine F.ok scIW (fun vs H Q E h => ?_) (fun cdv A outer s H vs Q E hr h => ?_)
  · obtain ⟨z, rfl, _⟩ := h
    rfl
  obtain ⟨z, rfl, hz, q⟩ := h
  refine ⟨_, (pss_one (ps_ret (pe_and (pe_cmpR op_gt (pe_callB call_len_str rfl T.len PySem.boot_len (pa_cons (pv 0) pa_nil)) pe_int (nomark _)) (pe_one (pe_callB (call_all K rfl) rfl T.all (by decide +kernel) (pa_cons (pe_comp (N := ["sign"]) (pick := [none]) (NX := ["text"]) (sX := defScope sIW) (by decide +kernel) rfl rfl rfl (pi_str (pv 0))
        (fun _ _ _ _ => (pg_name (i := 0) (by decide +kernel : (["sign"] : List Str).Nodup) rfl (Or.inl rfl))) (fun _ _ _ _ => pifs_nil) (fun _ _ _ _ => (pe_or (pe_call GS hr rfl mS kS bS .nil pass0 (pa_cons (pv 0) pa_nil)) (pe_one (pe_call GF hr rfl mF kF bF .nil pass0 (pa_cons (pv 0) pa_nil)))))) pa_nil)))))), ?_⟩
  simpa only [iStr]
  have hsz : z.length ≤ sizeLine := small hz
  have bad : ¬ (0 < z.length) → Q (.bl false) H := fun n => by
    have e : okWd z = false := by unfold okWd; rw [decide_eq_false n, Bool.false_and]
    have := q H (Same.refl _)
    rw [e] at this
    exact this
  refine ⟨hsz, ite2 (fun c1 => ?_) fun c1 => bad ?_⟩
  · have d1 := of_decide_eq_true c1
    refine compW_str (invN wC z H) ⟨none, rfl, rfl, rfl⟩ ?_ ?_ ?_
    · rintro i ys σ L hi ⟨v0, rfl, rfl, rfl⟩
      rw [List.length_map, List.length_map, List.length_take]
      exact small (by omega)
    · rintro i c ys σ L hc ⟨v0, rfl, rfl, rfl⟩
      simpa only [spSmall, spFig]
      have e : ((List.take (i + 1) z.cps.toList).map wC).map V.bl = ((List.take i z.cps.toList).map wC).map V.bl ++ [V.bl (wC c)] := by
        rw [List.take_add_one, hc, List.map_append, List.map_append]
        rfl
      have fin : ∀ k, k = wC c → invN wC z L (i + 1) (((List.take i z.cps.toList).map wC).map V.bl ++ [V.bl k]) [some (.str ⟨#[c]⟩)] L := fun k hk => ⟨_, by rw [e, hk], rfl, rfl⟩
      refine ⟨c, rfl, ite2 (fun h1 => fin _ (by unfold wC; rw [h1]; rfl)) (fun h1 => ⟨c, rfl, fin _ (by unfold wC; rw [Bool.eq_false_iff.mpr h1]; rfl)⟩)⟩
    · rintro ys σ L ⟨v0, rfl, rfl, rfl⟩ p hp
      rw [← slen, List.take_length]
      refine ⟨p, rfl, _, SqL.of upd_same, ?_⟩
      have e : okWd z = ((z.cps.toList.map wC).all id) := by
        unfold okWd
        rw [decide_eq_true (by omega), Bool.true_and, List.all_map]
        rfl
      rw [← e]
      exact q _ (same_new hp _)
  · have := of_decide_eq_false (Bool.eq_false_iff.mpr c1); omega
end
def SameX (d : Addr) (H H' : Hp) : Prop := ∀ b o, H b = some o → b ≠ d → H' b = some o
theorem SameX.trans {d : Addr} {H H1 H2 : Hp} (a : SameX d H H1) (b : SameX d H1 H2) : SameX d H H2 := fun c o h n => b c o (a c o h n) n
theorem SameX.of {d : Addr} {H H1 : Hp} (a : Same H H1) : SameX d H H1 := fun c o h _ => a c o h
theorem SameX.upd {d : Addr} {H H1 : Hp} (a : SameX d H H1) (o : HO) : SameX d H (L2.upd H1 d o) := fun c u h n => by rw [upd_ne n]; exact a c u h n
theorem SameX.refl {d : Addr} {H : Hp} : SameX d H H := fun _ _ h _ => h
theorem SameX.out {d : Addr} {H H1 H2 : Hp} (a : Same H H1) (h : H d = none) (b : SameX d H1 H2) : Same H H2 := fun c o q => b c o (a c o q) (ne_of_none q h)
def ExtT (r T : Addr) (H H' : Hp) : Prop := ∀ b o, H b = some o → b ≠ r → b ≠ T → H' b = some o
theorem ExtT.trans {r T : Addr} {H H1 H2 : Hp} (a : ExtT r T H H1) (b : ExtT r T H1 H2) : ExtT r T H H2 := fun c o h n m => b c o (a c o h n m) n m
theorem ExtT.of {r T : Addr} {H H1 : Hp} (a : SameX r H H1) : ExtT r T H H1 := fun c o h n _ => a c o h n
theorem ExtT.refl {r T : Addr} {H : Hp} : ExtT r T H H := fun _ _ h _ _ => h
theorem ExtT.upd {r T : Addr} {H H1 : Hp} (a : ExtT r T H H1) (o : HO) : ExtT r T H (L2.upd H1 r o) := fun c u h n m => by rw [upd_ne n]; exact a c u h n m
def nw (H H' : Hp) : Hp := fun b => match H b with | none => H' b | some _ => none
theorem nw_at {H H' : Hp} {b : Addr} (h : H b = none) : nw H H' b = H' b := by unfold nw; rw [h]
theorem nw_some {H H' : Hp} {b : Addr} {o : HO} (h : nw H H' b = some o) : H b = none ∧ H' b = some o := by
  unfold nw at h
  split at h
  · rename_i e; exact ⟨e, h⟩
  · cases h
theorem nw_sub {H H' : Hp} : Same (nw H H') H' := fun _ _ h => (nw_some h).2
structure Tb (T : Addr) (tb : Hp → Prop) : Prop where
  at_ : ∀ H, tb H → ∃ ps, H T = some (.tbl ps)
  st : ∀ H H', tb H → (∀ b ps, H b = some (.tbl ps) → H' b = some (.tbl ps)) → (∀ b ob, H b = some (L2.cst ob) → H' b = some (L2.cst ob)) → tb H'
theorem Tb.sameX {T r C dx : Addr} {tb : Hp → Prop} {H H' : Hp} {fs : List (Str × V)} (t : Tb T tb) (h : tb H) (hr : H r = some (.ins C dx fs)) (s : SameX r H H') : tb H' :=
  t.st _ _ h (fun b ps e => s b _ e fun q => by rw [q, hr] at e; cases e) fun b ob e => s b _ e fun q => by rw [q, hr] at e; cases e
theorem Tb.put {T a : Addr} {tb : Hp → Prop} {H : Hp} {xs : List V} {o : HO} (t : Tb T tb) (h : tb H) (ha : H a = some (.lst xs) ∨ H a = none) : tb (upd H a o) :=
  t.st _ _ h (fun b ps e => by rw [upd_ne fun q => by rw [q] at e; rcases ha with z | z <;> rw [z] at e <;> cases e]; exact e) fun b ob e => by rw [upd_ne fun q => by rw [q] at e; rcases ha with z | z <;> rw [z] at e <;> cases e]; exact e
theorem none_ext {r T p : Addr} {H L : Hp} {o : HO} {ps : Array Value} (e : ExtT r T H L) (hr : L r = some o) (hT : L T = some (.tbl ps)) (hp : L p = none) : H p = none := by
  cases h : H p with
  | none => rfl
  | some u =>
    by_cases c1 : p = r
    · rw [c1, hr] at hp; cases hp
    · by_cases c2 : p = T
      · rw [c2, hT] at hp; cases hp
      · rw [e p u h c1 c2] at hp; cases hp
def BadT (NT r T : Addr) (H : Hp) (E : XK) : Prop := ∀ e H', ExtT r T H H' → H e = none → H' e = some (XO e (.ref NT) none) → E (.ref e) none H'
theorem BadT.on {NT r T : Addr} {H L : Hp} {E : XK} {o : HO} {ps : Array Value} (b : BadT NT r T H E) (s : ExtT r T H L) (hL : L r = some o) (hT : L T = some (.tbl ps)) : BadT NT r T L E := fun e H' s' he hx => b e H' (s.trans s') (none_ext s hL hT he) hx
theorem BadT.onX {NT r T : Addr} {H L : Hp} {E : XK} {o : HO} (b : BadT NT r T H E) (s : SameX r H L) (hL : L r = some o) : BadT NT r T L E := fun e H' s' he hx => b e H' ((ExtT.of s).trans s') (by
  cases h : H e with
  | none => rfl
  | some u =>
    by_cases c1 : e = r
    · rw [c1, hL] at he; cases he
    · rw [s e u h c1] at he; cases he) hx
theorem BadT.raise {NT r T : Addr} {L : Hp} {E : XK} (b : BadT NT r T L E) : ∀ e H', Same L H' → L e = none → H' e = some (XO e (.ref NT) none) → E (.ref e) none H' := fun e H' s he hx => b e H' (fun c o h _ _ => s c o h) he hx
abbrev cs (z : Str) : List Nat := z.cps.toList
def sc (z : Str) (i : Int) : List (Str × V) := [("line", .str z), ("at", .int i)]
theorem sc_line (z : Str) (i : Int) : (sc z i).lookup ("line" : Str) = some (V.str z) := rfl
theorem sc_at (z : Str) (i : Int) : (sc z i).lookup ("at" : Str) = some (V.int i) := rfl
theorem sc_put (z : Str) (i j : Int) : putF "at" (.int j) (sc z i) = sc z j := rfl
theorem sc_new (z : Str) (j : Int) : putF "at" (.int j) (putF "line" (.str z) []) = sc z j := rfl
def pre (y : Str) (l : List Nat) : Bool := (cs y).isPrefixOf l
theorem sw3 {z y : Str} {i : Nat} (_h : i ≤ z.length) : PySem.Txt.startswith3 z y (i : Int) = pre y ((cs z).drop i) := by
  have e : fromIndex z.length (i : Int) = i := by unfold fromIndex; split <;> omega
  unfold PySem.Txt.startswith3 pre
  rw [e, StrLaws.subAt_eq, Bool.eq_iff_iff, List.isPrefixOf_iff_prefix, List.prefix_iff_eq_take, slen]
  simp only [Bool.and_eq_true, decide_eq_true_eq, beq_iff_eq]
  constructor
  · rintro ⟨_, h⟩; exact h.symm
  · intro h
    refine ⟨?_, h.symm⟩
    have := congrArg List.length h
    rw [List.length_take, List.length_drop, slen, slen] at this
    omega
theorem pre_iff {y : Str} {l : List Nat} : pre y l = true ↔ cs y <+: l := by unfold pre; exact List.isPrefixOf_iff_prefix
def spSI (C : Addr) : Sp := fun vs H Q _ => ∃ x dx z, vs = [.ref x, .str z] ∧ H x = some (.ins C dx []) ∧ Q .non (upd H x (.ins C dx (sc z 0)))
def spSees (C : Addr) : Sp := fun vs H Q _ => ∃ (r dx : Addr) (z y : Str) (i : Nat), vs = [.ref r, .str y] ∧ H r = some (.ins C dx (sc z i)) ∧ i ≤ z.length ∧ Q (.bl (pre y ((cs z).drop i))) H
def spPas (C : Addr) : Sp := fun vs H Q _ => ∃ (r dx : Addr) (z y : Str) (i : Nat), vs = [.ref r, .str y] ∧ H r = some (.ins C dx (sc z i)) ∧ i ≤ z.length ∧ y.length ≤ 1000 ∧
  (pre y ((cs z).drop i) = true → Q (.bl true) (upd H r (.ins C dx (sc z ((i + y.length : Nat) : Int))))) ∧ (pre y ((cs z).drop i) = false → Q (.bl false) H)
def spPO (C NT T : Addr) : Sp := fun vs H Q E => ∃ (r dx : Addr) (z y : Str) (i : Nat), vs = [.ref r, .str y] ∧ H r = some (.ins C dx (sc z i)) ∧ i ≤ z.length ∧ y.length ≤ 1000 ∧
  (pre y ((cs z).drop i) = true → Q .non (upd H r (.ins C dx (sc z ((i + y.length : Nat) : Int))))) ∧ (pre y ((cs z).drop i) = false → BadT NT r T H E)
def Asks (p : Nat → Bool) (sp : Sp) : Prop := ∀ c H Q E, (∀ H', Same H H' → Q (.bl (p c)) H') → sp [.str ⟨#[c]⟩] H Q E
def spWh (K : PySem.W.Frag) (C f : Addr) (p : Nat → Bool) : Sp := fun vs H Q _ => ∃ (r dx : Addr) (z : Str) (i : Nat) (l1 l2 : List Nat), vs = [.ref r, .ref f] ∧ IsFn K H f ∧ H r = some (.ins C dx (sc z i)) ∧ i ≤ z.length ∧ z.length ≤ 100000 ∧ (cs z).drop i = l1 ++ l2 ∧ (∀ c ∈ l1, p c = true) ∧ (∀ c, l2.head? = some c → p c = false) ∧
  ∀ H', SameX r H H' → H' r = some (.ins C dx (sc z ((i + l1.length : Nat) : Int))) → Q (.str ⟨l1.toArray⟩) H'
def spEnd (C NT T : Addr) : Sp := fun vs H Q E => ∃ (r dx : Addr) (z : Str) (i : Nat), vs = [.ref r] ∧ H r = some (.ins C dx (sc z i)) ∧ z.length ≤ 100000 ∧ (z.length ≤ i → Q .non H) ∧ (i < z.length → BadT NT r T H E)
theorem fn_sameX {K : PySem.W.Frag} {H H' : Hp} {r f C dx : Addr} {fs : List (Str × V)} (h : IsFn K H f) (hr : H r = some (.ins C dx fs)) (s : SameX r H H') : IsFn K H' f := by
  rcases h with h | ⟨oc, od, fd, sl, e⟩
  · exact .inl h
  · exact .inr ⟨oc, od, fd, sl, s _ _ e fun q => by rw [q, hr] at e; cases e⟩
theorem asks_small : Asks lowC spSmall := fun c H _ _ h => ⟨c, rfl, h H (Same.refl _)⟩
theorem asks_ps : Asks isP spPS := fun c H _ _ h => ⟨c, rfl, h H (Same.refl _)⟩
theorem asks_iw : Asks wC spIW := fun c H Q _ h => ⟨⟨#[c]⟩, rfl, by show 1 ≤ 1000; decide, fun H' s => by
  have e : okWd ⟨#[c]⟩ = wC c := by unfold okWd; simp [Str.length]
  rw [e]; exact h H' s⟩
section
variable {P : Program} {w : World} {K : PySem.W.Frag} {mg : Str → Option Value} {base : Heap} {f : Addr} {fd : FuncData} {C : Addr}
theorem scSI : FnScope ["self", "line"] ["self", "line"] (defScope sSI) := ⟨rfl, rfl, rfl, by decide +kernel, rfl, by decide +kernel, by decide +kernel⟩
theorem ok_si (F : Fun K "__init__" "Scan.__init__" sSI f fd) (cl : Cls K C) (n1 : NoAttr K C "line") (n2 : NoAttr K C "at") : FnOk P w K mg base CX0 1 f fd ["self", "line"] (spSI C) := by
  refine F.ok scSI (fun vs H Q E h => ?_) (fun cdv A outer s H vs Q E hr h => ?_)
  · obtain ⟨x, dx, a, rfl, _⟩ := h
    rfl
  obtain ⟨x, dx, z, rfl, hx, q⟩ := h
  refine ⟨_, (pss_cons (ps_fld (pv 0) (pv 1) rfl)
    (pss_one (ps_fld (pv 0) pe_int rfl))), ?_⟩
  simpa only [sFld]
  refine ⟨C, dx, [], hx, cl, n1, by decide, C, dx, _, upd_same, cl, n2, (by show 1 < 1000; decide), ?_⟩
  rw [upd_upd, sc_new]
  exact q
theorem scSees : FnScope ["self", "text"] ["self", "text"] (defScope sSees) := ⟨rfl, rfl, rfl, by decide +kernel, rfl, by decide +kernel, by decide +kernel⟩
theorem ok_sees (F : Fun K "sees" "Scan.sees" sSees f fd) (cl : Cls K C) (n1 : NoAttr K C "line") (n2 : NoAttr K C "at") : FnOk P w K mg base CX0 1 f fd ["self", "text"] (spSees C) := by
  refine F.ok scSees (fun vs H Q E h => ?_) (fun cdv A outer s H vs Q E hr h => ?_)
  · obtain ⟨r, dx, z, y, i, rfl, _⟩ := h
    rfl
  obtain ⟨r, dx, z, y, i, rfl, hr', hi, q⟩ := h
  refine ⟨_, (pss_one (ps_ret (bmK K PySem.F.plainAttrs_str PySem.F.slot_str_startswith PySem.F.type_str_startswith mt_starts3 (pe_fld (pv 0) rfl) (pa_cons (pv 1) (pa_cons (pe_fld (pv 0) rfl) pa_nil))))), ?_⟩
  simpa only [tFld, rStarts3]
  refine ⟨C, dx, _, hr', cl, n1, _, sc_line z i, rfl, C, dx, _, hr', cl, n2, _, sc_at z i, z, rfl, _, rfl, ?_⟩
  rw [sw3 hi]
  exact q
theorem scPas : FnScope ["self", "text"] ["self", "text"] (defScope sPas) := ⟨rfl, rfl, rfl, by decide +kernel, rfl, by decide +kernel, by decide +kernel⟩
theorem ok_pas {g : Addr} {gd : FuncData} (F : Fun K "passes" "Scan.passes" sPas f fd) (T : Txt mg) (cl : Cls K C) (n2 : NoAttr K C "at") (GSe : FnOk P w K mg base CX0 1 g gd ["self", "text"] (spSees C)) (bSe : Binds K gd ["self", "text"] []) (mSe : Meth K C "sees" g) : FnOk P w K mg base CX0 2 f fd ["self", "text"] (spPas C) := by
  refine F.ok scPas (fun vs H Q E h => ?_) (fun cdv A outer s H vs Q E hr h => ?_)
  · obtain ⟨r, dx, z, y, i, rfl, _⟩ := h
    rfl
  obtain ⟨r, dx, z, y, i, rfl, hr', hi, hy, q1, q2⟩ := h
  refine ⟨_, (pss_cons (ps_if (pt_not (pt_val (pe_meth (pv 0) cl mSe GSe hr bSe .nil pass0 (pa_cons (pv 1) pa_nil)))) (pss_one (ps_ret pe_bl)) pss_nil)
    (pss_cons (ps_fldaug (pv 0) (pe_callB call_len_str rfl T.len PySem.boot_len (pa_cons (pv 1) pa_nil)) in_add)
    (pss_one (ps_ret pe_bl)))), ?_⟩
  simpa only [tMeth, spSees, sFldAug, rAdd]
  refine ⟨dx, _, hr', rfl, dx, z, i, hr', hi, ite2 (fun c => ?_) fun c => ?_⟩
  · exact q2 (by simpa using c)
  refine ⟨C, dx, _, hr', cl, n2, _, sc_at z i, small hy, _, rfl, dx, _, hr', (by show 2 < 1000; decide), ?_⟩
  rw [sc_put, show (i : Int) + (y.length : Int) = ((i + y.length : Nat) : Int) by omega]
  exact q1 (by simpa using c)
theorem scPO : FnScope ["self", "text"] ["self", "text"] (defScope sPO) := ⟨rfl, rfl, rfl, by decide +kernel, rfl, by decide +kernel, by decide +kernel⟩
theorem ok_po {g NT FE T : Addr} {gd : FuncData} (F : Fun K "pass_over" "Scan.pass_over" sPO f fd) (cl : Cls K C) (xc : XCls0 K NT FE) (kX : PySem.W.keepIn K (.ref NT) = true) (mX : mg "NoText" = some (.ref NT)) (GPa : FnOk P w K mg base CX0 2 g gd ["self", "text"] (spPas C)) (bPa : Binds K gd ["self", "text"] []) (mPa : Meth K C "passes" g) : FnOk P w K mg base (CXe P w) 3 f fd ["self", "text"] (spPO C NT T) := by
  refine F.okX scPO (fun vs H Q E h => ?_) (fun cdv A outer s H vs Q E hr h => ?_)
  · obtain ⟨r, dx, z, y, i, rfl, _⟩ := h
    rfl
  obtain ⟨r, dx, z, y, i, rfl, hr', hi, hy, q1, q2⟩ := h
  refine ⟨_, (pss_one (ps_if (pt_not (pt_val (pe_meth (pv 0) cl mPa GPa hr bPa .nil pass0 (pa_cons (pv 1) pa_nil)))) (pss_one (ps_raise0 xc kX rfl mX (pa_cons pe_str pa_nil))) pss_nil)), ?_⟩
  simpa only [tMeth, spPas, tRaise0]
  refine ⟨dx, _, hr', rfl, dx, z, i, hr', hi, hy, fun c => iteF (q1 c), fun c => ?_⟩
  rw [if_pos (by decide)]
  exact (q2 c).raise
theorem scEnd : FnScope ["self"] ["self"] (defScope sEnd) := ⟨rfl, rfl, rfl, by decide +kernel, rfl, by decide +kernel, by decide +kernel⟩
theorem ok_end {NT FE T' : Addr} (F : Fun K "look_at_end" "Scan.look_at_end" sEnd f fd) (T : Txt mg) (cl : Cls K C) (n1 : NoAttr K C "line") (n2 : NoAttr K C "at") (xc : XCls0 K NT FE) (kX : PySem.W.keepIn K (.ref NT) = true) (mX : mg "NoText" = some (.ref NT)) : FnOk P w K mg base (CXe P w) 1 f fd ["self"] (spEnd C NT T') := by
  refine F.okX scEnd (fun vs H Q E h => ?_) (fun cdv A outer s H vs Q E hr h => ?_)
  · obtain ⟨r, dx, z, i, rfl, _⟩ := h
    rfl
  obtain ⟨r, dx, z, i, rfl, hr', hz, q1, q2⟩ := h
  refine ⟨_, (pss_one (ps_if (pt_cmpR op_lt (pe_fld (pv 0) rfl) (pe_callB call_len_str rfl T.len PySem.boot_len (pa_cons (pe_fld (pv 0) rfl) pa_nil)) (nomark _)) (pss_one (ps_raise0 xc kX rfl mX (pa_cons pe_str pa_nil))) pss_nil)), ?_⟩
  simpa only [tFld, tRaise0]
  refine ⟨C, dx, _, hr', cl, n2, _, sc_at z i, C, dx, _, hr', cl, n1, _, sc_line z i, z, rfl, Nat.le_trans hz (by decide), _, rfl, ?_⟩
  refine ite2 (fun c => ?_) (fun c => ?_)
  · exact (q2 (by have := of_decide_eq_true c; omega)).raise
  · exact q1 (by simp only [decide_eq_true_eq] at c; omega)
theorem scWh : FnScope ["self", "is_wanted", "begin"] ["self", "is_wanted"] (defScope sWh) := ⟨rfl, rfl, rfl, by decide +kernel, rfl, by decide +kernel, by decide +kernel⟩
def wWh (C dx r g : Addr) (z : Str) (i : Nat) (l1 : List Nat) (H : Hp) (m : Nat) (σ : St) (L : Hp) : Prop := ∃ k : Nat, m = l1.length - k ∧ k ≤ l1.length ∧ σ = [some (.ref r), some (.ref g), some (.int (i : Int))] ∧ SameX r H L ∧ L r = some (.ins C dx (sc z ((i + k : Nat) : Int)))
theorem ok_wh {g : Addr} {gd : FuncData} {sp : Sp} {p : Nat → Bool} {px : Str} (F : Fun K "signs_while" "Scan.signs_while" sWh f fd) (T : Txt mg) (cl : Cls K C) (n1 : NoAttr K C "line") (n2 : NoAttr K C "at") (GX : FnOk P w K mg base CX0 2 g gd [px] sp) (bX : Binds K gd [px] []) (ha : Asks p sp) : FnOk P w K mg base CX0 3 f fd ["self", "is_wanted"] (spWh K C g p) := by
  refine F.ok scWh (fun vs H Q E h => ?_) (fun cdv A outer s H vs Q E hr h => ?_)
  · obtain ⟨r, dx, z, i, l1, l2, rfl, _⟩ := h
    rfl
  obtain ⟨r, dx, z, i, l1, l2, rfl, hf, hr', hi, hz, hd, h1, h2, q⟩ := h
  refine ⟨_, (pss_cons (ps_set (i := 2) scWh.nd rfl (Or.inl rfl) (pe_fld (pv 0) rfl))
    (pss_cons (ps_while PassesOwn.never (PW.pt (pw_and (pt_cmpR op_lt (pe_fld (pv 0) rfl) (pe_callB call_len_str rfl T.len PySem.boot_len (pa_cons (pe_fld (pv 0) rfl) pa_nil)) (nomark _)) (pw_and1 (pt_val (pe_callF (i := 1) K GX hr rfl (Or.inl rfl) bX pass0 (pa_cons (pe_ix ix_str (pe_fld (pv 0) rfl) (pe_fld (pv 0) rfl) (fun _ _ => rfl)) pa_nil))))))
      (pss_one (ps_fldaug (pv 0) pe_int in_add)))
    (pss_one (ps_ret (pe_slice sl_str (pe_fld (pv 0) rfl) (po_some (pv 2)) (po_some (pe_fld (pv 0) rfl))))))), ?_⟩
  simpa only [tFld, tCallF]
  refine ⟨C, dx, _, hr', cl, n2, _, sc_at z i, wWh C dx r g z i l1 H, ⟨_, 0, rfl, Nat.zero_le _, rfl, SameX.refl, by simpa using hr'⟩, ?_⟩
  rintro m σ L ⟨k, rfl, hk, rfl, sX, hL⟩
  simpa only [tFld, tCallF, sFldAug, rAdd]
  refine ⟨C, dx, _, hL, cl, n2, _, sc_at z _, C, dx, _, hL, cl, n1, _, sc_line z _, z, rfl, Nat.le_trans hz (by decide), _, rfl, ?_⟩
  have hlen : z.length = i + l1.length + l2.length := by
    have := congrArg List.length hd
    rw [List.length_drop, slen, List.length_append] at this
    omega
  have hcut : cutL (cs z) (some (i : Int)) (some ((i + l1.length : Nat) : Int)) = l1 := by
    rw [cutL_nat _ (Nat.le_add_right _ _), hd, Nat.add_sub_cancel_left, List.take_left]
  have hat : ∀ c, (cs z)[i + k]? = some c → (l1 ++ l2)[k]? = some c := fun c e => by rw [← hd, List.getElem?_drop]; exact e
  refine ite2 (fun c => ⟨fn_sameX hf hr' sX, C, dx, _, hL, cl, n1, _, sc_line z _, C, dx, _, hL, cl, n2, _, sc_at z _, ?_⟩) (fun c => ?_)
  · have c' : i + k < z.length := by have := of_decide_eq_true c; omega
    have hc : (cs z)[i + k]? = some ((cs z)[i + k]'(by rw [slen]; exact c')) := List.getElem?_eq_getElem _
    generalize (cs z)[i + k]'(by rw [slen]; exact c') = c0 at hc
    have hc2 := hat c0 hc
    refine ⟨z, rfl, _, rfl, Nat.le_trans hz (by decide), c0, atI_nat hc, fn_sameX hf hr' sX, ha c0 L _ _ fun L' s' => ⟨_, rfl, ?_⟩⟩
    have hL' : L' r = some (.ins C dx (sc z ((i + k : Nat) : Int))) := s' _ _ hL
    have sX' : SameX r H L' := sX.trans (SameX.of s')
    by_cases hkl : k < l1.length
    · rw [List.getElem?_append_left hkl] at hc2
      rw [h1 c0 (List.mem_of_getElem? hc2), if_pos rfl]
      refine ⟨_, fun _ _ h => h, C, dx, _, hL', cl, n2, _, sc_at z _, _, rfl, dx, _, hL', (by show 2 < 1000; decide), l1.length - (k + 1), by omega, k + 1, rfl, hkl, rfl, sX'.upd _, ?_⟩
      rw [upd_same, sc_put]
      rfl
    · have hke : k = l1.length := by omega
      subst hke
      rw [List.getElem?_append_right (Nat.le_refl _), Nat.sub_self] at hc2
      rw [h2 c0 (by rw [List.head?_eq_getElem?]; exact hc2), if_neg Bool.false_ne_true]
      refine ⟨C, dx, _, hL', cl, n1, _, sc_line z _, C, dx, _, hL', cl, n2, _, sc_at z _, _, rfl, z, rfl, Nat.le_trans hz (by decide), ?_⟩
      rw [hcut]
      exact q _ sX' hL'
  · have c' : z.length ≤ i + k := by
      have : ¬ ((i + k : Nat) : Int) < z.length := fun h => c (decide_eq_true h)
      omega
    have hke : k = l1.length := by omega
    subst hke
    refine ⟨C, dx, _, hL, cl, n1, _, sc_line z _, C, dx, _, hL, cl, n2, _, sc_at z _, _, rfl, z, rfl, Nat.le_trans hz (by decide), ?_⟩
    rw [hcut]
    exact q _ sX hL
theorem drop_add {z : Str} {i : Nat} {l m : List Nat} (h : (cs z).drop i = l ++ m) (hi : i ≤ z.length) : (cs z).drop (i + l.length) = m ∧ i + l.length + m.length = z.length := by
  refine ⟨?_, ?_⟩
  · rw [← List.drop_drop, h, List.drop_left]
  · have := congrArg List.length h
    rw [List.length_drop, slen, List.length_append] at this
    omega
theorem fn_upd {H : Hp} {p g : Addr} {o : HO} (h : IsFn K H g) (hp : H p = none ∨ ∃ xs, H p = some (.lst xs)) : IsFn K (upd H p o) g := by
  rcases h with h | ⟨oc, od, fd, sl, e⟩
  · exact .inl h
  · refine .inr ⟨oc, od, fd, sl, ?_⟩
    rw [upd_ne fun q => by rw [q] at e; rcases hp with z | ⟨xs, z⟩ <;> rw [z] at e <;> cases e]
    exact e
theorem deeps_snoc {H : Hp} : ∀ {ds : List DV} {xs : List V} {d : DV} {v : V}, DeepTs H ds xs → DeepT H d v → DeepTs H (ds ++ [d]) (xs ++ [v])
  | [], xs, d, v, h, hv => by
    rw [DeepTs] at h; subst h
    show DeepTs H [d] [v]
    rw [DeepTs]
    exact ⟨v, [], rfl, hv, by rw [DeepTs]⟩
  | e :: ds, xs, d, v, h, hv => by
    rw [DeepTs] at h
    obtain ⟨y, ys, rfl, h1, h2⟩ := h
    show DeepTs H (e :: (ds ++ [d])) (y :: (ys ++ [v]))
    rw [DeepTs]
    exact ⟨y, ys ++ [v], rfl, h1, deeps_snoc h2 hv⟩
end
theorem fn_ext {K : PySem.W.Frag} {H H' : Hp} {r T f C dx : Addr} {fs : List (Str × V)} {ps : Array Value} (h : IsFn K H f) (hr : H r = some (.ins C dx fs)) (hT : H T = some (.tbl ps)) (s : ExtT r T H H') : IsFn K H' f := by
  rcases h with h | ⟨oc, od, fd, sl, e⟩
  · exact .inl h
  · exact .inr ⟨oc, od, fd, sl, s _ _ e (fun q => by rw [q, hr] at e; cases e) fun q => by rw [q, hT] at e; cases e⟩
abbrev st (l : List Nat) : Str := ⟨l.toArray⟩
theorem cs_st (l : List Nat) : cs (st l) = l := rfl
theorem ln_st (l : List Nat) : (st l).length = l.length := by rw [← slen]
theorem nb_t {P : Prop} [Decidable P] (h : (!decide P) = true) : ¬ P := fun p => by rw [decide_eq_true p] at h; cases h
theorem nb_f {P : Prop} [Decidable P] (h : ¬ (!decide P) = true) : P := Classical.byContradiction fun p => h (by rw [decide_eq_false p]; rfl)
theorem tw_all {p : Nat → Bool} : ∀ {l : List Nat} {c : Nat}, c ∈ l.takeWhile p → p c = true
  | [], c, h => by cases h
  | a :: l, c, h => by
    rw [List.takeWhile_cons] at h
    split at h
    · rename_i e
      rcases List.mem_cons.mp h with rfl | h
      · exact e
      · exact tw_all h
    · cases h
theorem dw_head {p : Nat → Bool} : ∀ {l : List Nat} {c : Nat}, (l.dropWhile p).head? = some c → p c = false
  | [], c, h => by cases h
  | a :: l, c, h => by
    rw [List.dropWhile_cons] at h
    split at h
    · exact dw_head h
    · rename_i e
      cases (Option.some.inj h)
      exact Bool.eq_false_iff.mpr e
theorem tw_dw (p : Nat → Bool) (l : List Nat) : l = l.takeWhile p ++ l.dropWhile p := List.takeWhile_append_dropWhile.symm
def tk (p : Nat → Bool) (m : Nat) (l : List Nat) : Option (Str × List Nat) := if 1 ≤ (l.takeWhile p).length ∧ (l.takeWhile p).length ≤ m then some (st (l.takeWhile p), l.dropWhile p) else none
theorem run_at {p : Nat → Bool} {z : Str} {i : Nat} (hi : i ≤ z.length) : (cs z).drop (i + (((cs z).drop i).takeWhile p).length) = ((cs z).drop i).dropWhile p ∧ i + (((cs z).drop i).takeWhile p).length ≤ z.length := by
  obtain ⟨h1, h2⟩ := drop_add (tw_dw p ((cs z).drop i)) hi
  exact ⟨h1, by omega⟩
def spTk (C NT T : Addr) (f : List Nat → Option (Str × List Nat)) : Sp := fun vs H Q E => ∃ (r dx : Addr) (z : Str) (i : Nat), vs = [.ref r] ∧ H r = some (.ins C dx (sc z (i : Nat))) ∧ i ≤ z.length ∧ z.length ≤ 400 ∧
  (∀ (u : Str) (j : Nat), i ≤ j → j ≤ z.length → f ((cs z).drop i) = some (u, (cs z).drop j) → ∀ H', SameX r H H' → H' r = some (.ins C dx (sc z (j : Nat))) → Q (.str u) H') ∧ (f ((cs z).drop i) = none → BadT NT r T H E)
theorem okNm_st (l : List Nat) : okNm (st (l.takeWhile lowC)) = decide (1 ≤ (l.takeWhile lowC).length ∧ (l.takeWhile lowC).length ≤ 12) := by
  unfold okNm
  rw [ln_st]
  have : (st (l.takeWhile lowC)).cps.toList.all lowC = true := List.all_eq_true.mpr fun c m => tw_all m
  rw [this, Bool.and_true]
theorem okWd_st (l : List Nat) : okWd (st (l.takeWhile wC)) = decide (0 < (l.takeWhile wC).length) := by
  unfold okWd
  rw [ln_st]
  have : (st (l.takeWhile wC)).cps.toList.all wC = true := List.all_eq_true.mpr fun c m => tw_all m
  rw [this, Bool.and_true]
def fg (n : Nat) : Str := (toString (n : Int) : String)
theorem fg_inj : ∀ a < 21, ∀ b < 21, 1 ≤ a → 1 ≤ b → fg a = fg b → a = b := by decide +kernel
theorem fg_fig : ∀ a < 21, 1 ≤ a → (cs (fg a)).all figC = true ∧ 0 < (cs (fg a)).length ∧ (cs (fg a)).length ≤ 2 := by decide +kernel
def widO (u : List Nat) : Option Nat := (List.range 21).find? fun n => decide (1 ≤ n) && decide (cs (fg n) = u)
theorem wid_some {u : Str} {n : Nat} (h1 : 1 ≤ n) (h2 : n ≤ 20) (e : u = fg n) : widO (cs u) = some n := by
  unfold widO
  cases h : (List.range 21).find? fun n => decide (1 ≤ n) && decide (cs (fg n) = cs u) with
  | none =>
    have := List.find?_eq_none.mp h n (List.mem_range.mpr (by omega))
    rw [e] at this
    simp [h1] at this
  | some m =>
    have a1 := List.find?_some h
    have a2 := List.mem_range.mp (List.mem_of_find?_eq_some h)
    simp only [Bool.and_eq_true, decide_eq_true_eq] at a1
    have := fg_inj m a2 n (by omega) a1.1 h1 (by rw [← e]; exact sExt a1.2)
    rw [this]
theorem wid_none {u : Str} (h : ∀ n, 1 ≤ n → n ≤ 20 → u ≠ fg n) : widO (cs u) = none := by
  unfold widO
  refine List.find?_eq_none.mpr fun n m e => ?_
  have hm := List.mem_range.mp m
  simp only [Bool.and_eq_true, decide_eq_true_eq] at e
  exact h n e.1 (by omega) (sExt e.2.symm)
theorem wid_is {u : Str} {n : Nat} (h : widO (cs u) = some n) : 1 ≤ n ∧ n ≤ 20 ∧ u = fg n := by
  unfold widO at h
  have a1 := List.find?_some h
  have a2 := List.mem_range.mp (List.mem_of_find?_eq_some h)
  simp only [Bool.and_eq_true, decide_eq_true_eq] at a1
  exact ⟨a1.1, by omega, sExt a1.2.symm⟩
section
variable {P : Program} {w : World} {K : PySem.W.Frag} {mg : Str → Option Value} {base : Heap} {f : Addr} {fd : FuncData} {C : Addr}
theorem scDp : FnScope ["deep"] ["deep"] (defScope sDp) := ⟨rfl, rfl, rfl, by decide +kernel, rfl, by decide +kernel, by decide +kernel⟩
theorem ok_dp (F : Fun K "look_at_depth" "look_at_depth" sDp f fd) (T : Txt mg) : FnOk P w K mg base CX0 1 f fd ["deep"] (fun vs H Q _ => ∃ d : Int, vs = [.int d] ∧ d ≤ 60 ∧ Q .non H) := by
  refine F.ok scDp (fun vs H Q E h => ?_) (fun cdv A outer s H vs Q E hr h => ?_)
  · obtain ⟨d, rfl, _⟩ := h
    rfl
  obtain ⟨d, rfl, hd, q⟩ := h
  obtain ⟨tM, hMD⟩ := T.mDeep
  refine ⟨_, (pss_one (ps_if (pt_cmpR op_gt (pv 0) (pe_gint rfl hMD) (nomark _)) (pss_one ps_never) pss_nil)), ?_⟩
  simpa only [and_self]
  rw [decide_eq_false (by omega)]
  exact iteF q
theorem scNN : FnScope ["scan", "name"] ["scan"] (defScope sNN) := ⟨rfl, rfl, rfl, by decide +kernel, rfl, by decide +kernel, by decide +kernel⟩
theorem ok_nn {gw gs gn NT FE T' : Addr} {dw dn : FuncData} (F : Fun K "next_name" "next_name" sNN f fd) (cl : Cls K C) (xc : XCls0 K NT FE) (kX : PySem.W.keepIn K (.ref NT) = true) (mX : mg "NoText" = some (.ref NT)) (GWh : FnOk P w K mg base CX0 3 gw dw ["self", "is_wanted"] (spWh K C gs lowC)) (bWh : Binds K dw ["self", "is_wanted"] []) (mWh : Meth K C "signs_while" gw) (mS : mg "is_small_letter" = some (.ref gs)) (fS : PySem.W.fnIn K gs = true)
    (GN : FnOk P w K mg base CX0 2 gn dn ["text"] spName) (bN : Binds K dn ["text"] []) (kN : PySem.W.keepIn K (.ref gn) = true) (mN : mg "is_name" = some (.ref gn)) : FnOk P w K mg base (CXe P w) 4 f fd ["scan"] (spTk C NT T' (tk lowC 12)) := by
  refine F.okX scNN (fun vs H Q E h => ?_) (fun cdv A outer s H vs Q E hr h => ?_)
  · obtain ⟨r, dx, z, i, rfl, _⟩ := h
    rfl
  obtain ⟨r, dx, z, i, rfl, hr', hi, hz, q1, q2⟩ := h
  have hr2 : Room 2 _ := hr.mono (by decide)
  obtain ⟨e1, e2⟩ := run_at (p := lowC) hi
  refine ⟨_, (pss_cons (ps_set (i := 1) scNN.nd rfl (Or.inl rfl) (pe_meth (pv 0) cl mWh GWh hr bWh .nil pass0 (pa_cons (pe_gref rfl mS) pa_nil)))
    (pss_cons (ps_if (pt_not (pt_val (pe_call GN hr2 rfl mN kN bN .nil pass0 (pa_cons (pv 1) pa_nil)))) (pss_one (ps_raise0 xc kX rfl mX (pa_cons pe_str pa_nil))) pss_nil)
    (pss_one (ps_ret (pv 1))))), ?_⟩
  simpa only [tMeth]
  refine ⟨dx, _, hr', rfl, ⟨r, dx, z, i, _, _, rfl, .inl fS, hr', hi, by omega, tw_dw lowC _, fun c m => tw_all m, fun c m => dw_head m, fun L sX hL => ?_⟩⟩
  simpa only [tRaise0]
  refine ⟨_, rfl, by rw [ln_st]; omega, fun L' s' => ?_⟩
  rw [okNm_st]
  refine ⟨_, rfl, ite2 (fun c => ?_) (fun c => ?_)⟩
  · refine ((q2 ?_).onX (sX.trans (SameX.of s')) (s' _ _ hL)).raise
    unfold tk
    rw [if_neg (nb_t c)]
  · refine q1 _ _ (Nat.le_add_right _ _) e2 ?_ _ (sX.trans (SameX.of s')) (s' _ _ hL)
    unfold tk
    rw [if_pos (nb_f c), e1]
theorem scNW : FnScope ["scan", "word"] ["scan"] (defScope sNW) := ⟨rfl, rfl, rfl, by decide +kernel, rfl, by decide +kernel, by decide +kernel⟩
theorem ok_nw {gw gi NT FE T' : Addr} {dw di : FuncData} (F : Fun K "next_word" "next_word" sNW f fd) (cl : Cls K C) (xc : XCls0 K NT FE) (kX : PySem.W.keepIn K (.ref NT) = true) (mX : mg "NoText" = some (.ref NT)) (GWh : FnOk P w K mg base CX0 3 gw dw ["self", "is_wanted"] (spWh K C gi wC)) (bWh : Binds K dw ["self", "is_wanted"] []) (mWh : Meth K C "signs_while" gw) (fW : PySem.W.fnIn K gi = true)
    (GW : FnOk P w K mg base CX0 2 gi di ["text"] spIW) (bW : Binds K di ["text"] []) (kW : PySem.W.keepIn K (.ref gi) = true) (mW : mg "is_word" = some (.ref gi)) : FnOk P w K mg base (CXe P w) 4 f fd ["scan"] (spTk C NT T' (tk wC 400)) := by
  refine F.okX scNW (fun vs H Q E h => ?_) (fun cdv A outer s H vs Q E hr h => ?_)
  · obtain ⟨r, dx, z, i, rfl, _⟩ := h
    rfl
  obtain ⟨r, dx, z, i, rfl, hr', hi, hz, q1, q2⟩ := h
  have hr2 : Room 2 _ := hr.mono (by decide)
  obtain ⟨e1, e2⟩ := run_at (p := wC) hi
  refine ⟨_, (pss_cons (ps_set (i := 1) scNW.nd rfl (Or.inl rfl) (pe_meth (pv 0) cl mWh GWh hr bWh .nil pass0 (pa_cons (pe_gref rfl mW) pa_nil)))
    (pss_cons (ps_if (pt_not (pt_val (pe_call GW hr2 rfl mW kW bW .nil pass0 (pa_cons (pv 1) pa_nil)))) (pss_one (ps_raise0 xc kX rfl mX (pa_cons pe_str pa_nil))) pss_nil)
    (pss_one (ps_ret (pv 1))))), ?_⟩
  simpa only [tMeth]
  refine ⟨dx, _, hr', rfl, ⟨r, dx, z, i, _, _, rfl, .inl fW, hr', hi, by omega, tw_dw wC _, fun c m => tw_all m, fun c m => dw_head m, fun L sX hL => ?_⟩⟩
  simpa only [tRaise0]
  refine ⟨_, rfl, by rw [ln_st]; omega, fun L' s' => ?_⟩
  rw [okWd_st]
  refine ⟨_, rfl, ite2 (fun c => ?_) (fun c => ?_)⟩
  · refine ((q2 ?_).onX (sX.trans (SameX.of s')) (s' _ _ hL)).raise
    have c' := nb_t c
    unfold tk
    rw [if_neg (by omega)]
  · refine q1 _ _ (Nat.le_add_right _ _) e2 ?_ _ (sX.trans (SameX.of s')) (s' _ _ hL)
    have c' := nb_f c
    unfold tk
    rw [if_pos (by omega), e1]
theorem scAW : FnScope ["scan", "word"] ["scan"] (defScope sAW) := ⟨rfl, rfl, rfl, by decide +kernel, rfl, by decide +kernel, by decide +kernel⟩
theorem ok_aw {g NT FE T' : Addr} {gd : FuncData} (F : Fun K "next_asked_word" "next_asked_word" sAW f fd) (T : Txt mg) (xc : XCls0 K NT FE) (kX : PySem.W.keepIn K (.ref NT) = true) (mX : mg "NoText" = some (.ref NT)) (GNW : FnOk P w K mg base (CXe P w) 4 g gd ["scan"] (spTk C NT T' (tk wC 400))) (bNW : Binds K gd ["scan"] []) (kNW : PySem.W.keepIn K (.ref g) = true) (mNW : mg "next_word" = some (.ref g)) : FnOk P w K mg base (CXe P w) 5 f fd ["scan"] (spTk C NT T' (tk wC 40)) := by
  refine F.okX scAW (fun vs H Q E h => ?_) (fun cdv A outer s H vs Q E hr h => ?_)
  · obtain ⟨r, dx, z, i, rfl, _⟩ := h
    rfl
  obtain ⟨r, dx, z, i, rfl, hr', hi, hz, q1, q2⟩ := h
  obtain ⟨tM, hMW⟩ := T.mWord
  obtain ⟨e1, e2⟩ := run_at (p := wC) hi
  refine ⟨_, (pss_cons (ps_set (i := 1) scAW.nd rfl (Or.inl rfl) (pe_call GNW hr rfl mNW kNW bNW .nil passX (pa_cons (pv 0) pa_nil)))
    (pss_cons (ps_if (pt_cmpR op_gt (pe_callB call_len_str rfl T.len PySem.boot_len (pa_cons (pv 1) pa_nil)) (pe_gint rfl hMW) (nomark _)) (pss_one (ps_raise0 xc kX rfl mX (pa_cons pe_str pa_nil))) pss_nil)
    (pss_one (ps_ret (pv 1))))), ?_⟩
  simpa only [and_self]
  refine ⟨r, dx, z, i, rfl, hr', hi, hz, fun u j h1 h2 e L sX hL => ?_, fun e => q2 ?_⟩
  · simpa only [tRaise0]
    unfold tk at e q1 q2
    split at e
    · rename_i c0
      obtain ⟨rfl, e3⟩ := Prod.mk.inj (Option.some.inj e)
      rw [ln_st]
      refine ⟨small (by omega), ite2 (fun c => ?_) (fun c => ?_)⟩
      · have c' := of_decide_eq_true c
        exact ((q2 (if_neg (by omega))).onX sX hL).raise
      · have c' := of_decide_eq_false (Bool.eq_false_iff.mpr c)
        refine q1 _ j h1 h2 ?_ _ sX hL
        rw [if_pos (by omega), e3]
    · cases e
  · unfold tk at e ⊢
    split at e
    · cases e
    · rw [if_neg (by omega)]
theorem scWi : FnScope ["shown", "width"] ["shown"] (defScope sWi) := ⟨rfl, rfl, rfl, by decide +kernel, rfl, by decide +kernel, by decide +kernel⟩
def Bad0 (NT : Addr) (H : Hp) (E : XK) : Prop := ∀ e H', Same H H' → H e = none → H' e = some (XO e (.ref NT) none) → E (.ref e) none H'
def spWi (NT : Addr) : Sp := fun vs H Q E => ∃ u : Str, vs = [.str u] ∧ (∀ n : Nat, widO (cs u) = some n → Q (.int (n : Int)) H) ∧ (widO (cs u) = none → Bad0 NT H E)
theorem ok_wi {NT FE : Addr} (F : Fun K "width_of" "width_of" sWi f fd) (T : Txt mg) (xc : XCls0 K NT FE) (kX : PySem.W.keepIn K (.ref NT) = true) (mX : mg "NoText" = some (.ref NT)) : FnOk P w K mg base (CXe P w) 1 f fd ["shown"] (spWi NT) := by
  refine F.okX scWi (fun vs H Q E h => ?_) (fun cdv A outer s H vs Q E hr h => ?_)
  · obtain ⟨u, rfl, _⟩ := h
    rfl
  obtain ⟨u, rfl, q1, q2⟩ := h
  obtain ⟨tM, hMWi⟩ := T.mWid
  refine ⟨_, (pss_cons (ps_for PassesOwn.leaving rfl (pi_range2 rfl T.range (pa_cons pe_int (pa_cons (pe_op op_add (pe_gint rfl hMWi) pe_int) pa_nil))) (pg_name (i := 1) scWi.nd rfl (Or.inl rfl))
      (pss_one (ps_if (pt_cmpR op_eq (pv 0) (pe_callTy call_strI rfl T.str (by decide +kernel) (pa_cons (pv 1) pa_nil)) (nomark _)) (pss_one (ps_ret (pv 1))) pss_nil)))
    (pss_one (ps_raise0 xc kX rfl mX (pa_cons pe_str pa_nil)))), ?_⟩
  simpa only [tRaise0]
  refine ⟨by decide, by decide, by decide, by decide, ?_⟩
  refine forW_range (lo := 1) (n := 20) (fun i σ L => ∃ v1 : Option V, σ = [some (.str u), v1] ∧ L = H ∧ ∀ n, 1 ≤ n → n ≤ i → u ≠ fg n) ⟨none, rfl, rfl, fun n h1 h2 => by omega⟩ ?_ ?_
  · rintro i σ L hi ⟨v1, rfl, rfl, hin⟩
    simpa only [and_self]
    have e : (1 : Int) + (i : Int) = ((i + 1 : Nat) : Int) := by omega
    refine ⟨?_, ?_⟩
    · rw [e, Int.natAbs_natCast]
      exact Nat.lt_of_le_of_lt (Nat.log2_le_self _) (by omega)
    rw [e]
    refine ite2 (fun c => ?_) (fun c => ?_)
    · have c' : u = fg (i + 1) := of_decide_eq_true c
      exact q1 (i + 1) (wid_some (by omega) (by omega) c')
    · intro n h1 h2 z
      by_cases hn : n = i + 1
      · subst hn; exact c (decide_eq_true z)
      · exact hin n h1 (by omega) z
  · rintro σ L ⟨v1, rfl, rfl, hin⟩
    simpa only [tRaise0]
    exact q2 (wid_none hin)
end
section
variable {α : Type}
def lstA (y : List Nat) (g : List Nat → Option (α × List Nat)) : Nat → List α → List Nat → Option (List α × List Nat)
  | 0, _, _ => none
  | n + 1, acc, l => match g l with
    | none => none
    | some x => if y.isPrefixOf x.2 then lstA y g n (acc ++ [x.1]) (x.2.drop y.length) else some (acc ++ [x.1], x.2)
theorem lstA_none {y : List Nat} {g : List Nat → Option (α × List Nat)} {n : Nat} {acc : List α} {l : List Nat} (h : g l = none) : lstA y g n acc l = none := by
  cases n with
  | zero => rfl
  | succ n => rw [lstA, h]
theorem lstA_some {y : List Nat} {g : List Nat → Option (α × List Nat)} {n : Nat} {acc : List α} {l r : List Nat} {a : α} (h : g l = some (a, r)) : lstA y g (n + 1) acc l = if y.isPrefixOf r then lstA y g n (acc ++ [a]) (r.drop y.length) else some (acc ++ [a], r) := by
  rw [lstA, h]
def PF (C NT T : Addr) (tb : Hp → Prop) (ok : List Nat → Prop) (g : List Nat → Option (α × List Nat)) (dv : α → DV) (r : Addr) (H : Hp) (Q : VK) (E : XK) : Prop :=
  ∃ (dx : Addr) (z : Str) (i : Nat), H r = some (.ins C dx (sc z (i : Nat))) ∧ i ≤ z.length ∧ z.length ≤ 400 ∧ ok ((cs z).drop i) ∧ tb H ∧
    (∀ (a : α) (j : Nat), i ≤ j → j ≤ z.length → g ((cs z).drop i) = some (a, (cs z).drop j) → ∀ v H', ExtT r T H H' → H' r = some (.ins C dx (sc z (j : Nat))) → tb H' → DeepT (nw H H') (dv a) v → Q v H') ∧ (g ((cs z).drop i) = none → BadT NT r T H E)
def spNL (K : PySem.W.Frag) (C NT T fn : Addr) (tb : Hp → Prop) (ok : List Nat → Prop) (g : List Nat → Option (α × List Nat)) (dv : α → DV) (spO : Sp) : Sp := fun vs H Q E => ∃ (r dx : Addr) (z y : Str) (i : Nat), vs = [.ref r, .str y, .ref fn] ∧ IsFn K H fn ∧ H r = some (.ins C dx (sc z (i : Nat))) ∧ i ≤ z.length ∧ z.length ≤ 400 ∧
  (∀ H1 Q1 E1, IsFn K H1 fn → PF C NT T tb ok g dv r H1 Q1 E1 → spO [.ref r] H1 Q1 E1) ∧ (∀ j, i ≤ j → ok ((cs z).drop j)) ∧ 1 ≤ y.length ∧ y.length ≤ 1000 ∧ tb H ∧
  (∀ (as : List α) (j : Nat), i ≤ j → j ≤ z.length → as.length ≤ 401 → lstA (cs y) g 401 [] ((cs z).drop i) = some (as, (cs z).drop j) → ∀ p xs H', ExtT r T H H' → H' r = some (.ins C dx (sc z (j : Nat))) → tb H' → H p = none → H' p = some (.lst xs) → DeepTs (nw H H') (as.map dv) xs → Q (.ref p) H') ∧
  (lstA (cs y) g 401 [] ((cs z).drop i) = none → BadT NT r T H E)
end
section
variable {P : Program} {w : World} {K : PySem.W.Frag} {mg : Str → Option Value} {base : Heap} {f : Addr} {fd : FuncData} {C : Addr} {α : Type}
theorem scNL : FnScope ["scan", "between", "next_one", "found"] ["scan", "between", "next_one"] (defScope sNL) := ⟨rfl, rfl, rfl, by decide +kernel, rfl, by decide +kernel, by decide +kernel⟩
def wNL (K : PySem.W.Frag) (C dx r T fn : Addr) (tb : Hp → Prop) (g : List Nat → Option (α × List Nat)) (dv : α → DV) (z y : Str) (i : Nat) (H : Hp) (p : Addr) (m : Nat) (σ : St) (L : Hp) : Prop := ∃ (a n : Nat) (acc : List α) (xs : List V), m = z.length - a ∧ i ≤ a ∧ a ≤ z.length ∧ n + acc.length = 401 ∧ acc.length ≤ a + 1 ∧ σ = [some (.ref r), some (.str y), some (.ref fn), some (.ref p)] ∧ H p = none ∧ L p = some (.lst xs) ∧
  DeepTs (fun b => if b = p then none else nw H L b) (acc.map dv) xs ∧ ExtT r T H L ∧ L r = some (.ins C dx (sc z (a : Nat))) ∧ tb L ∧ IsFn K L fn ∧ lstA (cs y) g 401 [] ((cs z).drop i) = if pre y ((cs z).drop a) then lstA (cs y) g n acc ((cs z).drop (a + y.length)) else some (acc, (cs z).drop a)
theorem pre_len {y z : Str} {a : Nat} (h : pre y ((cs z).drop a) = true) (ha : a ≤ z.length) : a + y.length ≤ z.length := by
  obtain ⟨m, hm⟩ := pre_iff.mp h
  have := congrArg List.length hm
  rw [List.length_append, List.length_drop, slen, slen] at this
  omega
theorem ok_nl {fn ga T NT FE : Addr} {gd da : FuncData} {tb : Hp → Prop} {ok : List Nat → Prop} {g : List Nat → Option (α × List Nat)} {dv : α → DV} {spO : Sp} {k : Nat} {px : Str} (F : Fun K "next_list" "next_list" sNL f fd) (cl : Cls K C) (t : Tb T tb) (xc : XCls0 K NT FE) (kX : PySem.W.keepIn K (.ref NT) = true) (mX : mg "NoText" = some (.ref NT)) (GX : FnOk P w K mg base (CXe P w) (k + 2) fn gd [px] spO) (bX : Binds K gd [px] [])
    (GPa : FnOk P w K mg base CX0 2 ga da ["self", "text"] (spPas C)) (bPa : Binds K da ["self", "text"] []) (mPa : Meth K C "passes" ga) : FnOk P w K mg base (CXe P w) (k + 3) f fd ["scan", "between", "next_one"] (spNL K C NT T fn tb ok g dv spO) := by
  refine F.okX scNL (fun vs H Q E h => ?_) (fun cdv A outer s H vs Q E hr h => ?_)
  · obtain ⟨r, dx, z, y, i, rfl, _⟩ := h
    rfl
  obtain ⟨r, dx, z, y, i, rfl, hf, hr', hi, hz, hO, hok, hy1, hy2, htb, q1, q2⟩ := h
  have hrx : Room (k + 2) _ := hr
  have hr2 : Room 2 _ := hr.mono (by omega)
  refine ⟨_, (pss_cons (ps_set (i := 3) scNL.nd rfl (Or.inl rfl) (pe_lst (pa_cons (pe_callF (i := 2) K GX hrx rfl (Or.inl rfl) bX passX (pa_cons (pv 0) pa_nil)) pa_nil)))
    (pss_cons (ps_while PassesOwn.leaving (pt_val (pe_meth (pv 0) cl mPa GPa hr2 bPa .nil pass0 (pa_cons (pv 1) pa_nil)))
      (pss_one (ps_expr (bmK K PySem.F.plainAttrs_list PySem.F.slot_list_append PySem.F.type_list_append mt_append (pv 3) (pa_cons (pe_callF (i := 2) K GX hrx rfl (Or.inl rfl) bX passX (pa_cons (pv 0) pa_nil)) pa_nil)))))
    (pss_one (ps_ret (pv 3))))), ?_⟩
  simpa only [tCallF, tMeth]
  obtain ⟨ps0, hT0⟩ := t.at_ _ htb
  refine ⟨hf, hf, hO H _ _ hf ⟨dx, z, i, hr', hi, hz, hok i (Nat.le_refl _), htb, fun a j h1 h2 e v L eX hL tL dL => ⟨by decide, fun p hp => ?_⟩, fun e => q2 (lstA_none e)⟩⟩
  obtain ⟨psL, hTL⟩ := t.at_ _ tL
  have hpH : H p = none := none_ext eX hL hTL hp
  have fL : IsFn K L fn := fn_ext hf hr' hT0 eX
  have rp : r ≠ p := fun q => by rw [q, hp] at hL; cases hL
  refine ⟨wNL K C dx r T fn tb g dv z y i H p, ⟨_, j, 400, [a], [v], rfl, h1, h2, rfl, by simp, rfl, hpH, upd_same, ?_, ?_, ?_, t.put tL (xs := []) (.inr hp), fn_upd fL (.inl hp), ?_⟩, ?_⟩
  · refine DeepTs.same (H := nw H L) (fun b o e => ?_) _ _ (by show DeepTs (nw H L) [dv a] [v]; rw [DeepTs]; exact ⟨v, [], rfl, dL, by rw [DeepTs]⟩)
    obtain ⟨e1, e2⟩ := nw_some e
    have bp : b ≠ p := fun q => by rw [q, hp] at e2; cases e2
    rw [if_neg bp, nw_at e1, upd_ne bp]
    exact e2
  · intro b o e n1 n2
    have := eX b o e n1 n2
    rw [upd_ne fun q => by rw [q, hp] at this; cases this]
    exact this
  · rw [upd_ne rp]; exact hL
  · rw [lstA_some e, List.drop_drop, slen]; rfl
  rintro m σ M ⟨a, n, acc, xs, rfl, hia, ha, hn, hal, rfl, _, hMp, hDs, eM, hMr, tM, fM, hl⟩
  simpa only [tMeth, tCallF]
  refine ⟨dx, _, hMr, rfl, ⟨r, dx, z, y, a, rfl, hMr, ha, hy2, fun hpr => ⟨true, rfl, ?_⟩, fun hpr => ⟨false, rfl, ?_⟩⟩⟩
  · have hpl := pre_len hpr ha
    rw [hpr, if_pos rfl] at hl
    obtain ⟨n', rfl⟩ : ∃ n', n = n' + 1 := ⟨n - 1, by omega⟩
    have pr : p ≠ r := fun q => rp q.symm
    obtain ⟨psM, hTM⟩ := t.at_ _ tM
    have pT : p ≠ T := fun q => by rw [q, hTM] at hMp; cases hMp
    have rT : r ≠ T := fun q => by rw [q, hTM] at hMr; cases hMr
    have fM1 : IsFn K (upd M r (.ins C dx (sc z ((a + y.length : Nat) : Int)))) fn := fn_sameX fM hMr (SameX.refl.upd _)
    have tM1 : tb (upd M r (.ins C dx (sc z ((a + y.length : Nat) : Int)))) := t.sameX tM hMr (SameX.refl.upd _)
    have eM1 : ExtT r T H (upd M r (.ins C dx (sc z ((a + y.length : Nat) : Int)))) := eM.upd _
    have hTM1 : upd M r (.ins C dx (sc z ((a + y.length : Nat) : Int))) T = some (.tbl psM) := by rw [upd_ne rT.symm]; exact hTM
    rw [if_pos rfl]
    refine ⟨_, fun _ _ h => h, .inl ⟨rfl, _, SqL.of (by rw [upd_ne pr]; exact hMp)⟩, fM1, fM1, hO _ _ _ fM1 ⟨dx, z, a + y.length, upd_same, hpl, hz, hok _ (by omega), tM1, fun a2 j2 g1 g2 e v2 L2 e2 hL2 t2 dv2 => ?_, fun e => (q2 (by rw [hl, lstA_none e])).on eM1 upd_same hTM1⟩⟩
    have e3 : ExtT r T M L2 := fun b o e n1 n2 => e2 b o (by rw [upd_ne n1]; exact e) n1 n2
    have hL2p : L2 p = some (.lst xs) := e3 p _ hMp pr pT
    have hxl : xs.length = acc.length := by rw [DeepTs.length hDs, List.length_map]
    refine ⟨xs, hL2p, small (by omega), z.length - j2, by omega, j2, n', acc ++ [a2], xs ++ [v2], rfl, by omega, g2, by rw [List.length_append]; simp; omega, by rw [List.length_append]; simp; omega, rfl, hpH, upd_same, ?_, ?_, ?_, t.put t2 (.inl hL2p), fn_upd (fn_ext fM1 upd_same hTM1 e2) (.inr ⟨_, hL2p⟩), ?_⟩
    · rw [List.map_append]
      refine deeps_snoc (DeepTs.same (fun b o e => ?_) _ _ hDs) (DeepT.same (fun b o e => ?_) _ _ dv2)
      · by_cases bp : b = p
        · rw [if_pos bp] at e; cases e
        · rw [if_neg bp] at e ⊢
          obtain ⟨e1, e4⟩ := nw_some e
          have br : b ≠ r := fun q => by rw [q, hr'] at e1; cases e1
          have bT : b ≠ T := fun q => by rw [q, hT0] at e1; cases e1
          rw [nw_at e1, upd_ne bp]
          exact e3 b o e4 br bT
      · obtain ⟨e1, e4⟩ := nw_some e
        have bp : b ≠ p := fun q => by rw [q, upd_ne pr, hMp] at e1; cases e1
        have br : b ≠ r := fun q => by rw [q, upd_same] at e1; cases e1
        rw [upd_ne br] at e1
        rw [if_neg bp, nw_at (none_ext eM hMr hTM e1), upd_ne bp]
        exact e4
    · intro b o e n1 n2
      have := e3 b o (eM b o e n1 n2) n1 n2
      rw [upd_ne fun q => by rw [q, hpH] at e; cases e]
      exact this
    · rw [upd_ne rp]; exact hL2
    · rw [hl, lstA_some e, List.drop_drop, slen]; rfl
  · rw [if_neg Bool.false_ne_true]
    rw [hpr, if_neg Bool.false_ne_true] at hl
    refine q1 acc a hia ha (by omega) hl p xs M eM hMr tM hpH hMp (DeepTs.same (fun b o e => ?_) _ _ hDs)
    by_cases bp : b = p
    · rw [if_pos bp] at e; cases e
    · rw [if_neg bp] at e; exact e
end
theorem strq : ("?" : Str) = ⟨#[63]⟩ := sExt csq
theorem strst : ("*" : Str) = ⟨#[42]⟩ := sExt csst
def bare (z : Str) : Bool := !decide (63 ∈ cs z) && !decide (42 ∈ cs z)
theorem bare_of {z : Str} (h : ∀ c ∈ cs z, wC c = true) : bare z = true := by
  unfold bare
  rw [decide_eq_false fun m => by have := h _ m; exact absurd this (by decide), decide_eq_false fun m => by have := h _ m; exact absurd this (by decide)]
  rfl
theorem of_bare {z : Str} (h : ∀ c ∈ cs z, isP c = true) (b : bare z = true) : ∀ c ∈ cs z, wC c = true := fun c m => by
  unfold bare at b
  simp only [Bool.and_eq_true, Bool.not_eq_true', decide_eq_false_iff_not] at b
  have hc := h c m
  unfold isP at hc
  rw [decide_eq_false fun e => b.1 (by rw [← e]; exact m), decide_eq_false fun e => b.2 (by rw [← e]; exact m), Bool.or_false, Bool.or_false] at hc
  exact hc
theorem csb : cs (" " : Str) = [32] := by decide +kernel
theorem nw_upd {H L : Hp} {r : Addr} {o u : HO} (hr : H r = some o) : Same (nw H L) (nw H (upd L r u)) := fun b v e => by
  obtain ⟨e1, e2⟩ := nw_some e
  rw [nw_at e1, upd_ne fun q => by rw [q, hr] at e1; cases e1]
  exact e2
theorem pre_head {y : Str} {k : Nat} {l : List Nat} (h : cs y = [k]) : pre y l = true ↔ l.head? = some k := by
  unfold pre
  rw [h]
  cases l with
  | nil => simp [List.isPrefixOf]
  | cons a b => simp [List.isPrefixOf]; exact eq_comm
theorem no_pre {y : Str} {k : Nat} {l : List Nat} (h : cs y = [k]) (hl : pre y l = false) : l.head? ≠ some k := fun e => by rw [(pre_head h).mpr e] at hl; cases hl
theorem one_len {y : Str} {k : Nat} (h : cs y = [k]) : y.length = 1 := by have := congrArg List.length h; rw [slen] at this; exact this
theorem tail_at {z : Str} {i : Nat} : (cs z).drop (i + 1) = ((cs z).drop i).tail := List.tail_drop.symm
theorem head_lt {z : Str} {i k : Nat} (h : ((cs z).drop i).head? = some k) : i + 1 ≤ z.length := by
  rcases Nat.lt_or_ge i z.length with c | c
  · exact c
  · rw [List.drop_eq_nil_of_le (by rw [slen]; exact c)] at h; cases h
def rWs (c : Nat) (l : List Nat) : Option (List Str × List Nat) := match lstA [32] (tk wC 40) 401 [] l with
  | none => none
  | some x => if x.1.length ≤ 6 ∧ x.2.head? = some c then some (x.1, x.2.tail) else none
def spNWs (C NT T : Addr) (tb : Hp → Prop) : Sp := fun vs H Q E => ∃ (r dx : Addr) (z e : Str) (i c : Nat), vs = [.ref r, .str e] ∧ cs e = [c] ∧ H r = some (.ins C dx (sc z (i : Nat))) ∧ i ≤ z.length ∧ z.length ≤ 400 ∧ tb H ∧
  (∀ (ws : List Str) (j : Nat), i ≤ j → j ≤ z.length → rWs c ((cs z).drop i) = some (ws, (cs z).drop j) → ∀ v H', ExtT r T H H' → H' r = some (.ins C dx (sc z (j : Nat))) → tb H' → DeepT (nw H H') (.lst (ws.map .str)) v → Q v H') ∧ (rWs c ((cs z).drop i) = none → BadT NT r T H E)
section
variable {P : Program} {w : World} {K : PySem.W.Frag} {mg : Str → Option Value} {base : Heap} {f : Addr} {fd : FuncData} {C : Addr}
theorem scBare : FnScope ["pattern"] ["pattern"] (defScope sBare) := ⟨rfl, rfl, rfl, by decide +kernel, rfl, by decide +kernel, by decide +kernel⟩
theorem ok_bare (F : Fun K "is_bare" "is_bare" sBare f fd) : FnOk P w K mg base CX0 1 f fd ["pattern"] (fun vs H Q _ => ∃ z : Str, vs = [.str z] ∧ Q (.bl (bare z)) H) := by
  refine F.ok scBare (fun vs H Q E h => ?_) (fun cdv A outer s H vs Q E hr h => ?_)
  · obtain ⟨z, rfl, _⟩ := h
    rfl
  obtain ⟨z, rfl, q⟩ := h
  refine ⟨_, (pss_one (ps_ret (pe_and (pe_cmpR op_notin_str pe_str (pv 0) rfl) (pe_one (pe_cmpR op_notin_str pe_str (pv 0) rfl))))), ?_⟩
  simpa only [strq, strst, StrLaws.found_one]
  unfold bare at q
  refine ite2 (fun c => ?_) (fun c => ?_)
  · rw [c] at q; exact q
  · rw [Bool.eq_false_iff.mpr c] at q; exact q
theorem scNWs : FnScope ["scan", "end", "words"] ["scan", "end"] (defScope sNWs) := ⟨rfl, rfl, rfl, by decide +kernel, rfl, by decide +kernel, by decide +kernel⟩
theorem ok_nws {gl ga go T NT FE : Addr} {dl dO : FuncData} {tb : Hp → Prop} (F : Fun K "next_words" "next_words" sNWs f fd) (Tx : Txt mg) (cl : Cls K C) (t : Tb T tb) (xc : XCls0 K NT FE) (kX : PySem.W.keepIn K (.ref NT) = true) (mX : mg "NoText" = some (.ref NT)) (GNL : FnOk P w K mg base (CXe P w) 6 gl dl ["scan", "between", "next_one"] (spNL K C NT T ga tb (fun _ => True) (tk wC 40) DV.str (spTk C NT T (tk wC 40)))) (bNL : Binds K dl ["scan", "between", "next_one"] []) (kNL : PySem.W.keepIn K (.ref gl) = true) (mNL : mg "next_list" = some (.ref gl)) (mAW : mg "next_asked_word" = some (.ref ga)) (fA : PySem.W.fnIn K ga = true)
    (GPO : FnOk P w K mg base (CXe P w) 3 go dO ["self", "text"] (spPO C NT T)) (bPO : Binds K dO ["self", "text"] []) (mPO : Meth K C "pass_over" go) : FnOk P w K mg base (CXe P w) 7 f fd ["scan", "end"] (spNWs C NT T tb) := by
  refine F.okX scNWs (fun vs H Q E h => ?_) (fun cdv A outer s H vs Q E hr h => ?_)
  · obtain ⟨r, dx, z, e, i, c, rfl, _⟩ := h
    rfl
  obtain ⟨r, dx, z, e, i, c, rfl, he, hr', hi, hz, htb, q1, q2⟩ := h
  obtain ⟨tM, hMWs⟩ := Tx.mWords
  have T := Tx
  have hr3 : Room 3 _ := hr.mono (by decide)
  refine ⟨_, (pss_cons (ps_set (i := 2) scNWs.nd rfl (Or.inl rfl) (pe_call GNL hr rfl mNL kNL bNL .nil passX (pa_cons (pv 0) (pa_cons pe_str (pa_cons (pe_gref rfl mAW) pa_nil)))))
    (pss_cons (ps_if (pt_cmpR op_gt (pe_callB (lenK K) rfl T.len PySem.boot_len (pa_cons (pv 2) pa_nil)) (pe_gint rfl hMWs) (nomark _)) (pss_one (ps_raise0 xc kX rfl mX (pa_cons pe_str pa_nil))) pss_nil)
    (pss_cons (ps_expr (pe_meth (pv 0) cl mPO GPO hr3 bPO .nil passX (pa_cons (pv 1) pa_nil)))
    (pss_one (ps_ret (pv 2)))))), ?_⟩
  simpa only [tMeth]
  refine ⟨r, dx, z, " ", i, rfl, .inl fA, hr', hi, hz, ?_, fun _ _ => trivial, by decide, by decide, htb, fun ws j h1 h2 hwl el p xs L eX hL tL hpH hLp ds => ?_, fun el => q2 ?_⟩
  · intro H1 Q1 E1 _ ⟨dx1, z1, i1, g1, g2, g3, _, g5, g6, g7⟩
    exact ⟨r, dx1, z1, i1, rfl, g1, g2, g3, fun u j a b e' H' s hL => g6 u j a b e' (.str u) H' (ExtT.of s) hL (t.sameX g5 g1 s) (by rw [DeepT]), g7⟩
  · rw [csb] at el
    have dL : DeepT (nw H L) (.lst (ws.map .str)) (.ref p) := by rw [DeepT]; exact ⟨p, xs, rfl, by rw [nw_at hpH]; exact hLp, ds⟩
    have hxl : xs.length = ws.length := by rw [DeepTs.length ds, List.length_map]
    obtain ⟨psL, hTL⟩ := t.at_ _ tL
    have rw1 : ∀ R, R = rWs c ((cs z).drop i) → R = if ws.length ≤ 6 ∧ ((cs z).drop j).head? = some c then some (ws, ((cs z).drop j).tail) else none := fun R hR => by rw [hR]; unfold rWs; rw [el]
    have rw2 := rw1 _ rfl
    simpa only [tMeth, tRaise0]
    refine ⟨xs, .inl (SqL.of hLp), ite2 (fun c0 => ?_) (fun c0 => ?_)⟩
    · have c' := of_decide_eq_true c0
      rw [hxl] at c'
      exact ((q2 (by rw [rw2, if_neg (by omega)])).on eX hL hTL).raise
    · have c' := of_decide_eq_false (Bool.eq_false_iff.mpr c0)
      rw [hxl] at c'
      refine ⟨dx, _, hL, rfl, ⟨r, dx, z, e, j, rfl, hL, h2, by rw [one_len he]; decide, fun hp => ?_, fun hp => ?_⟩⟩
      · have hh := (pre_head he).mp hp
        rw [one_len he]
        refine q1 ws (j + 1) (by omega) (head_lt hh) (by rw [rw2, if_pos ⟨by omega, hh⟩, tail_at]) _ _ (eX.upd _) upd_same (t.sameX tL hL (SameX.refl.upd _)) (DeepT.same (nw_upd hr') _ _ dL)
      · exact (q2 (by rw [rw2, if_neg fun h => no_pre he hp h.2])).on eX hL hTL
  · rw [csb] at el
    unfold rWs
    rw [el]
end
inductive Lf where
  | word (z : Str) | like (z : Str) | row (ws : List Str) | nc (b : Bool) (n : Nat) (ws : List Str)
def op1 (b : Bool) : Nat := if b then 60 else 91
def cl1 (b : Bool) : Nat := if b then 62 else 93
def ncN (b : Bool) : Str := if b then "near" else "chain"
def Lf.dv (f : Str) : Lf → DV
  | .word z => .tup [.str "word", .str f, .str z]
  | .like z => .tup [.str "like", .str f, .str z]
  | .row ws => .tup [.str "row", .str f, .lst (ws.map .str)]
  | .nc b n ws => .tup [.str (ncN b), .str f, .int n, .lst (ws.map .str)]
inductive Qn where
  | lf (f : Str) (a : Lf) | nt (q : Qn) | bo (b : Bool) (qs : List Qn)
def sg (b : Bool) : Nat := if b then 38 else 124
def sgS (b : Bool) : Str := if b then "&" else "|"
def boN (b : Bool) : Str := if b then "both" else "one"
mutual
def dvQ : Qn → DV
  | .lf f a => a.dv f
  | .nt q => .tup [.str "not", dvQ q]
  | .bo b qs => .tup [.str (boN b), .lst (dvQs qs)]
def dvQs : List Qn → List DV
  | [] => []
  | q :: qs => dvQ q :: dvQs qs
end
theorem dvQs_map : ∀ qs : List Qn, dvQs qs = qs.map dvQ
  | [] => by rw [dvQs]; rfl
  | q :: qs => by rw [dvQs, dvQs_map qs]; rfl
def rFd (l : List Nat) : Option (Str × List Nat) := if l.head? = some 42 then some ("*", l.tail) else tk lowC 12 l
def rNc (b : Bool) (u l : List Nat) : Option (Lf × List Nat) := match widO u with
  | none => none
  | some m => match rWs (cl1 b) l with
    | none => none
    | some x => some (.nc b m x.1, x.2)
def rAk (tl : List Nat → Option (Str × List Nat)) (l : List Nat) : Option (Lf × List Nat) :=
  if l.head? = some 34 then (match rWs 34 l.tail with | none => none | some x => some (.row x.1, x.2))
  else if l.head? = some 126 then (match tl l.tail with | none => none | some x => some (.like x.1, x.2))
  else if (l.dropWhile isP).head? = some 60 then rNc true (l.takeWhile isP) (l.dropWhile isP).tail
  else if (l.dropWhile isP).head? = some 91 then rNc false (l.takeWhile isP) (l.dropWhile isP).tail
  else if 1 ≤ (l.takeWhile isP).length ∧ (l.takeWhile isP).length ≤ 40 then some (if bare (st (l.takeWhile isP)) then .word (st (l.takeWhile isP)) else .like (st (l.takeWhile isP)), l.dropWhile isP) else none
def rLf (tl : List Nat → Option (Str × List Nat)) (l : List Nat) : Option (Qn × List Nat) := match rFd l with
  | none => none
  | some x => if x.2.head? = some 58 then (match rAk tl x.2.tail with | none => none | some y => some (.lf x.1 y.1, y.2)) else none
def spNA (C NT T : Addr) (tb : Hp → Prop) : Sp := fun vs H Q E => ∃ r : Addr, vs = [.ref r] ∧ PF C NT T tb (fun _ => True) (rLf (tk wC 40)) dvQ r H Q E
theorem seq_inv {a b : TS} {D : Ends} {σ : St} {H : Hp} (Iv : St → Hp → Prop) (hb : ∀ σ' H', Iv σ' H' → b D σ' H') (ha : ∀ N : St → Hp → Prop, (∀ σ' H', Iv σ' H' → N σ' H') → a { D with nx := N } σ H) : tSeq a b D σ H := ha (b D) hb
theorem csQ : cs ("\"" : Str) = [34] := by decide +kernel
theorem csT : cs ("~" : Str) = [126] := by decide +kernel
theorem csLt : cs ("<" : Str) = [60] := by decide +kernel
theorem csLb : cs ("[" : Str) = [91] := by decide +kernel
theorem nw_mono {H M L : Hp} (h : ∀ b, M b = none → H b = none) : Same (nw M L) (nw H L) := fun b o e => by
  obtain ⟨e1, e2⟩ := nw_some e
  rw [nw_at (h b e1)]
  exact e2
theorem sameX_none {r : Addr} {H M : Hp} {o : HO} (s : SameX r H M) (hr : M r = some o) : ∀ b, M b = none → H b = none := fun b e => by
  cases h : H b with
  | none => rfl
  | some u =>
    by_cases c : b = r
    · rw [c, hr] at e; cases e
    · rw [s b u h c] at e; cases e
theorem fin_tup {r T p : Addr} {tb : Hp → Prop} {H L : Hp} {o : HO} {ds : List DV} {xs : List V} (t : Tb T tb) (e : ExtT r T H L) (hr : L r = some o) (htb : tb L) (hp : L p = none) (dv : DeepTs (nw H L) ds xs) :
    ExtT r T H (upd L p (.tup xs)) ∧ upd L p (.tup xs) r = some o ∧ tb (upd L p (.tup xs)) ∧ DeepT (nw H (upd L p (.tup xs))) (.tup ds) (.ref p) := by
  obtain ⟨ps, hT⟩ := t.at_ _ htb
  have hpH : H p = none := none_ext e hr hT hp
  refine ⟨fun b u h n1 n2 => ?_, ?_, t.put htb (xs := []) (.inr hp), ?_⟩
  · rw [upd_ne (ne_of_none h hpH)]; exact e b u h n1 n2
  · rw [upd_ne (ne_of_none hr hp)]; exact hr
  · rw [DeepT]
    refine ⟨p, xs, rfl, (by rw [nw_at hpH, upd_same]), DeepTs.same (fun b u h => ?_) _ _ dv⟩
    obtain ⟨h1, h2⟩ := nw_some h
    rw [nw_at h1, upd_ne (ne_of_none h2 hp)]
    exact h2
def kvB : List (Key × V) := [(.inr "near", .str "<>"), (.inr "chain", .str "[]")]
def brk (b : Bool) : Str := if b then "<>" else "[]"
theorem brk0 (b : Bool) : atI (cs (brk b)) 0 = some (op1 b) := by cases b <;> decide +kernel
theorem brk1 (b : Bool) : atI (cs (brk b)) 1 = some (cl1 b) := by cases b <;> decide +kernel
theorem kvB_at {j : Nat} {k : Key} {v : V} (h : kvB[j]? = some (k, v)) : ∃ b : Bool, j = (if b then 0 else 1) ∧ k = .inr (ncN b) ∧ valV kvB k = some (.str (brk b)) := by
  match j, h with
  | 0, h => cases h; exact ⟨true, rfl, rfl, rfl⟩
  | 1, h => cases h; exact ⟨false, rfl, rfl, rfl⟩
  | j + 2, h => simp [kvB] at h
theorem csCo : cs (":" : Str) = [58] := by decide +kernel
section
variable {P : Program} {w : World} {K : PySem.W.Frag} {mg : Str → Option Value} {base : Heap} {f : Addr} {fd : FuncData} {C : Addr}
theorem scNA : FnScope ["scan", "field", "shown", "kind"] ["scan"] (defScope sNA) := ⟨rfl, rfl, rfl, by decide +kernel, rfl, by decide +kernel, by decide +kernel⟩
theorem ok_na {gp gn go ga gw gs gi gl gb aB T' NT FE : Addr} {dp dn dO da dw di dl db : FuncData} {tb : Hp → Prop} (F : Fun K "next_asked" "next_asked" sNA f fd) (Tx : Txt mg) (cl : Cls K C) (t : Tb T' tb) (xc : XCls0 K NT FE) (kX : PySem.W.keepIn K (.ref NT) = true) (mX : mg "NoText" = some (.ref NT))
    (GPa : FnOk P w K mg base CX0 2 gp dp ["self", "text"] (spPas C)) (bPa : Binds K dp ["self", "text"] []) (mPa : Meth K C "passes" gp)
    (GNN : FnOk P w K mg base (CXe P w) 4 gn dn ["scan"] (spTk C NT T' (tk lowC 12))) (bNN : Binds K dn ["scan"] []) (kNN : PySem.W.keepIn K (.ref gn) = true) (mNN : mg "next_name" = some (.ref gn))
    (GPO : FnOk P w K mg base (CXe P w) 3 go dO ["self", "text"] (spPO C NT T')) (bPO : Binds K dO ["self", "text"] []) (mPO : Meth K C "pass_over" go)
    (GAW : FnOk P w K mg base (CXe P w) 5 ga da ["scan"] (spTk C NT T' (tk wC 40))) (bAW : Binds K da ["scan"] []) (kAW : PySem.W.keepIn K (.ref ga) = true) (mAW : mg "next_asked_word" = some (.ref ga))
    (GWh : FnOk P w K mg base CX0 3 gw dw ["self", "is_wanted"] (spWh K C gs isP)) (bWh : Binds K dw ["self", "is_wanted"] []) (mWh : Meth K C "signs_while" gw) (mPS : mg "is_pattern_sign" = some (.ref gs)) (fS : PySem.W.fnIn K gs = true)
    (GWi : FnOk P w K mg base (CXe P w) 1 gi di ["shown"] (spWi NT)) (bWi : Binds K di ["shown"] []) (kWi : PySem.W.keepIn K (.ref gi) = true) (mWi : mg "width_of" = some (.ref gi))
    (GNWs : FnOk P w K mg base (CXe P w) 7 gl dl ["scan", "end"] (spNWs C NT T' tb)) (bNWs : Binds K dl ["scan", "end"] []) (kNWs : PySem.W.keepIn K (.ref gl) = true) (mNWs : mg "next_words" = some (.ref gl))
    (GBa : FnOk P w K mg base CX0 1 gb db ["pattern"] (fun vs H Q _ => ∃ z : Str, vs = [.str z] ∧ Q (.bl (bare z)) H)) (bBa : Binds K db ["pattern"] []) (kBa : PySem.W.keepIn K (.ref gb) = true) (mBa : mg "is_bare" = some (.ref gb))
    (hBR : mg "BRACKETS" = some (.ref aB)) (kdB : KD P w K aB kvB) : FnOk P w K mg base (CXe P w) 8 f fd ["scan"] (spNA C NT T' tb) := by
  refine F.okX scNA (fun vs H Q E h => ?_) (fun cdv A outer s H vs Q E hr h => ?_)
  · obtain ⟨r, rfl, _⟩ := h
    rfl
  obtain ⟨r, rfl, dx, z, i, hr', hi, hz, _, htb, q1, q2⟩ := h
  have T := Tx
  obtain ⟨tA, hAny⟩ := T.any
  obtain ⟨tP, hMP⟩ := T.mPat
  have hr1 : Room 1 _ := hr.mono (by decide)
  have hr2 : Room 2 _ := hr.mono (by decide)
  have hr3 : Room 3 _ := hr.mono (by decide)
  have hr4 : Room 4 _ := hr.mono (by decide)
  have hr5 : Room 5 _ := hr.mono (by decide)
  refine ⟨_, (pss_cons (ps_set (i := 1) scNA.nd rfl (Or.inl rfl) (pe_ifExp (pt_val (pe_meth (pv 0) cl mPa GPa hr2 bPa .nil pass0 (pa_cons (pe_gstr rfl hAny) pa_nil))) (pe_gstr rfl hAny) (pe_call GNN hr4 rfl mNN kNN bNN .nil passX (pa_cons (pv 0) pa_nil))))
    (pss_cons (ps_expr (pe_meth (pv 0) cl mPO GPO hr3 bPO .nil passX (pa_cons pe_str pa_nil)))
    (pss_cons (ps_if (pt_val (pe_meth (pv 0) cl mPa GPa hr2 bPa .nil pass0 (pa_cons pe_str pa_nil))) (pss_one (ps_ret (pe_tup (pa_cons pe_str (pa_cons (pv 1) (pa_cons (pe_call GNWs hr rfl mNWs kNWs bNWs .nil passX (pa_cons (pv 0) (pa_cons pe_str pa_nil))) pa_nil)))))) pss_nil)
    (pss_cons (ps_if (pt_val (pe_meth (pv 0) cl mPa GPa hr2 bPa .nil pass0 (pa_cons pe_str pa_nil))) (pss_one (ps_ret (pe_tup (pa_cons pe_str (pa_cons (pv 1) (pa_cons (pe_call GAW hr5 rfl mAW kAW bAW .nil passX (pa_cons (pv 0) pa_nil)) pa_nil)))))) pss_nil)
    (pss_cons (ps_set (i := 2) scNA.nd rfl (Or.inl rfl) (pe_meth (pv 0) cl mWh GWh hr3 bWh .nil pass0 (pa_cons (pe_gref rfl mPS) pa_nil)))
    (pss_cons (ps_for PassesOwn.leaving rfl (pi_kd kdB (pe_gref rfl hBR)) (pg_name (i := 3) scNA.nd rfl (Or.inl rfl))
      (pss_one (ps_if (pt_val (pe_meth (pv 0) cl mPa GPa hr2 bPa .nil pass0 (pa_cons (pe_ix ix_str (pe_kget kdB (pe_gref rfl hBR) (pv 3) (fun _ _ => rfl)) pe_int (fun _ _ => rfl)) pa_nil))) (pss_one (ps_ret (pe_tup (pa_cons (pv 3) (pa_cons (pv 1) (pa_cons (pe_call GWi hr1 rfl mWi kWi bWi .nil passX (pa_cons (pv 2) pa_nil)) (pa_cons (pe_call GNWs hr rfl mNWs kNWs bNWs .nil passX (pa_cons (pv 0) (pa_cons (pe_ix ix_str (pe_kget kdB (pe_gref rfl hBR) (pv 3) (fun _ _ => rfl)) pe_int (fun _ _ => rfl)) pa_nil))) pa_nil))))))) pss_nil)))
    (pss_cons (ps_if (pt_not (pt_chain op_le op_le pe_int (pe_callB call_len_str rfl T.len PySem.boot_len (pa_cons (pv 2) pa_nil)) (pe_gint rfl hMP))) (pss_one (ps_raise0 xc kX rfl mX (pa_cons pe_str pa_nil))) pss_nil)
    (pss_one (ps_ret (pe_tup (pa_cons (pe_ifExp (pt_val (pe_call GBa hr1 rfl mBa kBa bBa .nil pass0 (pa_cons (pv 2) pa_nil))) pe_str pe_str) (pa_cons (pv 1) (pa_cons (pv 2) pa_nil))))))))))))), ?_⟩
  refine seq_inv (fun σ L => ∃ (f : Str) (i1 : Nat) (v2 v3 : Option V), σ = [some (.ref r), some (.str f), v2, v3] ∧ SameX r H L ∧ L r = some (.ins C dx (sc z (i1 : Nat))) ∧ i ≤ i1 ∧ i1 ≤ z.length ∧ rFd ((cs z).drop i) = some (f, (cs z).drop i1)) ?_ (fun N hN => ?_)
  rotate_left
  · simpa only [tMeth]
    refine ⟨dx, _, hr', rfl, ⟨r, dx, z, "*", i, rfl, hr', hi, by decide, fun hp => ⟨true, rfl, ?_⟩, fun hp => ⟨false, rfl, ?_⟩⟩⟩
    · rw [if_pos rfl]
      have hh := (pre_head csst).mp hp
      refine hN _ _ ⟨_, i + 1, _, _, rfl, SameX.refl.upd _, upd_same, by omega, head_lt hh, ?_⟩
      unfold rFd
      rw [if_pos hh, tail_at]
    · rw [if_neg Bool.false_ne_true]
      have hh := no_pre csst hp
      exact ⟨r, dx, z, i, rfl, hr', hi, hz, fun u j h1 h2 e L sX hL => hN _ _ ⟨u, j, _, _, rfl, sX, hL, h1, h2, by unfold rFd; rw [if_neg hh]; exact e⟩, fun e => q2 (by unfold rLf rFd; rw [if_neg hh, e])⟩
  rintro σ L ⟨f, i1, v2, v3, rfl, sX, hL, hi1, hi1z, hFd⟩
  refine seq_inv (fun σ M => ∃ v2 v3 : Option V, σ = [some (.ref r), some (.str f), v2, v3] ∧ SameX r H M ∧ M r = some (.ins C dx (sc z ((i1 + 1 : Nat) : Int))) ∧ ((cs z).drop i1).head? = some 58) ?_ (fun N hN => ?_)
  rotate_left
  · simpa only [tMeth]
    refine ⟨dx, _, hL, rfl, ⟨r, dx, z, ":", i1, rfl, hL, hi1z, by decide, fun hp => hN _ _ ⟨_, _, rfl, sX.upd _, upd_same, (pre_head csCo).mp hp⟩, fun hp => (q2 ?_).onX sX hL⟩⟩
    unfold rLf
    rw [hFd]
    exact if_neg (no_pre csCo hp)
  clear hL sX L
  rintro σ L ⟨v2, v3, rfl, sX, hL, hco⟩
  have hi2 : i1 + 1 ≤ z.length := head_lt hco
  have hLf : rLf (tk wC 40) ((cs z).drop i) = match rAk (tk wC 40) ((cs z).drop (i1 + 1)) with | none => none | some y => some (.lf f y.1, y.2) := by
    unfold rLf
    rw [hFd, tail_at]
    exact if_pos hco
  have p1 : ∀ (a : Lf) (j : Nat), i1 + 1 ≤ j → j ≤ z.length → rAk (tk wC 40) ((cs z).drop (i1 + 1)) = some (a, (cs z).drop j) → ∀ v H', ExtT r T' H H' → H' r = some (.ins C dx (sc z (j : Nat))) → tb H' → DeepT (nw H H') (a.dv f) v → Q v H' :=
    fun a j h1 h2 e v H' x1 x2 x3 x4 => q1 (.lf f a) j (by omega) h2 (by rw [hLf, e]) v H' x1 x2 x3 (by rw [dvQ]; exact x4)
  have p2 : ∀ L', SameX r H L' → (∃ o, L' r = some o) → rAk (tk wC 40) ((cs z).drop (i1 + 1)) = none → BadT NT r T' L' E := fun L' s' ⟨o, ho⟩ e => (q2 (by rw [hLf, e])).onX s' ho
  clear hLf q1 q2
  have htL : tb L := t.sameX htb hr' sX
  generalize i1 + 1 = i2 at hL hi2 p1 p2
  simpa only [tMeth]
  refine ⟨dx, _, hL, rfl, ⟨r, dx, z, "\"", i2, rfl, hL, hi2, by decide, fun hp => ⟨true, rfl, ?_⟩, fun hp => ⟨false, rfl, ?_⟩⟩⟩
  · rw [if_pos rfl]
    have hh := (pre_head csQ).mp hp
    have sM : SameX r H (upd L r (.ins C dx (sc z ((i2 + 1 : Nat) : Int)))) := sX.upd _
    have hA : rAk (tk wC 40) ((cs z).drop i2) = match rWs 34 ((cs z).drop (i2 + 1)) with | none => none | some x => some (.row x.1, x.2) := by
      unfold rAk
      rw [if_pos hh, tail_at]
    refine ⟨r, dx, z, "\"", i2 + 1, 34, rfl, csQ, upd_same, head_lt hh, hz, t.sameX htb hr' sM, fun ws j h1 h2 e v M eM hM tM dM => ⟨by decide, fun p' hp' => ?_⟩, fun e => p2 _ sM ⟨_, upd_same⟩ (by rw [hA, e])⟩
    have e1 : ExtT r T' H M := (ExtT.of sM).trans eM
    obtain ⟨g1, g2, g3, g4⟩ := fin_tup (ds := [.str "row", .str f, .lst (ws.map .str)]) (xs := [.str "row", .str f, v]) t e1 hM tM hp' (by
      rw [DeepTs]; refine ⟨_, _, rfl, by rw [DeepT], ?_⟩
      rw [DeepTs]; refine ⟨_, _, rfl, by rw [DeepT], ?_⟩
      exact DeepTs.one (DeepT.same (nw_mono (sameX_none sM upd_same)) _ _ dM))
    exact p1 (.row ws) j (by omega) h2 (by rw [hA, e]) _ _ g1 g2 g3 g4
  rw [if_neg Bool.false_ne_true]
  have n34 := no_pre csQ hp
  refine ⟨dx, _, hL, rfl, ⟨r, dx, z, "~", i2, rfl, hL, hi2, by decide, fun hp => ⟨true, rfl, ?_⟩, fun hp => ⟨false, rfl, ?_⟩⟩⟩
  · rw [if_pos rfl]
    have hh := (pre_head csT).mp hp
    have sM : SameX r H (upd L r (.ins C dx (sc z ((i2 + 1 : Nat) : Int)))) := sX.upd _
    have hA : rAk (tk wC 40) ((cs z).drop i2) = match tk wC 40 ((cs z).drop (i2 + 1)) with | none => none | some x => some (.like x.1, x.2) := by
      unfold rAk
      rw [if_neg n34, if_pos hh, tail_at]
    refine ⟨r, dx, z, i2 + 1, rfl, upd_same, head_lt hh, hz, fun u j h1 h2 e M s' hM => ⟨by decide, fun p hp => ?_⟩, fun e => p2 _ sM ⟨_, upd_same⟩ (by rw [hA, e])⟩
    obtain ⟨g1, g2, g3, g4⟩ := fin_tup (ds := [.str "like", .str f, .str u]) (xs := [.str "like", .str f, .str u]) t (ExtT.of (sM.trans s')) hM (t.sameX htb hr' (sM.trans s')) hp (by
        rw [DeepTs]; refine ⟨_, _, rfl, by rw [DeepT], ?_⟩
        rw [DeepTs]; refine ⟨_, _, rfl, by rw [DeepT], ?_⟩
        exact DeepTs.one (by rw [DeepT]))
    exact p1 (.like u) j (by omega) h2 (by rw [hA, e]) _ _ g1 g2 g3 g4
  rw [if_neg Bool.false_ne_true]
  have n126 := no_pre csT hp
  obtain ⟨e1, e2⟩ := run_at (p := isP) hi2
  have hA : rAk (tk wC 40) ((cs z).drop i2) = if ((cs z).drop (i2 + (((cs z).drop i2).takeWhile isP).length)).head? = some 60 then rNc true (((cs z).drop i2).takeWhile isP) ((cs z).drop (i2 + (((cs z).drop i2).takeWhile isP).length)).tail
      else if ((cs z).drop (i2 + (((cs z).drop i2).takeWhile isP).length)).head? = some 91 then rNc false (((cs z).drop i2).takeWhile isP) ((cs z).drop (i2 + (((cs z).drop i2).takeWhile isP).length)).tail
      else if 1 ≤ (((cs z).drop i2).takeWhile isP).length ∧ (((cs z).drop i2).takeWhile isP).length ≤ 40 then some (if bare (st (((cs z).drop i2).takeWhile isP)) then .word (st (((cs z).drop i2).takeWhile isP)) else .like (st (((cs z).drop i2).takeWhile isP)), (cs z).drop (i2 + (((cs z).drop i2).takeWhile isP).length)) else none := by
    unfold rAk
    rw [if_neg n34, if_neg n126, e1]
  refine ⟨dx, _, hL, rfl, ⟨r, dx, z, i2, _, _, rfl, .inl fS, hL, hi2, by omega, tw_dw isP _, fun c m => tw_all m, fun c m => dw_head m, fun M sM hM => ?_⟩⟩
  generalize ((cs z).drop i2).takeWhile isP = u at hA e2 hM
  have sM' : SameX r H M := sX.trans sM
  have hlu : i2 ≤ i2 + u.length := Nat.le_add_right _ _
  have hul : u.length ≤ 400 := by omega
  generalize i2 + u.length = i3 at hA e2 hM hlu
  simp only [tIfS, tAnd, tOr, tNot, tB, tVar, tTest, tOp, tC, tUn, tCB, tCons, tNil, rI0, rI, rU, rNe, rEq, scal, rAppend, tBM, tDrop, tSeq, tAsg, gName, tRet, tNext, List.set_cons_zero, List.set_cons_succ, List.getElem?_cons_zero, List.getElem?_cons_succ, Option.some.injEq, V.int.injEq, V.bl.injEq, V.ref.injEq, V.str.injEq, exists_eq_left', exists_eq_left, exists_and_left, List.cons.injEq, and_true, true_and, and_assoc, exists_const, L2.start, List.map_cons, List.map_nil, List.length_cons, List.length_nil, List.replicate_succ, List.replicate_zero, List.cons_append, List.nil_append, List.append_nil, Nat.reduceAdd, Nat.reduceSub, tFor_eq, tComp_eq, tWhile_eq, tChain, tAug, ipI, rIxS, rSlS, rLower, rIndex, rPop, rCat, tBM0, gSub, rSetL, tSl, tPart, tNoPart, rSlL, tCall, tLst, tTup, iRng1, iRng2, iRng3, iList, iEnum, gTup, gCons, gNil, rIxL, rIxT, tYes, tAndV, tOrV, tNotV, tIf, tTest, exists_eq', List.ne_cons_self, reduceCtorEq, if_true, if_false, and_false, false_and, iKd] at hM ⊢
  have hop : ∀ b, ((cs z).drop i3).head? = some (op1 b) → rAk (tk wC 40) ((cs z).drop i2) = rNc b u ((cs z).drop (i3 + 1)) := fun b h => by
    rw [hA, h, tail_at]
    cases b
    · rw [if_neg (by decide), if_pos (show some (op1 false) = some 91 from rfl)]
    · rw [if_pos (show some (op1 true) = some 60 from rfl)]
  refine forW_kd (fun j σ M' => ∃ v3 : Option V, σ = [some (.ref r), some (.str f), some (.str (st u)), v3] ∧ M' = M ∧ (1 ≤ j → ((cs z).drop i3).head? ≠ some 60) ∧ (2 ≤ j → ((cs z).drop i3).head? ≠ some 91)) ⟨_, rfl, rfl, fun h => by omega, fun h => by omega⟩ ?_ ?_
  · rintro j k v σ M' hk ⟨v4, rfl, rfl, hj1, hj2⟩
    simpa only [tMeth, tKGet]
    obtain ⟨b, hjb, rfl, hval⟩ := kvB_at hk
    refine ⟨dx, _, hM, rfl, _, rfl, _, hval, _, rfl, by cases b <;> decide, _, brk0 b, ⟨r, dx, z, ⟨#[op1 b]⟩, i3, rfl, hM, e2, by show 1 ≤ 1000; decide, fun hp => ⟨true, rfl, ?_⟩, fun hp => ⟨false, rfl, ?_⟩⟩⟩
    · rw [if_pos rfl]
      have hh := (pre_head (k := op1 b) rfl).mp hp
      have hN := hop b hh
      have sM2 : SameX r H (upd M' r (.ins C dx (sc z ((i3 + 1 : Nat) : Int)))) := sM'.upd _
      refine ⟨st u, rfl, fun n hn => ?_, fun hn => (p2 _ sM2 ⟨_, upd_same⟩ ?_).raise⟩
      · have hn' : widO u = some n := hn
        have hN2 : rAk (tk wC 40) ((cs z).drop i2) = match rWs (cl1 b) ((cs z).drop (i3 + 1)) with | none => none | some x => some (.nc b n x.1, x.2) := by
          rw [hN]
          unfold rNc
          rw [hn']
        refine ⟨_, rfl, _, hval, _, rfl, by cases b <;> decide, _, brk1 b, ⟨r, dx, z, ⟨#[cl1 b]⟩, i3 + 1, cl1 b, rfl, rfl, upd_same, head_lt hh, hz, t.sameX htb hr' sM2, fun ws j' h1 h2 e v' M3 eM3 hM3 tM3 dM3 => ⟨by decide, fun p' hp' => ?_⟩, fun e => p2 _ sM2 ⟨_, upd_same⟩ (by rw [hN2, e])⟩⟩
        have e1 : ExtT r T' H M3 := (ExtT.of sM2).trans eM3
        obtain ⟨g1, g2, g3, g4⟩ := fin_tup (ds := [.str (ncN b), .str f, .int n, .lst (ws.map .str)]) (xs := [.str (ncN b), .str f, .int n, v']) t e1 hM3 tM3 hp' (by
          rw [DeepTs]; refine ⟨_, _, rfl, by rw [DeepT], ?_⟩
          rw [DeepTs]; refine ⟨_, _, rfl, by rw [DeepT], ?_⟩
          rw [DeepTs]; refine ⟨_, _, rfl, by rw [DeepT], ?_⟩
          exact DeepTs.one (DeepT.same (nw_mono (sameX_none sM2 upd_same)) _ _ dM3))
        exact p1 (.nc b n ws) j' (by omega) h2 (by rw [hN2, e]) _ _ g1 g2 g3 g4
      · have hn' : widO u = none := hn
        rw [hN]
        unfold rNc
        rw [hn']
    · rw [if_neg Bool.false_ne_true]
      have hh := no_pre (y := ⟨#[op1 b]⟩) (k := op1 b) rfl hp
      refine ⟨rfl, fun h => ?_, fun h => ?_⟩
      · cases b with
        | true => exact hh
        | false => exact hj1 (by rw [hjb]; simp)
      · cases b with
        | true => rw [hjb] at h; simp at h
        | false => exact hh
  · rintro σ M' ⟨v4, rfl, rfl, hj1, hj2⟩
    have n60 := hj1 (by decide)
    have n91 := hj2 (by decide)
    rw [if_neg n60, if_neg n91] at hA
    simpa only [tRaise0]
    have bad : ¬ (1 ≤ u.length ∧ u.length ≤ 40) → Bad0 NT M' E := fun n => (p2 _ sM' ⟨_, hM⟩ (by rw [hA, if_neg n])).raise
    have fin : ∀ k : Str, 1 ≤ u.length ∧ u.length ≤ 40 → k = (if bare (st u) then ("word" : Str) else ("like" : Str)) → (3 ≤ sizeLine ∧ ∀ p : Addr, M' p = none → Q (.ref p) (upd M' p (.tup [.str k, .str f, .str (st u)]))) := fun k hu ek => ⟨by decide, fun p hp => by
      obtain ⟨g1, g2, g3, g4⟩ := fin_tup (ds := [.str k, .str f, .str (st u)]) (xs := [.str k, .str f, .str (st u)]) t (ExtT.of sM') hM (t.sameX htb hr' sM') hp (by
        rw [DeepTs]; refine ⟨_, _, rfl, by rw [DeepT], ?_⟩
        rw [DeepTs]; refine ⟨_, _, rfl, by rw [DeepT], ?_⟩
        exact DeepTs.one (by rw [DeepT]))
      refine p1 (if bare (st u) then .word (st u) else .like (st u)) i3 hlu e2 (by rw [hA, if_pos hu]) _ _ g1 g2 g3 ?_
      rw [ek] at g4 ⊢
      cases hb : bare (st u) with
      | true => rw [hb] at g4; exact g4
      | false => rw [hb] at g4; exact g4⟩
    rw [ln_st]
    refine ⟨small (by omega), ite2 (fun c1 => ite2 (fun c2 => ?_) (fun c2 => ?_)) (fun c1 => ?_)⟩
    · exact bad fun h => nb_t c2 (by omega)
    · have h2 := nb_f c2
      have h1 := of_decide_eq_true c1
      exact ite2 (fun c => fin _ ⟨by omega, by omega⟩ (by rw [c]; rfl)) (fun c => fin _ ⟨by omega, by omega⟩ (by rw [Bool.eq_false_iff.mpr c]; rfl))
    · rw [if_pos (by decide)]
      exact bad fun h => c1 (decide_eq_true (by omega))
end
def cnt (l : List Nat) : Nat := l.countP fun c => c == 33 || c == 40
theorem cnt_drop {l : List Nat} (i j : Nat) (h : i ≤ j) : cnt (l.drop j) ≤ cnt (l.drop i) := by
  have : l.drop j = (l.drop i).drop (j - i) := by rw [List.drop_drop, Nat.add_sub_cancel' h]
  rw [this]
  exact List.Sublist.countP_le (List.drop_sublist _ _)
theorem cnt_tail {l : List Nat} {c n : Nat} (h : l.head? = some c) (hc : c = 33 ∨ c = 40) (hn : cnt l ≤ n + 1) : cnt l.tail ≤ n := by
  cases l with
  | nil => cases h
  | cons a m =>
    have : a = c := Option.some.inj h
    subst this
    unfold cnt at *
    rw [List.countP_cons] at hn
    have : ((a == 33 || a == 40) : Bool) = true := by rcases hc with rfl | rfl <;> rfl
    rw [this] at hn
    simp only [if_true] at hn
    show List.countP _ m ≤ n
    omega
theorem cnt_zero {l : List Nat} {c : Nat} (h : l.head? = some c) (hc : c = 33 ∨ c = 40) (hn : cnt l ≤ 0) : False := by
  cases l with
  | nil => cases h
  | cons a m =>
    have : a = c := Option.some.inj h
    subst this
    unfold cnt at *
    rw [List.countP_cons] at hn
    have : ((a == 33 || a == 40) : Bool) = true := by rcases hc with rfl | rfl <;> rfl
    rw [this] at hn
    simp only [if_true] at hn
    omega
section
variable (rec : List Nat → Option (Qn × List Nat))
def rOne (b : Bool) (l : List Nat) : Option (Qn × List Nat) :=
  if l.head? = some 41 then some (.bo b [], l.tail)
  else if l.head? = some 32 then (match rec l.tail with | none => none | some x => if x.2.head? = some 41 then some (.bo b [x.1], x.2.tail) else none)
  else none
def rTwo (q : Qn) (b : Bool) (l : List Nat) : Option (Qn × List Nat) :=
  if [32, sg b, 32].isPrefixOf l then (match lstA [32, sg b, 32] rec 401 [] (l.drop 3) with | none => none | some y => if y.2.head? = some 41 then some (.bo b (q :: y.1), y.2.tail) else none) else none
def rBrk (l : List Nat) : Option (Qn × List Nat) :=
  if l.head? = some 38 then rOne rec true l.tail
  else if l.head? = some 124 then rOne rec false l.tail
  else match rec l with
    | none => none
    | some x => rTwo rec x.1 (pre " & " x.2) x.2
end
def rq (tl : List Nat → Option (Str × List Nat)) : Nat → List Nat → Option (Qn × List Nat)
  | 0, l => if l.head? = some 33 then none else if l.head? = some 40 then none else rLf tl l
  | n + 1, l => if l.head? = some 33 then (match rq tl n l.tail with | none => none | some x => some (.nt x.1, x.2)) else if l.head? = some 40 then rBrk (rq tl n) l.tail else rLf tl l
theorem rBrk_sg {rec : List Nat → Option (Qn × List Nat)} {l : List Nat} {b : Bool} (h : l.head? = some (sg b)) : rBrk rec l = rOne rec b l.tail := by
  unfold rBrk
  rw [h]
  cases b
  · rw [if_neg (by decide), if_pos (show some (sg false) = some 124 from rfl)]
  · rw [if_pos (show some (sg true) = some 38 from rfl)]
abbrev tkP : List Nat → Option (Str × List Nat) := tk wC 40
def kvS : List (Key × V) := [(.inr "both", .str "&"), (.inr "one", .str "|")]
theorem kvS_at {j : Nat} {k : Key} {v : V} (h : kvS[j]? = some (k, v)) : ∃ b : Bool, j = (if b then 0 else 1) ∧ k = .inr (boN b) ∧ valV kvS k = some (.str (sgS b)) := by
  match j, h with
  | 0, h => cases h; exact ⟨true, rfl, rfl, rfl⟩
  | 1, h => cases h; exact ⟨false, rfl, rfl, rfl⟩
  | j + 2, h => simp [kvS] at h
theorem kvS_b (b : Bool) : valV kvS (.inr (boN b)) = some (.str (sgS b)) := by cases b <;> rfl
theorem cs_sg (b : Bool) : cs (sgS b) = [sg b] := by cases b <;> decide +kernel
def spNQ (C NT T : Addr) (tb : Hp → Prop) (n : Nat) : Sp := fun vs H Q E => ∃ (r : Addr) (d : Nat), vs = [.ref r, .int (d : Int)] ∧ d + n ≤ 60 ∧ PF C NT T tb (fun l => cnt l ≤ n) (rq tkP n) dvQ r H Q E
def spNO (C NT T : Addr) (tb : Hp → Prop) (n : Nat) : Sp := fun vs H Q E => ∃ (r : Addr) (d : Nat) (b : Bool), vs = [.ref r, .str (boN b), .int (d : Int)] ∧ d + n ≤ 60 ∧ PF C NT T tb (fun l => l.head? = some (sg b) ∧ cnt l ≤ n) (fun l => rOne (rq tkP n) b l.tail) dvQ r H Q E
def spNB (C NT T : Addr) (tb : Hp → Prop) (n : Nat) : Sp := fun vs H Q E => ∃ (r : Addr) (d : Nat), vs = [.ref r, .int (d : Int)] ∧ d + n ≤ 60 ∧ PF C NT T tb (fun l => cnt l ≤ n) (rBrk (rq tkP n)) dvQ r H Q E
theorem fin_lst {r T p : Addr} {tb : Hp → Prop} {H L : Hp} {o : HO} {ds : List DV} {xs : List V} (t : Tb T tb) (e : ExtT r T H L) (hr : L r = some o) (htb : tb L) (hp : L p = none) (dv : DeepTs (nw H L) ds xs) :
    ExtT r T H (upd L p (.lst xs)) ∧ upd L p (.lst xs) r = some o ∧ tb (upd L p (.lst xs)) ∧ DeepT (nw H (upd L p (.lst xs))) (.lst ds) (.ref p) := by
  obtain ⟨ps, hT⟩ := t.at_ _ htb
  have hpH : H p = none := none_ext e hr hT hp
  refine ⟨fun b u h n1 n2 => ?_, ?_, t.put htb (xs := []) (.inr hp), ?_⟩
  · rw [upd_ne (ne_of_none h hpH)]; exact e b u h n1 n2
  · rw [upd_ne (ne_of_none hr hp)]; exact hr
  · rw [DeepT]
    refine ⟨p, xs, rfl, (by rw [nw_at hpH, upd_same]), DeepTs.same (fun b u h => ?_) _ _ dv⟩
    obtain ⟨h1, h2⟩ := nw_some h
    rw [nw_at h1, upd_ne (ne_of_none h2 hp)]
    exact h2
theorem fin_two {r T p p1 : Addr} {tb : Hp → Prop} {H L : Hp} {o : HO} {ds : List DV} {xs : List V} {s : Str} (t : Tb T tb) (e : ExtT r T H L) (hr : L r = some o) (htb : tb L) (hp : L p = none) (dv : DeepTs (nw H L) ds xs) (hp1 : upd L p (.lst xs) p1 = none) :
    ExtT r T H (upd (upd L p (.lst xs)) p1 (.tup [.str s, .ref p])) ∧ upd (upd L p (.lst xs)) p1 (.tup [.str s, .ref p]) r = some o ∧ tb (upd (upd L p (.lst xs)) p1 (.tup [.str s, .ref p])) ∧ DeepT (nw H (upd (upd L p (.lst xs)) p1 (.tup [.str s, .ref p]))) (.tup [.str s, .lst ds]) (.ref p1) := by
  obtain ⟨g1, g2, g3, g4⟩ := fin_lst t e hr htb hp dv
  refine fin_tup t g1 g2 g3 hp1 ?_
  rw [DeepTs]
  exact ⟨_, _, rfl, by rw [DeepT], DeepTs.one g4⟩
theorem csR : cs (")" : Str) = [41] := by decide +kernel
theorem csL : cs ("(" : Str) = [40] := by decide +kernel
theorem csE : cs ("!" : Str) = [33] := by decide +kernel
theorem ln_sg (b : Bool) : (sgS b).length = 1 := by cases b <;> rfl
section
variable {P : Program} {w : World} {K : PySem.W.Frag} {mg : Str → Option Value} {base : Heap} {f : Addr} {fd : FuncData} {C : Addr}
theorem scNO : FnScope ["scan", "kind", "deep", "part"] ["scan", "kind", "deep"] (defScope sNO) := ⟨rfl, rfl, rfl, by decide +kernel, rfl, by decide +kernel, by decide +kernel⟩
theorem ok_no {gp go gq aS T' NT FE : Addr} {dp dO dq : FuncData} {tb : Hp → Prop} {n k : Nat} (F : Fun K "next_none_or_one" "next_none_or_one" sNO f fd) (cl : Cls K C) (t : Tb T' tb)
    (GPa : FnOk P w K mg base CX0 2 gp dp ["self", "text"] (spPas C)) (bPa : Binds K dp ["self", "text"] []) (mPa : Meth K C "passes" gp)
    (GPO : FnOk P w K mg base (CXe P w) 3 go dO ["self", "text"] (spPO C NT T')) (bPO : Binds K dO ["self", "text"] []) (mPO : Meth K C "pass_over" go)
    (GNQ : FnOk P w K mg base (CXe P w) (k + 3) gq dq ["scan", "deep"] (spNQ C NT T' tb n)) (bNQ : Binds K dq ["scan", "deep"] []) (kNQ : PySem.W.keepIn K (.ref gq) = true) (mNQ : mg "next_question" = some (.ref gq))
    (hSI : mg "SIGNS" = some (.ref aS)) (kdS : KD P w K aS kvS) : FnOk P w K mg base (CXe P w) (k + 4) f fd ["scan", "kind", "deep"] (spNO C NT T' tb n) := by
  refine F.okX scNO (fun vs H Q E h => ?_) (fun cdv A outer s H vs Q E hr h => ?_)
  · obtain ⟨r, d, b, rfl, _⟩ := h
    rfl
  obtain ⟨r, d, b, rfl, hdn, dx, z, i, hr', hi, hz, ⟨hsg, hcn⟩, htb, q1, q2⟩ := h
  have hr2 : Room 2 _ := hr.mono (by omega)
  have hr3 : Room 3 _ := hr.mono (by omega)
  refine ⟨_, (pss_cons (ps_expr (pe_meth (pv 0) cl mPO GPO hr3 bPO .nil passX (pa_cons (pe_kget kdS (pe_gref rfl hSI) (pv 1) (fun _ _ => rfl)) pa_nil)))
    (pss_cons (ps_if (pt_val (pe_meth (pv 0) cl mPa GPa hr2 bPa .nil pass0 (pa_cons pe_str pa_nil))) (pss_one (ps_ret (pe_tup (pa_cons (pv 1) (pa_cons (pe_lst pa_nil) pa_nil))))) pss_nil)
    (pss_cons (ps_expr (pe_meth (pv 0) cl mPO GPO hr3 bPO .nil passX (pa_cons pe_str pa_nil)))
    (pss_cons (ps_set (i := 3) scNO.nd rfl (Or.inl rfl) (pe_call GNQ hr rfl mNQ kNQ bNQ .nil passX (pa_cons (pv 0) (pa_cons (pv 2) pa_nil))))
    (pss_cons (ps_expr (pe_meth (pv 0) cl mPO GPO hr3 bPO .nil passX (pa_cons pe_str pa_nil)))
    (pss_one (ps_ret (pe_tup (pa_cons (pv 1) (pa_cons (pe_lst (pa_cons (pv 3) pa_nil)) pa_nil)))))))))), ?_⟩
  simpa only [tMeth, tKGet]
  have hp0 : pre (sgS b) ((cs z).drop i) = true := (pre_head (cs_sg b)).mpr hsg
  dsimp only at q1 q2
  rw [← tail_at] at q1 q2
  have hi1 := head_lt hsg
  refine ⟨dx, _, hr', rfl, .inr (boN b), rfl, _, kvS_b b, ⟨r, dx, z, sgS b, i, rfl, hr', hi, by rw [ln_sg]; decide, fun _ => ?_, fun hp => by rw [hp0] at hp; cases hp⟩⟩
  rw [ln_sg]
  have s1 : SameX r H (upd H r (.ins C dx (sc z ((i + 1 : Nat) : Int)))) := SameX.refl.upd _
  obtain ⟨ps0, hT0⟩ := t.at_ _ htb
  refine ⟨dx, _, upd_same, rfl, ⟨r, dx, z, ")", i + 1, rfl, upd_same, hi1, by decide, fun hp => ⟨true, rfl, ?_⟩, fun hp => ⟨false, rfl, ?_⟩⟩⟩
  · rw [if_pos rfl]
    have hh := (pre_head csR).mp hp
    refine ⟨by decide, fun p hp1 => ⟨by decide, fun p1 hp2 => ?_⟩⟩
    obtain ⟨g1, g2, g3, g4⟩ := fin_two (ds := []) (s := boN b) t (ExtT.of (s1.upd _)) upd_same (t.sameX htb hr' (s1.upd _)) hp1 DeepTs.nil hp2
    refine q1 (.bo b []) (i + 1 + 1) (by omega) (head_lt hh) ?_ _ _ g1 g2 g3 (by rw [dvQ, dvQs]; exact g4)
    unfold rOne
    rw [if_pos hh, ← tail_at]
  · rw [if_neg Bool.false_ne_true]
    have n41 := no_pre csR hp
    have hO : rOne (rq tkP n) b ((cs z).drop (i + 1)) = if ((cs z).drop (i + 1)).head? = some 32 then (match rq tkP n ((cs z).drop (i + 1 + 1)) with | none => none | some x => if x.2.head? = some 41 then some (.bo b [x.1], x.2.tail) else none) else none := by
      unfold rOne
      rw [if_neg n41, ← tail_at]
    refine ⟨dx, _, upd_same, rfl, ⟨r, dx, z, " ", i + 1, rfl, upd_same, hi1, by decide, fun hp => ?_, fun hp => (q2 (by rw [hO, if_neg (no_pre csb hp)])).onX s1 upd_same⟩⟩
    have hh := (pre_head csb).mp hp
    rw [if_pos hh] at hO
    have hi2 := head_lt hh
    rw [upd_upd]
    have s2 : SameX r H (upd H r (.ins C dx (sc z ((i + 1 + 1 : Nat) : Int)))) := SameX.refl.upd _
    refine ⟨r, d, rfl, hdn, dx, z, i + 1 + 1, upd_same, hi2, hz, Nat.le_trans (cnt_drop i _ (by omega)) hcn, t.sameX htb hr' s2, fun q0 j h1 h2 e v L eL hL tL dL => ?_, fun e => (q2 (by rw [hO, e])).onX s2 upd_same⟩
    rw [e] at hO
    have e1 : ExtT r T' H L := (ExtT.of s2).trans eL
    obtain ⟨psL, hTL⟩ := t.at_ _ tL
    refine ⟨dx, _, hL, rfl, ⟨r, dx, z, ")", j, rfl, hL, h2, by decide, fun hp => ⟨by decide, fun p hp1 => ⟨by decide, fun p1 hp2 => ?_⟩⟩, fun hp => (q2 (by rw [hO]; exact if_neg (no_pre csR hp))).on e1 hL hTL⟩⟩
    have hh2 := (pre_head csR).mp hp
    obtain ⟨g1, g2, g3, g4⟩ := fin_two (ds := [dvQ q0]) (s := boN b) t (e1.upd _) upd_same (t.sameX tL hL (SameX.refl.upd _)) hp1 (DeepTs.one (DeepT.same (fun b' o' e' => nw_upd hr' b' o' (nw_mono (sameX_none s2 upd_same) b' o' e')) _ _ dL)) hp2
    refine q1 (.bo b [q0]) (j + 1) (by omega) (head_lt hh2) ?_ _ _ g1 g2 g3 (by rw [dvQ, dvQs, dvQs]; exact g4)
    rw [hO, tail_at]
    exact if_pos hh2
end
theorem csA : cs (" & " : Str) = [32, 38, 32] := by decide +kernel
def bt (b : Bool) : Str := (" " : Str) ++ sgS b ++ " "
theorem cs_bt (b : Bool) : cs (bt b) = [32, sg b, 32] := by cases b <;> decide +kernel
theorem ln_bt (b : Bool) : (bt b).length = 3 := by cases b <;> decide +kernel
def lpos : Pos := ⟨143, 42, 143, 84⟩
def lq : Str := ("next_bracket" : Str) ++ ".<locals>." ++ "<lambda>"
abbrev LT (T : Addr) : Hp → Prop := fun H => LTab lpos lq H T
theorem lt_tb (T : Addr) : Tb T (LT T) := by
  refine ⟨fun H h => ?_, fun H H' h a b => ?_⟩
  · rcases h with e | ⟨c', oc, vs, t, e, _⟩
    · exact ⟨_, e⟩
    · exact ⟨_, e⟩
  · rcases h with e | ⟨c', oc, vs, t, e, ec, r⟩
    · exact .inl (a _ _ e)
    · exact .inr ⟨c', oc, vs, t, a _ _ e, b _ _ ec, r⟩
def LT2 (T lf c' : Addr) (o1 o2 : Obj) : Hp → Prop := fun H => LT T H ∧ H lf = some (L2.cst o1) ∧ H c' = some (L2.cst o2)
theorem lt2_tb (T lf c' : Addr) (o1 o2 : Obj) : Tb T (LT2 T lf c' o1 o2) := ⟨fun H h => (lt_tb T).at_ H h.1, fun H H' h a b => ⟨(lt_tb T).st H H' h.1 a b, b _ _ h.2.1, b _ _ h.2.2⟩⟩
theorem pf_lt {α : Type} {C NT T lf c' r : Addr} {o1 o2 : Obj} {ok : List Nat → Prop} {g : List Nat → Option (α × List Nat)} {dv : α → DV} {H : Hp} {Q : VK} {E : XK} (h : PF C NT T (LT2 T lf c' o1 o2) ok g dv r H Q E) : PF C NT T (LT T) ok g dv r H Q E := by
  obtain ⟨dx, z, i, hr, hi, hz, hok, ⟨htb, h1, h2⟩, q1, q2⟩ := h
  obtain ⟨ps, hT⟩ := (lt_tb T).at_ _ htb
  refine ⟨dx, z, i, hr, hi, hz, hok, htb, fun a j g1 g2 e v H' eX hr' tb2 dv => q1 a j g1 g2 e v H' eX hr' ⟨tb2, eX lf _ h1 ?_ ?_, eX c' _ h2 ?_ ?_⟩ dv, q2⟩
  · intro q; rw [q, hr] at h1; cases h1
  · intro q; rw [q, hT] at h1; cases h1
  · intro q; rw [q, hr] at h2; cases h2
  · intro q; rw [q, hT] at h2; cases h2
def lamP (st : Stmt) : Arguments × Expr × Scope := match (defBody st).getD 5 (.Pass ⟨0, 0, 0, 0⟩) with
  | .Expr (.Call _ [.Call _ [_, _, .Lambda a b s _] _ _] _ _) _ => (a, b, s)
  | _ => (defArgs st, .Name "x" ⟨0, 0, 0, 0⟩, defScope st)
abbrev lA : Arguments := (lamP sNB).1
abbrev lB : Expr := (lamP sNB).2.1
abbrev lS : Scope := (lamP sNB).2.2
theorem scL : LamScope "deep" "behind" lS := ⟨rfl, rfl, rfl, by decide, rfl, rfl, by decide +kernel, fun z h => by
  have e : lS.names.filter (fun p => p.2 == .free) = ([(("deep" : Str), NameKind.free)] : List (Str × NameKind)) := by rfl
  have m : (z, NameKind.free) ∈ lS.names := PySem.mem_of_lookup h
  have m2 : (z, NameKind.free) ∈ lS.names.filter (fun p => p.2 == .free) := List.mem_filter.mpr ⟨m, rfl⟩
  rw [e] at m2
  simpa using m2⟩
abbrev lO (cell : Addr) (pm : Value) (c' : Addr) (ctv : Value) : Obj := PySem.W.kla_obj "<lambda>" lq lA lB lS [("deep", cell)] pm c' ctv
abbrev lF (cell : Addr) (pm : Value) (c' : Addr) (ctv : Value) : FuncData := PySem.W.kla_fn "<lambda>" lq lA lB lS [("deep", cell)] pm (.ref c') ctv
def spLm (C NT T : Addr) (n : Nat) (cell : Addr) (pm : Value) (lf c' : Addr) (ctv : Value) (oc : Obj) (d : V) : Sp := fun us H Q E => H lf = some (L2.cst (lO cell pm c' ctv)) ∧ H c' = some (L2.cst oc) ∧ ∃ r, us = [.ref r] ∧ spNQ C NT T (LT T) n [.ref r, d] H Q E
section
variable {P : Program} {w : World} {K : PySem.W.Frag} {mg : Str → Option Value} {base : Heap} {N : List Str} {qual : Str} {scope : Scope} {f : Addr} {cd : Value} {clo : List (Str × Addr)} {A : Around} {outer : List Env} {s : Shared} {H : Hp} {E : XK}
theorem leave_cxL {pins : List (Addr × Obj)} {σ : St} {H1 : Hp} {s1 : Shared} {e : Addr} {C : Value} {dx : Option Addr} {tb : Value} (I : Inv (cxL (CXe P w) P w K mg base N qual scope f cd clo A outer s H E) pins σ H1 s1)
    (he : H1 e = some (XO e C dx)) (x : XObj s1.heap e C dx tb) (t : TbOk s1.heap tb) (hte : tb ≠ .ref e) (hn : ∀ T, tb = .ref T → H1 T = none ∧ s.heap.objs.size ≤ T) (hs : s.heap.objs.size ≤ e) (q : E (.ref e) none H1) :
    (cxL (CXe P w) P w K mg base N qual scope f cd clo A outer s H E).xe (.ref e) s1 := by
  have elt : e < s1.heap.objs.size := let ⟨_, _, he, _⟩ := x; Heap.lt_size he
  refine leave_x (base := base) I.ok.frames I.stack rfl x t hte fun h' T hT xo tt k => ?_
  exact ⟨e, C, dx, T, H1, rfl, I.os, I.bare, KeptX.un k I he xo.xp fun T0 z => .inr (hn T0 z).2, KeptX.hok I k he (fun T0 z => (hn T0 z).1) xo.xp, hs, Nat.le_trans I.sz hT, Nat.ne_of_gt (Nat.lt_of_lt_of_le elt hT), he, I.hok.fresh hT, xo, tt, q⟩
theorem passXL : Passes (CXe P w) (cxL (CXe P w) P w K mg base N qual scope f cd clo A outer s H E) E := by
  intro pins σ H1 s1 ev s' I h
  obtain ⟨e, C, dx, T, H', rfl, os, bare, un, hok, l1, l2, te, he, hT, xo, tt, q⟩ := h
  obtain ⟨hh, g, d, t, os'⟩ := s'
  obtain rfl : os' = s1.os := os
  have J := I.call (h' := hh) (g' := g) (d' := d) (t' := t) (ch := []) un hok bare (fun b z => absurd z (by simp))
  refine leave_cxL J he xo (.inr ⟨T, rfl, tt⟩) (fun z => te (Value.ref.inj z)) (fun T0 z => ?_) (Nat.le_trans I.sz l1) q
  obtain rfl : T = T0 := Value.ref.inj z
  exact ⟨hT, Nat.le_trans I.sz l2⟩
end
section
variable {P : Program} {w : World} {K : PySem.W.Frag} {mg : Str → Option Value} {base : Heap} {f : Addr} {fd : FuncData} {C : Addr}
theorem ok_lam {gq T' NT cell lf c' : Addr} {dq : FuncData} {n k : Nat} {pm ctv u : Value} {oc : Obj} {ws : Array Value} {tq : Tok} {d : V} (GNQ : FnOk P w K mg base (CXe P w) (k + 3) gq dq ["scan", "deep"] (spNQ C NT T' (LT T') n)) (bNQ : Binds K dq ["scan", "deep"] []) (kNQ : PySem.W.keepIn K (.ref gq) = true) (mNQ : mg "next_question" = some (.ref gq))
    (hc : base.IsCell cell (some u)) (ru : RelV d u) (hd : oc.data = .fields ws) (hv : ws[1]? = some (.str lq tq)) : FnOk P w K mg base (CXe P w) (k + 4) lf (lF cell pm c' ctv) ["behind"] (spLm C NT T' n cell pm lf c' ctv oc d) := by
  refine lam_fn scL hc ru hd hv (fun us H Q E h => ⟨h.1, h.2.1, let ⟨r, e, _⟩ := h.2.2; ⟨_, e⟩⟩) fun A outer s H v Q E hr h => ?_
  obtain ⟨h1, h2, r, e, hq⟩ := h
  cases e
  refine ⟨_, pe_call GNQ hr rfl mNQ kNQ bNQ .nil passXL (pa_cons (pv 0) (pa_cons (pv 1) pa_nil)), ?_⟩
  simpa only [and_self]
  exact hq
theorem scNB : FnScope ["scan", "deep", "kind", "parts", "between"] ["scan", "deep"] (defScope sNB) := ⟨rfl, rfl, rfl, by decide +kernel, rfl, by decide +kernel, by decide +kernel⟩
theorem ok_nb {gs go gq gn gp gl aS T' cc NT FE : Addr} {ds dO dq dn dp dl : FuncData} {n k : Nat} {oc kV doc pm ct : Value} {od an : Option Addr} {osl : Array (Option Value)}
    (lk : K.lookup f = some ⟨oc, od, .func (PySem.W.fnOf "next_bracket" "next_bracket" (defArgs sNB) (defBody sNB) (defScope sNB) .none kV doc pm an (.ref cc) ct), osl⟩) (hcd : PySem.W.codeIn K (.ref cc) "next_bracket" = true) (hCd : PySem.W.codeHdIn K cc T' = true) (hB : Bmod base mg) (cl : Cls K C) (xc : XCls0 K NT FE) (kX : PySem.W.keepIn K (.ref NT) = true) (mX : mg "NoText" = some (.ref NT))
    (GSe : FnOk P w K mg base CX0 1 gs ds ["self", "text"] (spSees C)) (bSe : Binds K ds ["self", "text"] []) (mSe : Meth K C "sees" gs)
    (GPO : FnOk P w K mg base (CXe P w) 3 go dO ["self", "text"] (spPO C NT T')) (bPO : Binds K dO ["self", "text"] []) (mPO : Meth K C "pass_over" go)
    (GNQ' : ∀ base', Bmod base' mg → FnOk P w K mg base' (CXe P w) (k + 3) gq dq ["scan", "deep"] (spNQ C NT T' (LT T') n)) (bNQ : Binds K dq ["scan", "deep"] []) (kNQ : PySem.W.keepIn K (.ref gq) = true) (mNQ : mg "next_question" = some (.ref gq))
    (GNO : FnOk P w K mg base (CXe P w) (k + 4) gn dn ["scan", "kind", "deep"] (spNO C NT T' (LT T') n)) (bNO : Binds K dn ["scan", "kind", "deep"] []) (kNO : PySem.W.keepIn K (.ref gn) = true) (mNO : mg "next_none_or_one" = some (.ref gn))
    (FNL : Fun K "next_list" "next_list" sNL gl dl) (bNL : Binds K dl ["scan", "between", "next_one"] []) (kNL : PySem.W.keepIn K (.ref gl) = true) (mNL : mg "next_list" = some (.ref gl))
    (GPa' : ∀ base', FnOk P w K mg base' CX0 2 gp dp ["self", "text"] (spPas C)) (bPa : Binds K dp ["self", "text"] []) (mPa : Meth K C "passes" gp)
    (hSI : mg "SIGNS" = some (.ref aS)) (kdS : KD P w K aS kvS) :
    FnOk P w K mg base (CXe P w) (k + 6) f (PySem.W.fnOf "next_bracket" "next_bracket" (defArgs sNB) (defBody sNB) (defScope sNB) .none kV doc pm an (.ref cc) ct) ["scan", "deep"] (spNB C NT T' (LT T') n) := by
  refine fn_of lk hcd scNB (fun vs H Q E h => ?_) (fun A outer s H vs Q E hr h => ?_)
  · obtain ⟨r, d, rfl, _⟩ := h
    rfl
  obtain ⟨r, d, rfl, hdn, dx, z, i, hr', hi, hz, hcn, htb, q1, q2⟩ := h
  have GNQ := GNQ' base hB
  have hr1 : Room 1 _ := hr.mono (by omega)
  have hr3 : Room 3 _ := hr.mono (by omega)
  have hrq : Room (k + 3) _ := hr.mono (by omega)
  have hrn : Room (k + 4) _ := hr.mono (by omega)
  have t := lt_tb T'
  have FLam : ∀ (base' : Heap) (lf c' : Addr) (ctv u : Value) (oc : Obj) (ws : Array Value) (tq : Tok) (d : V), (∀ b o, base.get? b = some o → base'.get? b = some o) → base'.IsCell (s.heap.objs.size + 1) (some u) → RelV d u → oc.data = .fields ws → ws[1]? = some (.str lq tq) →
      FnOk P w K mg base' (CXe P w) (k + 5) gl dl ["scan", "between", "next_one"] (spNL K C NT T' lf (LT2 T' lf c' (lO (s.heap.objs.size + 1) ((mg "__name__").getD .none) c' ctv) oc) (fun l => cnt l ≤ n) (rq tkP n) dvQ (spLm C NT T' n (s.heap.objs.size + 1) ((mg "__name__").getD .none) lf c' ctv oc d)) :=
    fun base' lf c' ctv u oc ws tq d hk hc ru h1 h2 => ok_nl (k := k + 2) FNL cl (lt2_tb T' lf c' _ _) xc kX mX (ok_lam (GNQ' base' (hB.keeps hk)) bNQ kNQ mNQ hc ru h1 h2) (fun _ us _ hl => match us, hl with | [_], _ => BindsTo.of_eq rfl) (GPa' base') bPa mPa
  refine ⟨_, ((pss_cons (ps_for PassesOwn.leaving rfl (pi_kd kdS (pe_gref rfl hSI)) (pg_name (i := 2) scNB.nd rfl (Or.inl rfl))
      (pss_one (ps_if (pt_val (pe_meth (pv 0) cl mSe GSe hr1 bSe .nil pass0 (pa_cons (pe_kget kdS (pe_gref rfl hSI) (pv 2) (fun _ _ => rfl)) pa_nil))) (pss_one (ps_ret (pe_call GNO hrn rfl mNO kNO bNO .nil passX (pa_cons (pv 0) (pa_cons (pv 2) (pa_cons (pv 1) pa_nil)))))) pss_nil)))
    (pss_cons (ps_set (i := 3) scNB.nd rfl (Or.inl rfl) (pe_lst (pa_cons (pe_call GNQ hrq rfl mNQ kNQ bNQ .nil passX (pa_cons (pv 0) (pa_cons (pv 1) pa_nil))) pa_nil)))
    (pss_cons (ps_set (i := 2) scNB.nd rfl (Or.inl rfl) (pe_ifExp (pt_val (pe_meth (pv 0) cl mSe GSe hr1 bSe .nil pass0 (pa_cons pe_str pa_nil))) pe_str pe_str))
    (pss_cons (ps_set (i := 4) scNB.nd rfl (Or.inl rfl) (pe_op op_add_str (pe_op op_add_str pe_str (pe_kget kdS (pe_gref rfl hSI) (pv 2) (fun _ _ => rfl))) pe_str))
    (pss_cons (ps_expr (pe_meth (pv 0) cl mPO GPO hr3 bPO .nil passX (pa_cons (pv 4) pa_nil)))
    (pss_cons (ps_expr (bmK K PySem.F.plainAttrs_list PySem.F.slot_list_extend PySem.F.type_list_extend mt_extend (pv 3) (pa_cons (pe_callLam (i := 1) (x := "deep") (q := lq) rfl rfl rfl rfl FLam hr rfl mNL kNL bNL passX (pa_cons (pv 0) (pa_cons (pv 4) (pa_cons (pe_lam rfl rfl rfl hCd hB) pa_nil)))) pa_nil)))
    (pss_cons (ps_expr (pe_meth (pv 0) cl mPO GPO hr3 bPO .nil passX (pa_cons pe_str pa_nil)))
    (pss_one (ps_ret (pe_tup (pa_cons (pv 2) (pa_cons (pv 3) pa_nil))))))))))))), ?_⟩
  refine seq_inv (fun σ L => ∃ v2 v3 v4 : Option V, σ = [some (.ref r), some (.int (d : Int)), v2, v3, v4] ∧ L = H ∧ ((cs z).drop i).head? ≠ some 38 ∧ ((cs z).drop i).head? ≠ some 124) ?_ (fun N hN => ?_)
  rotate_left
  · simpa only [iKd]
    refine forW_kd (fun j σ M => ∃ v2 : Option V, σ = [some (.ref r), some (.int (d : Int)), v2, none, none] ∧ M = H ∧ (1 ≤ j → ((cs z).drop i).head? ≠ some 38) ∧ (2 ≤ j → ((cs z).drop i).head? ≠ some 124)) ⟨_, rfl, rfl, fun h => by omega, fun h => by omega⟩ ?_ ?_
    · rintro j k' v σ M hk ⟨v2, rfl, rfl, hj1, hj2⟩
      simpa only [tMeth, tKGet]
      obtain ⟨b', hj', rfl, hval⟩ := kvS_at hk
      refine ⟨dx, _, hr', rfl, _, rfl, _, hval, ⟨r, dx, z, sgS b', i, rfl, hr', hi, ⟨_, rfl, ?_⟩⟩⟩
      refine ite2 (fun c => ?_) (fun c => ?_)
      · have hh := (pre_head (cs_sg b')).mp c
        have hb := rBrk_sg (rec := rq tkP n) hh
        exact ⟨r, d, b', rfl, hdn, dx, z, i, hr', hi, hz, ⟨hh, hcn⟩, htb, fun a j h1 h2 e => q1 a j h1 h2 (by rw [hb]; exact e), fun e => q2 (by rw [hb]; exact e)⟩
      · have hh := no_pre (cs_sg b') (Bool.eq_false_iff.mpr c)
        refine ⟨rfl, fun h => ?_, fun h => ?_⟩
        · cases b' with
          | true => exact hh
          | false => exact hj1 (by rw [hj']; simp)
        · cases b' with
          | true => rw [hj'] at h; simp at h
          | false => exact hh
    · rintro σ M ⟨v2, rfl, rfl, hj1, hj2⟩
      exact hN _ _ ⟨_, _, _, rfl, rfl, hj1 (by decide), hj2 (by decide)⟩
  rintro σ L ⟨v2, v3, v4, rfl, rfl, n38, n124⟩
  have hBk : rBrk (rq tkP n) ((cs z).drop i) = match rq tkP n ((cs z).drop i) with | none => none | some x => rTwo (rq tkP n) x.1 (pre " & " x.2) x.2 := by
    unfold rBrk
    rw [if_neg n38, if_neg n124]
    all_goals (cases rq tkP n ((cs z).drop i) <;> rfl)
  refine seq_inv (fun σ X => ∃ (q0 : Qn) (j0 : Nat) (p : Addr) (v : V) (v2 v4 : Option V), σ = [some (.ref r), some (.int (d : Int)), v2, some (.ref p), v4] ∧ i ≤ j0 ∧ j0 ≤ z.length ∧ rq tkP n ((cs z).drop i) = some (q0, (cs z).drop j0) ∧ L p = none ∧ X p = some (.lst [v]) ∧ ExtT r T' L X ∧ X r = some (.ins C dx (sc z (j0 : Nat))) ∧ LT T' X ∧ DeepT (fun b => if b = p then none else nw L X b) (dvQ q0) v) ?_ (fun N hN => ?_)
  rotate_left
  · simpa only [and_self]
    refine ⟨r, d, rfl, hdn, dx, z, i, hr', hi, hz, hcn, htb, fun q0 j0 h1 h2 e v M eM hM tM dM => ⟨by decide, fun p hp => ?_⟩, fun e => q2 (by rw [hBk, e])⟩
    have rp : r ≠ p := fun e => by rw [e, hp] at hM; cases hM
    obtain ⟨psM, hTM⟩ := t.at_ _ tM
    obtain ⟨g1, g2, g3, _⟩ := fin_lst (ds := [dvQ q0]) (xs := [v]) t eM hM tM hp (DeepTs.one dM)
    refine hN _ _ ⟨q0, j0, p, v, _, _, rfl, h1, h2, e, none_ext eM hM hTM hp, upd_same, g1, g2, g3, DeepT.same (fun b' o' e' => ?_) _ _ dM⟩
    obtain ⟨e1, e2⟩ := nw_some e'
    have bp := ne_of_none e2 hp
    rw [if_neg bp, nw_at e1, upd_ne bp]
    exact e2
  rintro σ X ⟨q0, j0, p, v, v2', v4', rfl, hj0, hj0z, hq0, hpL, hXp, eX, hXr, tX, dX⟩
  rw [hq0] at hBk
  obtain ⟨psX, hTX⟩ := t.at_ _ tX
  refine seq_inv (fun σ Y => ∃ b : Bool, b = pre " & " ((cs z).drop j0) ∧ σ = [some (.ref r), some (.int (d : Int)), some (.str (boN b)), some (.ref p), v4'] ∧ Y = X) ?_ (fun N hN => ?_)
  rotate_left
  · simpa only [tMeth]
    refine ⟨dx, _, hXr, rfl, ⟨r, dx, z, " & ", j0, rfl, hXr, hj0z, ⟨_, rfl, ?_⟩⟩⟩
    refine ite2 (fun c => hN _ _ ⟨true, c.symm, rfl, rfl⟩) (fun c => hN _ _ ⟨false, (Bool.eq_false_iff.mpr c).symm, rfl, rfl⟩)
  rintro σ Y ⟨b, hb, rfl, rfl⟩
  have hBk2 : rBrk (rq tkP n) ((cs z).drop i) = rTwo (rq tkP n) q0 b ((cs z).drop j0) := by rw [hBk, hb]
  unfold rTwo at hBk2
  clear hBk hb
  simpa only [tMeth, tKGet, tCallLam, tLam]
  refine ⟨.inr (boN b), rfl, _, kvS_b b, _, rfl, by cases b <;> decide +kernel, by cases b <;> decide +kernel, dx, _, hXr, rfl, ⟨r, dx, z, bt b, j0, rfl, hXr, hj0z, by rw [ln_bt]; decide, fun hp => ?_, fun hp => (q2 ?_).on eX hXr hTX⟩⟩
  rotate_left
  · rw [hBk2]
    refine if_neg ?_
    unfold pre at hp
    rw [cs_bt] at hp
    rw [hp]
    exact Bool.false_ne_true
  rw [ln_bt]
  have hl2 : j0 + 3 ≤ z.length := by have := pre_len hp hj0z; rwa [ln_bt] at this
  unfold pre at hp
  rw [cs_bt] at hp
  rw [if_pos hp, List.drop_drop] at hBk2
  clear hp
  have pr : p ≠ r := fun e => by rw [e, hr'] at hpL; cases hpL
  have pT : p ≠ T' := fun e => by rw [e, hTX] at hXp; cases hXp
  have rT : r ≠ T' := fun e => by rw [e, hTX] at hXr; cases hXr
  refine ⟨.inl ⟨rfl, _, SqL.of (by rw [upd_ne pr]; exact hXp)⟩, t.sameX tX hXr (SameX.refl.upd _), fun lf c' ctv oc vs tq H' hG hlf hc' hod hvs hT' => ?_⟩
  have hlf' : H' lf = some (L2.cst (lO (s.heap.objs.size + 1) ((mg "__name__").getD .none) c' ctv)) := hlf
  have hYr : H' r = some (.ins C dx (sc z ((j0 + 3 : Nat) : Int))) := hG r _ upd_same rT
  have hYp : H' p = some (.lst [v]) := hG p _ (by rw [upd_ne pr]; exact hXp) pT
  obtain ⟨psL, hTL⟩ := t.at_ _ htb
  have toH : ∀ b' o', L b' = some o' → b' ≠ r → b' ≠ T' → H' b' = some o' := fun b' o' e n1 n2 => hG b' o' (by rw [upd_ne n1]; exact eX b' o' e n1 n2) n2
  refine ⟨lf, c', ctv, oc, vs, hod, tq, hvs, ⟨r, dx, z, bt b, j0 + 3, rfl, .inr ⟨_, _, _, _, hlf'⟩, hYr, hl2, hz, ?_, fun j hj => Nat.le_trans (cnt_drop i _ (by omega)) hcn, by rw [ln_bt]; decide, by rw [ln_bt]; decide, ⟨.inr ⟨c', oc, vs, tq, hT', hc', hod, hvs⟩, hlf', hc'⟩, fun qs j h1 h2 hql el p2 xs M eM hMr tM hp2 hMp dM => ?_, fun el => (q2 ?_).on (fun b' o' e n1 n2 => toH b' o' e n1 n2) hYr hT'⟩⟩
  · intro H1 Q1 E1 _ hpf
    have hpf' := hpf
    obtain ⟨_, _, _, _, _, _, _, ⟨_, h1, h2⟩, _⟩ := hpf'
    exact ⟨h1, h2, r, rfl, ⟨r, d, rfl, hdn, pf_lt hpf⟩⟩
  rotate_left
  · rw [cs_bt] at el
    rw [hBk2, el]
  rw [cs_bt] at el
  rw [el] at hBk2
  have hMp1 : M p = some (.lst [v]) := eM p _ hYp pr pT
  have hxl : xs.length ≤ 401 := by rw [DeepTs.length dM, List.length_map]; exact hql
  have eLM : ExtT r T' L M := fun b' o' e n1 n2 => eM b' o' (toH b' o' e n1 n2) n1 n2
  obtain ⟨psM, hTM⟩ := t.at_ _ tM.1
  have eLM2 : ExtT r T' L (upd M p (.lst ([v] ++ xs))) := fun b' o' e n1 n2 => by rw [upd_ne (ne_of_none e hpL)]; exact eLM b' o' e n1 n2
  have hMr2 : upd M p (.lst ([v] ++ xs)) r = some (.ins C dx (sc z (j : Nat))) := by rw [upd_ne pr.symm]; exact hMr
  have hTM2 : upd M p (.lst ([v] ++ xs)) T' = some (.tbl psM) := by rw [upd_ne pT.symm]; exact hTM
  refine ⟨p, p2, [v], xs, rfl, rfl, hMp1, hMp, small (by simp; omega), dx, _, hMr2, rfl, ⟨r, dx, z, ")", j, rfl, hMr2, h2, by decide, fun hp => ⟨by decide, fun p1 hp1 => ?_⟩, fun hp => (q2 (by rw [hBk2]; exact if_neg (no_pre csR hp))).on eLM2 hMr2 hTM2⟩⟩
  have hh := (pre_head csR).mp hp
  have o1 : (")" : Str).length = 1 := by decide
  rw [o1] at hp1 ⊢
  have tF : LT T' (upd (upd M p (.lst ([v] ++ xs))) r (.ins C dx (sc z ((j + 1 : Nat) : Int)))) := t.sameX (t.put tM.1 (.inl hMp1)) hMr2 (SameX.refl.upd _)
  have toF : ∀ b' o', M b' = some o' → b' ≠ r → b' ≠ p → upd (upd M p (.lst ([v] ++ xs))) r (.ins C dx (sc z ((j + 1 : Nat) : Int))) b' = some o' := fun b' o' e n1 n2 => by rw [upd_ne n1, upd_ne n2]; exact e
  obtain ⟨g1, g2, g3, g4⟩ := fin_tup (ds := [.str (boN b), .lst (dvQs (q0 :: qs))]) (xs := [.str (boN b), .ref p]) t (H := L) (fun b' o' e n1 n2 => toF b' o' (eLM b' o' e n1 n2) n1 (ne_of_none e hpL)) upd_same tF hp1 (by
    rw [DeepTs]
    refine ⟨_, _, rfl, by rw [DeepT], DeepTs.one ?_⟩
    rw [DeepT]
    refine ⟨p, v :: xs, rfl, (by rw [nw_at hpL, upd_ne pr, upd_same]; rfl), ?_⟩
    rw [dvQs, dvQs_map, DeepTs]
    refine ⟨v, xs, rfl, DeepT.same (fun b' o' e' => ?_) _ _ dX, DeepTs.same (fun b' o' e' => ?_) _ _ dM⟩
    · by_cases bp : b' = p
      · rw [if_pos bp] at e'; cases e'
      · rw [if_neg bp] at e'
        obtain ⟨e1, e2⟩ := nw_some e'
        have br : b' ≠ r := fun e => by rw [e, hr'] at e1; cases e1
        have bT : b' ≠ T' := fun e => by rw [e, hTL] at e1; cases e1
        rw [nw_at e1]
        exact toF b' o' (eM b' o' (hG b' o' (by rw [upd_ne br]; exact e2) bT) br bT) br bp
    · obtain ⟨e1, e2⟩ := nw_some e'
      have br : b' ≠ r := fun e => by rw [e, hYr] at e1; cases e1
      have bp : b' ≠ p := fun e => by rw [e, hYp] at e1; cases e1
      have bT : b' ≠ T' := fun e => by rw [e, hT'] at e1; cases e1
      have bL : L b' = none := by
        cases h : L b' with
        | none => rfl
        | some u => rw [toH b' u h br bT] at e1; cases e1
      rw [nw_at bL]
      exact toF b' o' e2 br bp)
  refine q1 (.bo b (q0 :: qs)) (j + 1) (by omega) (head_lt hh) ?_ _ _ g1 g2 g3 (by rw [dvQ]; exact g4)
  rw [hBk2, tail_at]
  exact if_pos hh
end
theorem fn_false {P : Program} {w : World} {K : PySem.W.Frag} {mg : Str → Option Value} {base : Heap} {CX : CXT} {k : Nat} {f : Addr} {fd : FuncData} {ps : List Str} : FnOk P w K mg base CX k f fd ps (fun _ _ _ _ => False) := ⟨fun _ _ _ _ h => h.elim, fun _ _ _ _ _ _ _ _ _ _ _ _ _ h => h.elim⟩
section
variable {P : Program} {w : World} {K : PySem.W.Frag} {mg : Str → Option Value} {base : Heap} {f : Addr} {fd : FuncData} {C : Addr}
theorem scNQ : FnScope ["scan", "deep"] ["scan", "deep"] (defScope sNQ) := ⟨rfl, rfl, rfl, by decide +kernel, rfl, by decide +kernel, by decide +kernel⟩
theorem ok_nq1 {gd gp gb ga T' NT : Addr} {dd dp db da : FuncData} {n k : Nat} {SQ SB : Sp} (F : Fun K "next_question" "next_question" sNQ f fd) (cl : Cls K C)
    (GDp : FnOk P w K mg base CX0 1 gd dd ["deep"] (fun vs H Q _ => ∃ d : Int, vs = [.int d] ∧ d ≤ 60 ∧ Q .non H)) (bDp : Binds K dd ["deep"] []) (kDp : PySem.W.keepIn K (.ref gd) = true) (mDp : mg "look_at_depth" = some (.ref gd))
    (GPa : FnOk P w K mg base CX0 2 gp dp ["self", "text"] (spPas C)) (bPa : Binds K dp ["self", "text"] []) (mPa : Meth K C "passes" gp)
    (GNQ : FnOk P w K mg base (CXe P w) (k + 8) f fd ["scan", "deep"] SQ) (bNQ : Binds K fd ["scan", "deep"] []) (mNQ : mg "next_question" = some (.ref f))
    (GNB : FnOk P w K mg base (CXe P w) (k + 11) gb db ["scan", "deep"] SB) (bNB : Binds K db ["scan", "deep"] []) (kNB : PySem.W.keepIn K (.ref gb) = true) (mNB : mg "next_bracket" = some (.ref gb))
    (GNA : FnOk P w K mg base (CXe P w) 8 ga da ["scan"] (spNA C NT T' (LT T'))) (bNA : Binds K da ["scan"] []) (kNA : PySem.W.keepIn K (.ref ga) = true) (mNA : mg "next_asked" = some (.ref ga))
    (hS : ∀ m, n = m + 1 → SQ = spNQ C NT T' (LT T') m ∧ SB = spNB C NT T' (LT T') m) : FnOk P w K mg base (CXe P w) (k + 12) f fd ["scan", "deep"] (spNQ C NT T' (LT T') n) := by
  have kNQ := F.kp
  refine F.okX scNQ (fun vs H Q E h => ?_) (fun cdv A outer s H vs Q E hr h => ?_)
  · obtain ⟨r, d, rfl, _⟩ := h
    rfl
  obtain ⟨r, d, rfl, hdn, dx, z, i, hr', hi, hz, hcn, htb, q1, q2⟩ := h
  have hr1 : Room 1 _ := hr.mono (by omega)
  have hr2 : Room 2 _ := hr.mono (by omega)
  have hr8 : Room 8 _ := hr.mono (by omega)
  have hrq : Room (k + 8) _ := hr.mono (by omega)
  have hrb : Room (k + 11) _ := hr
  have t := lt_tb T'
  refine ⟨_, (pss_cons (ps_expr (pe_call GDp hr1 rfl mDp kDp bDp .nil pass0 (pa_cons (pv 1) pa_nil)))
    (pss_cons (ps_if (pt_val (pe_meth (pv 0) cl mPa GPa hr2 bPa .nil pass0 (pa_cons pe_str pa_nil))) (pss_one (ps_ret (pe_tup (pa_cons pe_str (pa_cons (pe_call GNQ hrq rfl mNQ kNQ bNQ .nil passX (pa_cons (pv 0) (pa_cons (pe_op op_add (pv 1) pe_int) pa_nil))) pa_nil))))) pss_nil)
    (pss_cons (ps_if (pt_val (pe_meth (pv 0) cl mPa GPa hr2 bPa .nil pass0 (pa_cons pe_str pa_nil))) (pss_one (ps_ret (pe_call GNB hrb rfl mNB kNB bNB .nil passX (pa_cons (pv 0) (pa_cons (pe_op op_add (pv 1) pe_int) pa_nil))))) pss_nil)
    (pss_one (ps_ret (pe_call GNA hr8 rfl mNA kNA bNA .nil passX (pa_cons (pv 0) pa_nil))))))), ?_⟩
  simpa only [tMeth]
  refine ⟨by omega, dx, _, hr', rfl, ⟨r, dx, z, "!", i, rfl, hr', hi, by decide, fun hp => ⟨true, rfl, ?_⟩, fun hp => ⟨false, rfl, ?_⟩⟩⟩
  · rw [if_pos rfl]
    have h33 := (pre_head csE).mp hp
    cases n with
    | zero => exact (cnt_zero h33 (.inl rfl) hcn).elim
    | succ m =>
      rw [(hS m rfl).1]
      have hR : rq tkP (m + 1) ((cs z).drop i) = match rq tkP m ((cs z).drop (i + 1)) with | none => none | some x => some (.nt x.1, x.2) := by
        rw [rq, if_pos h33, tail_at]
        all_goals (cases rq tkP m ((cs z).drop i).tail <;> rfl)
      have s1 : SameX r H (upd H r (.ins C dx (sc z ((i + 1 : Nat) : Int)))) := SameX.refl.upd _
      have o1 : ("!" : Str).length = 1 := by decide
      rw [o1]
      refine ⟨r, d + 1, by simp, by omega, dx, z, i + 1, upd_same, head_lt h33, hz, by rw [tail_at]; exact cnt_tail h33 (.inl rfl) hcn, t.sameX htb hr' s1, fun q' j h1 h2 e v M eM hM tM dM => ⟨by decide, fun p hp' => ?_⟩, fun e => (q2 (by rw [hR, e])).onX s1 upd_same⟩
      obtain ⟨g1, g2, g3, g4⟩ := fin_tup (ds := [.str "not", dvQ q']) (xs := [.str "not", v]) t ((ExtT.of s1).trans eM) hM tM hp' (by
        rw [DeepTs]
        exact ⟨_, _, rfl, by rw [DeepT], DeepTs.one (DeepT.same (nw_mono (sameX_none s1 upd_same)) _ _ dM)⟩)
      exact q1 (.nt q') j (by omega) h2 (by rw [hR, e]) _ _ g1 g2 g3 (by rw [dvQ]; exact g4)
  rw [if_neg Bool.false_ne_true]
  have n33 := no_pre csE hp
  refine ⟨dx, _, hr', rfl, ⟨r, dx, z, "(", i, rfl, hr', hi, by decide, fun hp2 => ⟨true, rfl, ?_⟩, fun hp2 => ⟨false, rfl, ?_⟩⟩⟩
  · rw [if_pos rfl]
    have h40 := (pre_head csL).mp hp2
    cases n with
    | zero => exact (cnt_zero h40 (.inr rfl) hcn).elim
    | succ m =>
      rw [(hS m rfl).2]
      have hR : rq tkP (m + 1) ((cs z).drop i) = rBrk (rq tkP m) ((cs z).drop (i + 1)) := by
        rw [rq, if_neg n33, if_pos h40, tail_at]
      have s1 : SameX r H (upd H r (.ins C dx (sc z ((i + 1 : Nat) : Int)))) := SameX.refl.upd _
      have o1 : ("(" : Str).length = 1 := by decide
      rw [o1]
      refine ⟨r, d + 1, by simp, by omega, dx, z, i + 1, upd_same, head_lt h40, hz, by rw [tail_at]; exact cnt_tail h40 (.inr rfl) hcn, t.sameX htb hr' s1, fun q' j h1 h2 e v M eM hM tM dM => q1 q' j (by omega) h2 (by rw [hR, e]) v M ((ExtT.of s1).trans eM) hM tM (DeepT.same (nw_mono (sameX_none s1 upd_same)) _ _ dM), fun e => (q2 (by rw [hR, e])).onX s1 upd_same⟩
  rw [if_neg Bool.false_ne_true]
  have n40 := no_pre csL hp2
  have hR : rq tkP n ((cs z).drop i) = rLf tkP ((cs z).drop i) := by
    cases n with
    | zero => rw [rq, if_neg n33, if_neg n40]
    | succ m => rw [rq, if_neg n33, if_neg n40]
  rw [hR] at q1 q2
  exact ⟨r, rfl, dx, z, i, hr', hi, hz, trivial, htb, q1, q2⟩
end
section
variable {P : Program} {w : World} {K : PySem.W.Frag} {mg : Str → Option Value} {base : Heap} {f : Addr} {fd : FuncData} {C : Addr}
theorem ok_nqs {gd gp gb ga gs go gn gl aS T' cc NT FE : Addr} {dd dp da ds dO dn dl : FuncData} {oc kV doc pm ct : Value} {od an : Option Addr} {osl : Array (Option Value)} (F : Fun K "next_question" "next_question" sNQ f fd) (bNQ : Binds K fd ["scan", "deep"] []) (mNQ : mg "next_question" = some (.ref f)) (cl : Cls K C) (xc : XCls0 K NT FE) (kX : PySem.W.keepIn K (.ref NT) = true) (mX : mg "NoText" = some (.ref NT))
    (GDp : ∀ base, FnOk P w K mg base CX0 1 gd dd ["deep"] (fun vs H Q _ => ∃ d : Int, vs = [.int d] ∧ d ≤ 60 ∧ Q .non H)) (bDp : Binds K dd ["deep"] []) (kDp : PySem.W.keepIn K (.ref gd) = true) (mDp : mg "look_at_depth" = some (.ref gd))
    (GPa : ∀ base, FnOk P w K mg base CX0 2 gp dp ["self", "text"] (spPas C)) (bPa : Binds K dp ["self", "text"] []) (mPa : Meth K C "passes" gp)
    (GSe : ∀ base, FnOk P w K mg base CX0 1 gs ds ["self", "text"] (spSees C)) (bSe : Binds K ds ["self", "text"] []) (mSe : Meth K C "sees" gs)
    (GPO : ∀ base, FnOk P w K mg base (CXe P w) 3 go dO ["self", "text"] (spPO C NT T')) (bPO : Binds K dO ["self", "text"] []) (mPO : Meth K C "pass_over" go)
    (GNA : ∀ base, FnOk P w K mg base (CXe P w) 8 ga da ["scan"] (spNA C NT T' (LT T'))) (bNA : Binds K da ["scan"] []) (kNA : PySem.W.keepIn K (.ref ga) = true) (mNA : mg "next_asked" = some (.ref ga))
    (lk : K.lookup gb = some ⟨oc, od, .func (PySem.W.fnOf "next_bracket" "next_bracket" (defArgs sNB) (defBody sNB) (defScope sNB) .none kV doc pm an (.ref cc) ct), osl⟩) (hcd : PySem.W.codeIn K (.ref cc) "next_bracket" = true) (hCd : PySem.W.codeHdIn K cc T' = true)
    (bNB : Binds K (PySem.W.fnOf "next_bracket" "next_bracket" (defArgs sNB) (defBody sNB) (defScope sNB) .none kV doc pm an (.ref cc) ct) ["scan", "deep"] []) (kNB : PySem.W.keepIn K (.ref gb) = true) (mNB : mg "next_bracket" = some (.ref gb))
    (FNO : Fun K "next_none_or_one" "next_none_or_one" sNO gn dn) (bNO : Binds K dn ["scan", "kind", "deep"] []) (mNO : mg "next_none_or_one" = some (.ref gn))
    (FNL : Fun K "next_list" "next_list" sNL gl dl) (bNL : Binds K dl ["scan", "between", "next_one"] []) (mNL : mg "next_list" = some (.ref gl))
    (hSI : mg "SIGNS" = some (.ref aS)) (kdS : KD P w K aS kvS) : ∀ (n : Nat) (base : Heap), Bmod base mg → FnOk P w K mg base (CXe P w) (4 * n + 12) f fd ["scan", "deep"] (spNQ C NT T' (LT T') n)
  | 0, base, _ => ok_nq1 (k := 0) (n := 0) F cl (GDp base) bDp kDp mDp (GPa base) bPa mPa (SQ := fun _ _ _ _ => False) (SB := fun _ _ _ _ => False) fn_false bNQ mNQ (gb := gb) fn_false bNB kNB mNB (GNA base) bNA kNA mNA (fun m e => by cases e)
  | n + 1, base, hB => by
    have ih := ok_nqs F bNQ mNQ cl xc kX mX GDp bDp kDp mDp GPa bPa mPa GSe bSe mSe GPO bPO mPO GNA bNA kNA mNA lk hcd hCd bNB kNB mNB FNO bNO mNO FNL bNL mNL hSI kdS n
    have e8 : 4 * n + 12 = 4 * (n + 1) + 8 := by omega
    have ih' : ∀ base', Bmod base' mg → FnOk P w K mg base' (CXe P w) (4 * n + 9 + 3) f fd ["scan", "deep"] (spNQ C NT T' (LT T') n) := fun b h => ih b h
    have NO := ok_no (k := 4 * n + 9) (FE := FE) FNO cl (lt_tb T') (GPa base) bPa mPa (GPO base) bPO mPO (ih' base hB) bNQ F.kp mNQ hSI kdS
    have NB := ok_nb (k := 4 * n + 9) lk hcd hCd hB cl xc kX mX (GSe base) bSe mSe (GPO base) bPO mPO ih' bNQ F.kp mNQ NO bNO FNO.kp mNO FNL bNL FNL.kp mNL GPa bPa mPa hSI kdS
    exact ok_nq1 (k := 4 * (n + 1)) (n := n + 1) F cl (GDp base) bDp kDp mDp (GPa base) bPa mPa (by rw [← e8]; exact ih base hB) bNQ mNQ NB bNB kNB mNB (GNA base) bNA kNA mNA (fun m e => by cases e; exact ⟨rfl, rfl⟩)
theorem scRQ : FnScope ["line", "scan", "question"] ["line"] (defScope sRQ) := ⟨rfl, rfl, rfl, by decide +kernel, rfl, by decide +kernel, by decide +kernel⟩
def rAll (tl : List Nat → Option (Str × List Nat)) (n : Nat) (l : List Nat) : Option Qn := match rq tl n l with
  | none => none
  | some x => if x.2 = [] then some x.1 else none
def Bad1 (NT T : Addr) (H : Hp) (E : XK) : Prop := ∀ e H', (∀ b o, H b = some o → b ≠ T → H' b = some o) → H e = none → H' e = some (XO e (.ref NT) none) → E (.ref e) none H'
def spRQ (NT T : Addr) (n : Nat) : Sp := fun vs H Q E => ∃ z : Str, vs = [.str z] ∧ z.length ≤ 400 ∧ cnt (cs z) ≤ n ∧ n ≤ 59 ∧ LT T H ∧ (∀ q, rAll tkP n (cs z) = some q → ∀ v H', (∀ b o, H b = some o → b ≠ T → H' b = some o) → LT T H' → DeepT (nw H H') (dvQ q) v → Q v H') ∧ (rAll tkP n (cs z) = none → Bad1 NT T H E)
theorem ok_rq {gi ge gq T' NT FE : Addr} {di de dq : FuncData} {n k : Nat} (F : Fun K "read_question" "read_question" sRQ f fd) (cl : Cls K C) (xc : XCls0 K NT FE) (MI : Mk K C gi) (mI : mg "Scan" = some (.ref C)) (GI : FnOk P w K mg base CX0 1 gi di ["self", "line"] (spSI C)) (bI : Binds K di ["self", "line"] [])
    (GEn : FnOk P w K mg base (CXe P w) 1 ge de ["self"] (spEnd C NT T')) (bEn : Binds K de ["self"] []) (mEn : Meth K C "look_at_end" ge)
    (GNQ : FnOk P w K mg base (CXe P w) (k + 3) gq dq ["scan", "deep"] (spNQ C NT T' (LT T') n)) (bNQ : Binds K dq ["scan", "deep"] []) (kNQ : PySem.W.keepIn K (.ref gq) = true) (mNQ : mg "next_question" = some (.ref gq)) : FnOk P w K mg base (CXe P w) (k + 4) f fd ["line"] (spRQ NT T' n) := by
  refine F.okX scRQ (fun vs H Q E h => ?_) (fun cdv A outer s H vs Q E hr h => ?_)
  · obtain ⟨z, rfl, _⟩ := h
    rfl
  obtain ⟨z, rfl, hz, hcn, hn, htb, q1, q2⟩ := h
  have hr1 : Room 1 _ := hr.mono (by omega)
  have hr2 : Room 2 _ := hr.mono (by omega)
  refine ⟨_, (pss_cons (ps_set (i := 1) scRQ.nd rfl (Or.inl rfl) (pe_make MI GI hr2 rfl mI bI .nil pass0 (pa_cons (pv 0) pa_nil)))
    (pss_cons (ps_set (i := 2) scRQ.nd rfl (Or.inl rfl) (pe_call GNQ hr rfl mNQ kNQ bNQ .nil passX (pa_cons (pv 1) (pa_cons pe_int pa_nil))))
    (pss_cons (ps_expr (pe_meth0 (pv 1) cl mEn GEn hr1 bEn .nil passX))
    (pss_one (ps_ret (pv 2)))))), ?_⟩
  simpa only [tMake, tMeth]
  intro x dx hx hdx hne
  have t := lt_tb T'
  refine ⟨x, dx, z, rfl, upd_same, rfl, ?_⟩
  rw [upd_upd]
  have old : ∀ b o, H b = some o → upd (upd H dx (.own x)) x (.ins C dx (sc z 0)) b = some o := fun b o e => by rw [upd_ne (ne_of_none e hx), upd_ne (ne_of_none e hdx)]; exact e
  have oldN : ∀ b, upd (upd H dx (.own x)) x (.ins C dx (sc z 0)) b = none → H b = none := fun b e => by
    cases h : H b with
    | none => rfl
    | some u => rw [old b u h] at e; cases e
  have bad : rAll tkP n (cs z) = none → BadT NT x T' (upd (upd H dx (.own x)) x (.ins C dx (sc z 0))) E := fun e e' H' s' he hx' => q2 e e' H' (fun b o hb hT => s' b o (old b o hb) (ne_of_none hb hx) hT) (oldN _ he) hx'
  refine ⟨x, 1, rfl, by omega, dx, z, 0, upd_same, Nat.zero_le _, hz, hcn, t.put (xs := []) (t.put htb (xs := []) (.inr hdx)) (.inr (by rw [upd_ne hne.symm]; exact hx)), fun q j h1 h2 e v M eM hM tM dM => ?_, fun e => bad ?_⟩
  · have hA : rAll tkP n (cs z) = if (cs z).drop j = [] then some q else none := by
      unfold rAll
      rw [List.drop_zero] at e
      rw [e]
    obtain ⟨psM, hTM⟩ := t.at_ _ tM
    refine ⟨dx, _, hM, rfl, ⟨x, dx, z, j, rfl, hM, by omega, fun hj => ?_, fun hj => (bad ?_).on eM hM hTM⟩⟩
    · refine q1 q (by rw [hA, if_pos (List.drop_eq_nil_of_le (by rw [slen]; exact hj))]) v M (fun b o e n => eM b o (old b o e) (ne_of_none e hx) n) tM (DeepT.same (nw_mono oldN) _ _ dM)
    · rw [hA, if_neg fun h => ?_]
      have := congrArg List.length h
      rw [List.length_drop, slen] at this
      simp at this
      omega
  · unfold rAll
    rw [List.drop_zero] at e
    rw [e]
end
def jn (y : List Nat) : List (List Nat) → List Nat
  | [] => []
  | [l] => l
  | l :: m :: r => l ++ (y ++ jn y (m :: r))
def jr (y : List Nat) : List (List Nat) → List Nat
  | [] => []
  | l :: r => y ++ jn y (l :: r)
theorem jn_cons (y l : List Nat) (r : List (List Nat)) : jn y (l :: r) = l ++ jr y r := by
  cases r with
  | nil => simp [jn, jr]
  | cons m r => rfl
def okW40 (u : Str) : Prop := okWd u = true ∧ u.length ≤ 40
theorem okNm_len {u : Str} (h : okNm u = true) : u.length ≤ 12 ∧ ∀ c ∈ cs u, lowC c = true := by
  unfold okNm at h
  simp only [Bool.and_eq_true, decide_eq_true_eq, List.all_eq_true] at h
  exact ⟨h.1.2, h.2⟩
theorem okWd_all {u : Str} (h : okWd u = true) : 0 < u.length ∧ ∀ c ∈ cs u, wC c = true := by
  unfold okWd at h
  simp only [Bool.and_eq_true, decide_eq_true_eq, List.all_eq_true] at h
  exact h
def okWs (ws : List Str) : Prop := ws ≠ [] ∧ ws.length ≤ 6 ∧ ∀ u ∈ ws, okW40 u
def wj (ws : List Str) : List Nat := jn [32] (ws.map cs)
def Lf.txt : Lf → List Nat
  | .word z => cs z
  | .like z => (if bare z then [126] else []) ++ cs z
  | .row ws => 34 :: (wj ws ++ [34])
  | .nc b n ws => cs (fg n) ++ (op1 b :: (wj ws ++ [cl1 b]))
def Lf.ok : Lf → Prop
  | .word z => okW40 z
  | .like z => (∀ c ∈ cs z, isP c = true) ∧ 1 ≤ z.length ∧ z.length ≤ 40
  | .row ws => okWs ws
  | .nc _ n ws => 1 ≤ n ∧ n ≤ 20 ∧ okWs ws
def okF (f : Str) : Prop := f = "*" ∨ okNm f = true
def lfT (f : Str) (a : Lf) : List Nat := cs f ++ (58 :: a.txt)
def inn (b : Bool) : List (List Nat) → List Nat
  | [] => [sg b]
  | [l] => sg b :: 32 :: l
  | ls => jn [32, sg b, 32] ls
mutual
def shown : Qn → List Nat
  | .lf f a => lfT f a
  | .nt q => 33 :: shown q
  | .bo b qs => 40 :: (inn b (showns qs) ++ [41])
def showns : List Qn → List (List Nat)
  | [] => []
  | q :: qs => shown q :: showns qs
end
def OkQ : Nat → Qn → Prop
  | _, .lf f a => okF f ∧ a.ok
  | 0, _ => False
  | n + 1, .nt q => OkQ n q
  | n + 1, .bo _ qs => qs.length ≤ 900 ∧ ∀ q ∈ qs, OkQ n q
theorem showns_map : ∀ qs : List Qn, showns qs = qs.map shown
  | [] => by rw [showns]; rfl
  | q :: qs => by rw [showns, showns_map qs]; rfl
theorem cs_app (x y : Str) : cs (x ++ y) = cs x ++ cs y := Array.toList_append
theorem len_app (x y : Str) : (x ++ y).length = x.length + y.length := by rw [← slen, ← slen, ← slen, ← List.length_append]; exact congrArg List.length (cs_app x y)
theorem le_line {n : Nat} (h : n ≤ 1000000) : n ≤ sizeLine := by rw [sizeLine_eq]; omega
theorem ws_sum {ws : List Str} (h : okWs ws) : (ws.map (·.length)).sum ≤ 240 := by
  obtain ⟨_, h1, h2⟩ := h
  have : ∀ l : List Str, (∀ u ∈ l, u.length ≤ 40) → (l.map (·.length)).sum ≤ 40 * l.length := fun l => by
    induction l with
    | nil => intro _; exact Nat.zero_le _
    | cons a l ih =>
      intro h
      have := ih fun u hu => h u (List.mem_cons_of_mem _ hu)
      have := h a (List.mem_cons_self ..)
      rw [List.map_cons, List.sum_cons, List.length_cons]
      omega
  have := this ws fun u hu => (h2 u hu).2
  omega
theorem jn_len (y : List Nat) : ∀ zs : List Str, (jn y (zs.map cs)).length ≤ (zs.map (·.length)).sum + y.length * zs.length
  | [] => Nat.zero_le _
  | z :: r => by
    have ih := jn_len y r
    rw [List.map_cons, jn_cons, List.length_append, slen, List.map_cons, List.sum_cons, List.length_cons, Nat.mul_succ]
    cases r with
    | nil => simp [jr]
    | cons u r =>
      show z.length + (y ++ jn y ((u :: r).map cs)).length ≤ _
      rw [List.length_append]
      omega
theorem wj_len {ws : List Str} (h : okWs ws) : (wj ws).length ≤ 246 := by
  have h1 := jn_len [32] ws
  have h2 := ws_sum h
  have h3 := h.2.1
  unfold wj
  simp only [List.length_cons, List.length_nil] at h1
  omega
theorem jr_cons (y x : List Nat) (l : List (List Nat)) : jr y (x :: l) = y ++ (x ++ jr y l) := by
  show y ++ jn y (x :: l) = _
  rw [jn_cons]
theorem jr_snoc (y x : List Nat) : ∀ l : List (List Nat), jr y (l ++ [x]) = jr y l ++ (y ++ x)
  | [] => by show jr y [x] = _; rw [jr_cons]; simp [jr]
  | a :: l => by rw [List.cons_append, jr_cons, jr_cons, jr_snoc y x l]; simp
theorem jn_snoc (y x : List Nat) {l : List (List Nat)} (h : l ≠ []) : jn y (l ++ [x]) = jn y l ++ (y ++ x) := by
  cases l with
  | nil => exact absurd rfl h
  | cons a l => rw [List.cons_append, jn_cons, jn_cons, jr_snoc]; simp
theorem jr_wj {ws : List Str} (h : ws ≠ []) : (jr [32] (ws.map cs)).drop 1 = wj ws := by
  cases ws with
  | nil => exact absurd rfl h
  | cons a l => rfl
theorem jr_take (y : List Nat) : ∀ (ls : List (List Nat)) (i : Nat), (jr y (ls.take i)).length ≤ (jr y ls).length
  | [], i => by simp
  | a :: l, 0 => by simp [jr]
  | a :: l, i + 1 => by
    have := jr_take y l i
    rw [List.take_succ_cons, jr_cons, jr_cons, List.length_append, List.length_append, List.length_append, List.length_append]
    omega
theorem jn_take (y : List Nat) (ls : List (List Nat)) (i : Nat) : (jn y (ls.take i)).length ≤ (jn y ls).length := by
  cases ls with
  | nil => simp
  | cons a l =>
    cases i with
    | zero => simp [jn]
    | succ i =>
      have := jr_take y l i
      rw [List.take_succ_cons, jn_cons, jn_cons, List.length_append, List.length_append]
      omega
def prf (b : Bool) (n : Nat) : List Nat := if n = 0 then [sg b] else if n = 1 then [sg b, 32] else []
theorem inn_eq (b : Bool) : ∀ ls : List (List Nat), inn b ls = prf b ls.length ++ jn [32, sg b, 32] ls
  | [] => rfl
  | [x] => rfl
  | x :: y :: l => rfl
theorem shown_part {b : Bool} {qs : List Qn} {q : Qn} (m : q ∈ qs) : (shown q).length ≤ (shown (.bo b qs)).length := by
  rw [shown, showns_map, List.length_cons, List.length_append, inn_eq, List.length_append]
  have : ∀ (y : List Nat) (l : List Qn), q ∈ l → (shown q).length ≤ (jr y (l.map shown)).length := fun y l => by
    induction l with
    | nil => intro m; cases m
    | cons a l ih =>
      intro m
      rw [List.map_cons, jr_cons, List.length_append, List.length_append]
      rcases List.mem_cons.mp m with rfl | m
      · omega
      · have := ih m; omega
  cases qs with
  | nil => cases m
  | cons a l =>
    rw [List.map_cons, jn_cons, List.length_append]
    rcases List.mem_cons.mp m with rfl | m
    · omega
    · have := this [32, sg b, 32] l m; omega
theorem lf_two (f : Str) (a : Lf) : ∃ k ds, a.dv f = .tup (.str k :: .str f :: ds) ∧ (k = "word" ∨ k = "like" ∨ k = "row" ∨ k = "near" ∨ k = "chain") := by
  cases a with
  | word z => exact ⟨_, _, rfl, .inl rfl⟩
  | like z => exact ⟨_, _, rfl, .inr (.inl rfl)⟩
  | row ws => exact ⟨_, _, rfl, .inr (.inr (.inl rfl))⟩
  | nc b n ws => cases b; exact ⟨_, _, rfl, .inr (.inr (.inr (.inr rfl)))⟩; exact ⟨_, _, rfl, .inr (.inr (.inr (.inl rfl)))⟩
theorem t3 {H : Hp} {a b : Str} {d : DV} {v : V} (h : DeepT H (.tup [.str a, .str b, d]) v) : ∃ p y, v = .ref p ∧ H p = some (.tup [.str a, .str b, y]) ∧ DeepT H d y := by
  obtain ⟨p, xs, e, hp, h0⟩ := deep_t h
  obtain ⟨y0, l0, e0, g0, h1⟩ := deeps_c h0
  obtain ⟨y1, l1, e1, g1, h2⟩ := deeps_c h1
  obtain ⟨y2, l2, e2, g2, h3⟩ := deeps_c h2
  refine ⟨p, y2, e, ?_, g2⟩
  rw [hp, e0, e1, e2, deep_s g0, deep_s g1, deeps_n h3]
theorem t4 {H : Hp} {a b : Str} {n : Int} {d : DV} {v : V} (h : DeepT H (.tup [.str a, .str b, .int n, d]) v) : ∃ p y, v = .ref p ∧ H p = some (.tup [.str a, .str b, .int n, y]) ∧ DeepT H d y := by
  obtain ⟨p, xs, e, hp, h0⟩ := deep_t h
  obtain ⟨y0, l0, e0, g0, h1⟩ := deeps_c h0
  obtain ⟨y1, l1, e1, g1, h2⟩ := deeps_c h1
  obtain ⟨y2, l2, e2, g2, h3⟩ := deeps_c h2
  obtain ⟨y3, l3, e3, g3, h4⟩ := deeps_c h3
  refine ⟨p, y3, e, ?_, g3⟩
  rw [hp, e0, e1, e2, e3, deep_s g0, deep_s g1, deep_i g2, deeps_n h4]
theorem t2 {H : Hp} {a : Str} {d : DV} {v : V} (h : DeepT H (.tup [.str a, d]) v) : ∃ p y, v = .ref p ∧ H p = some (.tup [.str a, y]) ∧ DeepT H d y := by
  obtain ⟨p, xs, e, hp, h0⟩ := deep_t h
  obtain ⟨y0, l0, e0, g0, h1⟩ := deeps_c h0
  obtain ⟨y1, l1, e1, g1, h2⟩ := deeps_c h1
  refine ⟨p, y1, e, ?_, g1⟩
  rw [hp, e0, e1, deep_s g0, deeps_n h2]
theorem tn {H : Hp} {a b : Str} {ds : List DV} {v : V} (h : DeepT H (.tup (.str a :: .str b :: ds)) v) : ∃ p ys, v = .ref p ∧ H p = some (.tup (.str a :: .str b :: ys)) := by
  obtain ⟨p, xs, e, hp, h0⟩ := deep_t h
  obtain ⟨y0, l0, e0, g0, h1⟩ := deeps_c h0
  obtain ⟨y1, l1, e1, g1, h2⟩ := deeps_c h1
  refine ⟨p, l1, e, ?_⟩
  rw [hp, e0, e1, deep_s g0, deep_s g1]
theorem ls {H : Hp} {ws : List Str} {v : V} (h : DeepT H (.lst (ws.map DV.str)) v) : ∃ p, v = .ref p ∧ H p = some (.lst (ws.map V.str)) := by
  obtain ⟨p, xs, e, hp, h0⟩ := deep_l h
  refine ⟨p, e, ?_⟩
  rw [hp, deeps_strs h0]
def mixF (c k : Int) : Int := ((c % 2147483647 + k * k * 7919 + 104729) * 48271 % 2147483647 * ((c % 2147483647 + k * k * 7919 + 104729) * 48271 % 2147483647) + 69621 * k) % 2147483629
def stp (ce : List Int) (k : Nat) (s : List Int × List Int) : List Int × List Int :=
  if at0 ce 0 ((k : Int) % (ce.length : Int)) ≥ 10 ^ 18 ∧ at0 s.2 0 ((k : Int) % (ce.length : Int)) > 0 then
    (s.1 ++ [at0 s.2 0 ((k : Int) % (ce.length : Int)) % 2147483587], s.2.set ((k : Int) % (ce.length : Int)).toNat (at0 s.2 0 ((k : Int) % (ce.length : Int)) / 2147483587))
  else (s.1 ++ [(mixF (at0 ce 0 ((k : Int) % (ce.length : Int))) k * mixF (at0 ce 0 ((k : Int) % (ce.length : Int))) k + 7 * k) % 2147483587], s.2)
def rnn (ce : List Int) : Nat → List Int × List Int
  | 0 => ([], ce.map (· / 100000))
  | k + 1 => stp ce k (rnn ce k)
theorem rnn_len (ce : List Int) : ∀ k, (rnn ce k).1.length = k ∧ (rnn ce k).2.length = ce.length
  | 0 => ⟨rfl, List.length_map ..⟩
  | k + 1 => by
    obtain ⟨h1, h2⟩ := rnn_len ce k
    rw [rnn]
    unfold stp
    split
    · exact ⟨by simp [h1], by simp [h2]⟩
    · exact ⟨by simp [h1], h2⟩
def drF (ns : List Int) (t m : Int) : List Int := cutL (rnn (cutL ns none (some 63) ++ [t]) (t + m).toNat).1 (some t) none
def ct (z : Str) (lo hi : Option Int) : Str := ⟨(cutL z.cps.toList lo hi).toArray⟩
def rep (z : Str) (n : Int) : Str := ⟨(List.replicate n.toNat z.cps.toList).flatten.toArray⟩
def patL (w : Str) (a : Int) : List Str := [ct w none (some a) ++ "*", "*" ++ ct w (some a) none, ct w none (some a) ++ "?" ++ ct w (some (a + 1)) none, w, "*", rep "?" (1 + a), ct w none (some a) ++ "*" ++ ct w (some (a + 1)) none, "*" ++ (⟨#[at0 (cs w) 0 a]⟩ : Str) ++ "*"]
def lst0 (ns : List Int) : Int := ns.getLastD 0
def wdF (ws : List Str) (n : Int) : Str := at0 (ws ++ [("zz" : Str)]) "" (n % ((ws.length : Int) + 1))
def patF (ws : List Str) (n : Int) : Str := at0 (patL (wdF ws n) (n / 16 % ((wdF ws n).length : Int))) "" (n / 256 % 8)
def fldF (n : Int) : Str := at0 ["title", "body", "h", "*", "*", "zz"] "" (n % 6)
def okPl (ws : List Str) : Prop := ws.length = 6 ∧ ∀ u ∈ ws, okWd u = true ∧ u.length ≤ 38
def wdsF (ws : List Str) (md : Int) : Nat → List Int → List Str × List Int
  | 0, ns => ([], ns)
  | k + 1, ns => ((wdsF ws md k ns).1 ++ [at0 ws "" (lst0 (wdsF ws md k ns).2 % md)], (wdsF ws md k ns).2.dropLast)
def qsF (f : List Int → Qn × List Int) : Nat → List Int → List Qn × List Int
  | 0, ns => ([], ns)
  | k + 1, ns => ((qsF f k ns).1 ++ [(f (qsF f k ns).2).1], (f (qsF f k ns).2).2)
def manyF (n : Int) : Int := 1 + n / 18 % at0 [4, 6] 0 (n / 2000 % 2)
def widF (n : Int) : Int := 1 + n / 72 % at0 [9, 20] 0 (n / 4000 % 2)
def mdF (ws : List Str) (n : Int) : Int := at0 [2, (ws.length : Int)] 0 (n / 9 % 2)
def lfF (ws : List Str) (n k : Int) (ns : List Int) : Qn × List Int :=
  if k = 0 then (.lf (fldF (lst0 ns)) (.word (wdF ws (n / 9))), ns.dropLast)
  else if k = 1 then (.lf (fldF (lst0 ns)) (.like (patF ws (lst0 ns.dropLast))), ns.dropLast.dropLast)
  else if k = 2 then (.lf (fldF (lst0 ns)) (.row (wdsF ws (mdF ws n) (manyF n).toNat ns.dropLast).1), (wdsF ws (mdF ws n) (manyF n).toNat ns.dropLast).2)
  else (.lf (fldF (lst0 ns)) (.nc (decide (k = 3)) (widF n).toNat (wdsF ws (mdF ws n) (manyF n).toNat ns.dropLast).1), (wdsF ws (mdF ws n) (manyF n).toNat ns.dropLast).2)
def qF (ws : List Str) : Nat → List Int → Qn × List Int
  | 0, ns => lfF ws (lst0 ns) (lst0 ns % 9 % 5) ns.dropLast
  | d + 1, ns => if lst0 ns % 9 < 5 then lfF ws (lst0 ns) (lst0 ns % 9) ns.dropLast
    else if lst0 ns % 9 = 5 then (.nt (qF ws d ns.dropLast).1, (qF ws d ns.dropLast).2)
    else (.bo (decide (lst0 ns % 9 % 2 = 0)) (qsF (qF ws d) (lst0 ns / 9 % 4).toNat ns.dropLast).1, (qsF (qF ws d) (lst0 ns / 9 % 4).toNat ns.dropLast).2)
theorem cut_to {α : Type} {xs : List α} {a : Int} (h : 0 ≤ a) : cutL xs none (some a) = xs.take a.toNat := by
  unfold cutL HT.sIx
  simp only [List.drop_zero]
  rw [if_neg (by omega), Nat.sub_zero]
  rcases Nat.le_total a.toNat xs.length with c | c
  · rw [Nat.min_eq_left c]
  · rw [Nat.min_eq_right c, List.take_of_length_le c, List.take_length]
theorem cut_from {α : Type} {xs : List α} {a : Int} (h : 0 ≤ a) : cutL xs (some a) none = xs.drop a.toNat := by
  unfold cutL HT.sIx
  simp only
  rw [if_neg (by omega)]
  rcases Nat.le_total a.toNat xs.length with c | c
  · rw [Nat.min_eq_left c, List.take_of_length_le (by rw [List.length_drop]; exact Nat.le_refl _)]
  · rw [Nat.min_eq_right c, List.drop_length, List.drop_eq_nil_of_le c, List.take_nil]
theorem cs_to {w : Str} {a : Int} (h : 0 ≤ a) : cs (ct w none (some a)) = (cs w).take a.toNat := by
  unfold ct
  rw [cut_to h]
theorem cs_from {w : Str} {a : Int} (h : 0 ≤ a) : cs (ct w (some a) none) = (cs w).drop a.toNat := by
  unfold ct
  rw [cut_from h]
theorem wC_isP {c : Nat} (h : wC c = true) : isP c = true := by
  unfold wC at h; unfold isP; rw [h]; rfl
theorem wd_ok {ws : List Str} (h : okPl ws) (n : Int) : okWd (wdF ws n) = true ∧ (wdF ws n).length ≤ 38 := by
  have m : wdF ws n ∈ ws ++ [("zz" : Str)] := at0_mem (Int.emod_nonneg _ (by omega)) (by have := Int.emod_lt_of_pos n (show (0 : Int) < (ws.length : Int) + 1 by omega); rw [List.length_append]; exact this)
  rcases List.mem_append.mp m with m | m
  · exact h.2 _ m
  · rw [List.mem_singleton.mp m]; decide +kernel
theorem okWd_len {z : Str} (h : okWd z = true) : 1 ≤ z.length ∧ ∀ c ∈ cs z, isP c = true := by
  unfold okWd at h
  simp only [Bool.and_eq_true, decide_eq_true_eq] at h
  exact ⟨h.1, fun c m => wC_isP (List.all_eq_true.mp h.2 c m)⟩
theorem csS : cs ("*" : Str) = [42] := csst
theorem csQm : cs ("?" : Str) = [63] := csq
def okPt (z : Str) : Prop := (∀ c ∈ cs z, isP c = true) ∧ 1 ≤ (cs z).length ∧ (cs z).length ≤ 40
theorem pats_ok {w : Str} {a : Int} (h : okWd w = true) (hl : w.length ≤ 38) (h0 : 0 ≤ a) (h1 : a < w.length) : ∀ z ∈ patL w a, okPt z := by
  obtain ⟨w1, w2⟩ := okWd_len h
  have ha : a.toNat < w.length := by omega
  have e1 : ((cs w).take a.toNat).length = a.toNat := by rw [List.length_take, slen]; omega
  have e2 : ((cs w).drop a.toNat).length = w.length - a.toNat := by rw [List.length_drop, slen]
  have e3 : ((cs w).drop (a + 1).toNat).length = w.length - a.toNat - 1 := by rw [List.length_drop, slen]; omega
  have p1 : ∀ c ∈ (cs w).take a.toNat, isP c = true := fun c m => w2 c (List.mem_of_mem_take m)
  have p2 : ∀ k, ∀ c ∈ (cs w).drop k, isP c = true := fun k c m => w2 c (List.mem_of_mem_drop m)
  have ps : ∀ c ∈ [42], isP c = true := by decide
  have pq : ∀ c ∈ [63], isP c = true := by decide
  have ap : ∀ {l m : List Nat}, (∀ c ∈ l, isP c = true) → (∀ c ∈ m, isP c = true) → ∀ c ∈ l ++ m, isP c = true := fun h1 h2 c hc => (List.mem_append.mp hc).elim (h1 c) (h2 c)
  intro z hz
  unfold patL at hz
  simp only [List.mem_cons, List.not_mem_nil, or_false] at hz
  unfold okPt
  rcases hz with rfl | rfl | rfl | rfl | rfl | rfl | rfl | rfl
  · rw [cs_app, cs_to h0, csS, List.length_append, e1]; exact ⟨ap p1 ps, by simp, by simp only [List.length_cons, List.length_nil]; omega⟩
  · rw [cs_app, cs_from h0, csS, List.length_append, e2]; exact ⟨ap ps (p2 _), by simp only [List.length_cons, List.length_nil]; omega, by simp only [List.length_cons, List.length_nil]; omega⟩
  · rw [cs_app, cs_app, cs_to h0, cs_from (by omega), csQm, List.length_append, List.length_append, e1, e3]; exact ⟨ap (ap p1 pq) (p2 _), by simp only [List.length_cons, List.length_nil]; omega, by simp only [List.length_cons, List.length_nil]; omega⟩
  · rw [slen]; exact ⟨w2, w1, by omega⟩
  · rw [csS]; exact ⟨ps, by decide, by decide⟩
  · have e : cs (rep "?" (1 + a)) = List.replicate (1 + a).toNat 63 := by
      show (List.replicate (1 + a).toNat (cs ("?" : Str))).flatten = _
      rw [csQm]
      simp
    rw [e, List.length_replicate]
    exact ⟨fun c m => by rw [List.eq_of_mem_replicate m]; decide, by omega, by omega⟩
  · rw [cs_app, cs_app, cs_to h0, cs_from (by omega), csS, List.length_append, List.length_append, e1, e3]; exact ⟨ap (ap p1 ps) (p2 _), by simp only [List.length_cons, List.length_nil]; omega, by simp only [List.length_cons, List.length_nil]; omega⟩
  · have m : at0 (cs w) 0 a ∈ cs w := at0_mem h0 (by rw [slen]; exact h1)
    rw [cs_app, cs_app, csS]
    exact ⟨ap (ap ps fun c hc => by rw [List.mem_singleton.mp hc]; exact w2 _ m) ps, by simp, by simp⟩
theorem pat_ok {ws : List Str} (h : okPl ws) (n : Int) : (∀ c ∈ cs (patF ws n), isP c = true) ∧ 1 ≤ (patF ws n).length ∧ (patF ws n).length ≤ 40 := by
  obtain ⟨h1, h2⟩ := wd_ok h n
  obtain ⟨w1, _⟩ := okWd_len h1
  have := pats_ok h1 h2 (Int.emod_nonneg (n / 16) (show ((wdF ws n).length : Int) ≠ 0 by omega)) (Int.emod_lt_of_pos (n / 16) (show (0 : Int) < ((wdF ws n).length : Int) by omega)) (patF ws n) (at0_mem (Int.emod_nonneg _ (by decide)) (Int.emod_lt_of_pos _ (by decide)))
  unfold okPt at this
  rw [slen] at this
  exact this
theorem fld_ok (n : Int) : okF (fldF n) := by
  have m : fldF n ∈ (["title", "body", "h", "*", "*", "zz"] : List Str) := at0_mem (Int.emod_nonneg _ (by decide)) (Int.emod_lt_of_pos _ (by decide))
  generalize fldF n = f at m
  simp only [List.mem_cons, List.not_mem_nil, or_false] at m
  rcases m with rfl | rfl | rfl | rfl | rfl | rfl
  · exact .inr (by decide +kernel)
  · exact .inr (by decide +kernel)
  · exact .inr (by decide +kernel)
  · exact .inl rfl
  · exact .inl rfl
  · exact .inr (by decide +kernel)
theorem two_of {a b : Int} (n : Int) : at0 [a, b] 0 (n % 2) = a ∨ at0 [a, b] 0 (n % 2) = b := by
  rcases (show n % 2 = 0 ∨ n % 2 = 1 by omega) with e | e
  · rw [e]; exact .inl rfl
  · rw [e]; exact .inr rfl
theorem many_ok (n : Int) : 1 ≤ manyF n ∧ manyF n ≤ 6 := by
  unfold manyF
  rcases two_of (a := 4) (b := 6) (n / 2000) with e | e <;> rw [e] <;> omega
theorem wid_ok (n : Int) : 1 ≤ widF n ∧ widF n ≤ 20 := by
  unfold widF
  rcases two_of (a := 9) (b := 20) (n / 4000) with e | e <;> rw [e] <;> omega
theorem md_ok {ws : List Str} (h : okPl ws) (n : Int) : 1 ≤ mdF ws n ∧ mdF ws n ≤ 6 := by
  unfold mdF
  have := h.1
  rcases two_of (a := 2) (b := (ws.length : Int)) (n / 9) with e | e <;> rw [e] <;> omega
theorem wds_ok {ws : List Str} (h : okPl ws) {md : Int} (h1 : 1 ≤ md) (h2 : md ≤ 6) (ns : List Int) : ∀ k, (wdsF ws md k ns).1.length = k ∧ ∀ u ∈ (wdsF ws md k ns).1, okWd u = true ∧ u.length ≤ 38
  | 0 => ⟨rfl, fun u m => by cases m⟩
  | k + 1 => by
    obtain ⟨i1, i2⟩ := wds_ok h h1 h2 ns k
    rw [wdsF]
    refine ⟨by simp [i1], fun u m => ?_⟩
    rcases List.mem_append.mp m with m | m
    · exact i2 u m
    · rw [List.mem_singleton.mp m]
      have := Int.emod_lt_of_pos (lst0 (wdsF ws md k ns).2) (show 0 < md by omega)
      exact h.2 _ (at0_mem (Int.emod_nonneg _ (by omega)) (by have := h.1; omega))
theorem lf_ok {ws : List Str} (h : okPl ws) (n k : Int) (ns : List Int) : ∃ f a, (lfF ws n k ns).1 = .lf f a ∧ okF f ∧ a.ok ∧ (lfT f a).length ≤ 300 := by
  have hf := fld_ok (lst0 ns)
  have hfl : (fldF (lst0 ns)).length ≤ 12 := by
    rcases hf with e | e
    · rw [e]; decide
    · unfold okNm at e; simp only [Bool.and_eq_true, decide_eq_true_eq] at e; exact e.1.2
  have ln : ∀ a : Lf, (lfT (fldF (lst0 ns)) a).length = (fldF (lst0 ns)).length + (1 + a.txt.length) := fun a => by unfold lfT; rw [List.length_append, slen, List.length_cons]; omega
  obtain ⟨m1, m2⟩ := many_ok n
  obtain ⟨d1, d2⟩ := md_ok h n
  obtain ⟨x1, x2⟩ := wds_ok h d1 d2 ns.dropLast (manyF n).toNat
  have hw : okWs (wdsF ws (mdF ws n) (manyF n).toNat ns.dropLast).1 := ⟨fun e => by rw [e] at x1; simp at x1; omega, by omega, fun u m => ⟨(x2 u m).1, by have := (x2 u m).2; omega⟩⟩
  have hj := wj_len hw
  unfold lfF
  split
  · obtain ⟨g1, g2⟩ := wd_ok h (n / 9)
    refine ⟨_, _, rfl, hf, ⟨g1, by omega⟩, ?_⟩
    rw [ln]
    show _ + (1 + (cs (wdF ws (n / 9))).length) ≤ _
    rw [slen]
    omega
  split
  · obtain ⟨g1, g2, g3⟩ := pat_ok h (lst0 ns.dropLast)
    refine ⟨_, _, rfl, hf, ⟨g1, g2, g3⟩, ?_⟩
    rw [ln]
    show _ + (1 + ((if bare _ then [126] else []) ++ cs (patF ws (lst0 ns.dropLast))).length) ≤ _
    rw [List.length_append, slen]
    split <;> simp <;> omega
  split
  · refine ⟨_, _, rfl, hf, hw, ?_⟩
    rw [ln]
    show _ + (1 + (34 :: (wj _ ++ [34])).length) ≤ _
    rw [List.length_cons, List.length_append]
    simp
    omega
  · obtain ⟨v1, v2⟩ := wid_ok n
    refine ⟨_, _, rfl, hf, ⟨by omega, by omega, hw⟩, ?_⟩
    obtain ⟨_, _, hg⟩ := fg_fig (widF n).toNat (by omega) (by omega)
    rw [slen] at hg
    rw [ln]
    show _ + (1 + (cs (fg (widF n).toNat) ++ (_ :: (wj _ ++ [_]))).length) ≤ _
    rw [List.length_append, slen, List.length_cons, List.length_append]
    simp
    omega
theorem qs_ok {f : List Int → Qn × List Int} {p : Qn → Prop} (h : ∀ ns, p (f ns).1) (ns : List Int) : ∀ k, (qsF f k ns).1.length = k ∧ ∀ q ∈ (qsF f k ns).1, p q
  | 0 => ⟨rfl, fun u m => by cases m⟩
  | k + 1 => by
    obtain ⟨i1, i2⟩ := qs_ok h ns k
    rw [qsF]
    refine ⟨by simp [i1], fun u m => ?_⟩
    rcases List.mem_append.mp m with m | m
    · exact i2 u m
    · rw [List.mem_singleton.mp m]; exact h _
theorem inn_len {b : Bool} {B : Nat} : ∀ {ls : List (List Nat)}, (∀ l ∈ ls, l.length ≤ B) → ls.length ≤ 3 → (inn b ls).length ≤ 3 * B + 6
  | [], _, _ => by simp [inn]
  | [x], h, _ => by have := h x (by simp); simp [inn]; omega
  | [x, y], h, _ => by have := h x (by simp); have := h y (by simp); simp [inn, jn]; omega
  | [x, y, z], h, _ => by have := h x (by simp); have := h y (by simp); have := h z (by simp); simp [inn, jn]; omega
  | _ :: _ :: _ :: _ :: _, _, h => by simp at h
theorem q_ok {ws : List Str} (h : okPl ws) : ∀ d ns, OkQ d (qF ws d ns).1 ∧ (shown (qF ws d ns).1).length ≤ 300 * 4 ^ d
  | 0, ns => by
    rw [qF]
    obtain ⟨f, a, e, h1, h2, h3⟩ := lf_ok h (lst0 ns) (lst0 ns % 9 % 5) ns.dropLast
    rw [e, shown]
    exact ⟨⟨h1, h2⟩, by omega⟩
  | d + 1, ns => by
    have ih := q_ok h d
    have hB : 300 ≤ 300 * 4 ^ d := Nat.le_mul_of_pos_right _ (Nat.pow_pos (by decide))
    have hP : 300 * 4 ^ (d + 1) = 4 * (300 * 4 ^ d) := by rw [Nat.pow_succ]; omega
    rw [hP]
    rw [qF]
    generalize 300 * 4 ^ d = B at ih hB
    split
    · obtain ⟨f, a, e, h1, h2, h3⟩ := lf_ok h (lst0 ns) (lst0 ns % 9) ns.dropLast
      rw [e, shown]
      exact ⟨⟨h1, h2⟩, by omega⟩
    split
    · obtain ⟨i1, i2⟩ := ih ns.dropLast
      refine ⟨i1, ?_⟩
      rw [shown, List.length_cons]
      omega
    · obtain ⟨l1, l2⟩ := qs_ok (p := fun q => OkQ d q ∧ (shown q).length ≤ B) ih ns.dropLast (lst0 ns / 9 % 4).toNat
      refine ⟨⟨by omega, fun q m => (l2 q m).1⟩, ?_⟩
      rw [shown, List.length_cons, List.length_append, showns_map]
      have := inn_len (b := decide (lst0 ns % 9 % 2 = 0)) (B := B) (ls := (qsF (qF ws d) (lst0 ns / 9 % 4).toNat ns.dropLast).1.map shown) (fun l m => by
        obtain ⟨q, m1, rfl⟩ := List.mem_map.mp m
        exact (l2 q m1).2) (by rw [List.length_map]; omega)
      simp
      omega
section
variable {P : Program} {w : World} {K : PySem.W.Frag} {mg : Str → Option Value} {base : Heap} {f : Addr} {fd : FuncData}
def spMix : Sp := fun vs H Q _ => ∃ c k : Int, vs = [.int c, .int k] ∧ 0 ≤ k ∧ k ≤ 1000 ∧ Q (.int (mixF c k)) H
def spDr (K : PySem.W.Frag) : Sp := fun vs H Q _ => ∃ (a : Addr) (ns : List Int) (t m : Int), vs = [.ref a, .int t, .int m] ∧ SqL K H a (ns.map V.int) ∧ ns.length ≤ 63 ∧ 0 ≤ t ∧ t ≤ 500 ∧ 0 ≤ m ∧ m ≤ 100 ∧
  ∀ (r : Addr) (H' : Hp), Same H H' → H r = none → H' r = some (.lst ((drF ns t m).map V.int)) → Q (.ref r) H'
def spPop : Sp := fun vs H Q _ => ∃ (d : Addr) (ns : List Int), vs = [.ref d] ∧ H d = some (.lst (ns.map V.int)) ∧
  ∀ (H' : Hp), SameX d H H' → H' d = some (.lst (ns.dropLast.map V.int)) → Q (.int (lst0 ns)) H'
theorem cutV_map (ns : List Int) (lo hi : Option Int) : cutV (ns.map V.int) lo hi = (cutL ns lo hi).map V.int := by
  unfold cutV cutL
  rw [List.length_map, List.map_take, List.map_drop]
theorem cmul_mod {a b j : Int} (h : 0 < j) (h' : j < 2 ^ 63) : CMul (a % j) b := by
  have h1 := Int.emod_nonneg a (show j ≠ 0 by omega)
  have h2 := Int.emod_lt_of_pos a h
  exact .inl ⟨by omega, by omega⟩
theorem scPop : FnScope ["_law_draws_here"] ["_law_draws_here"] (defScope sPop) := ⟨rfl, rfl, rfl, by decide +kernel, rfl, by decide +kernel, by decide +kernel⟩
theorem ok_pop (F : Fun K "_law_pop" "_law_pop" sPop f fd) : FnOk P w K mg base CX0 1 f fd ["_law_draws_here"] spPop := by
  refine F.ok scPop (fun vs H Q E h => ?_) (fun cdv A outer s H vs Q E hr h => ?_)
  · obtain ⟨d, ns, rfl, _⟩ := h
    rfl
  obtain ⟨d, ns, rfl, hd, q⟩ := h
  refine ⟨_, (pss_cons (ps_if (pt_cmpR (op_eqE K hr) (pv 0) (pe_lst pa_nil) (nomark _)) (pss_one (ps_ret pe_int)) pss_nil)
    (pss_one (ps_ret (bm0K K PySem.F.plainAttrs_list PySem.F.slot_list_pop PySem.F.type_list_pop mt_pop (pv 0))))), ?_⟩
  simpa only [and_self]
  refine ⟨by decide, fun p hp => ⟨_, SqL.of (upd_at hd hp), SqL.of upd_same, ?_⟩⟩
  have hs := same_new hp (.lst [])
  refine ite2 (fun c => ?_) (fun c => ?_)
  · have e : ns = [] := by cases ns with | nil => rfl | cons _ _ => cases c
    subst e
    exact q _ (SameX.of hs) (hs _ _ hd)
  · have hne : ns ≠ [] := by intro z; subst z; exact c rfl
    have hl : 0 < ns.length := List.length_pos_iff.mpr hne
    refine ⟨.inl ⟨rfl, _, SqL.of (hs _ _ hd)⟩, _, hs _ _ hd, .int (lst0 ns), ?_, ?_⟩
    · rw [List.getElem?_map, List.length_map, List.getElem?_eq_getElem (by omega)]
      unfold lst0
      rw [List.getLastD_eq_getLast?, List.getLast?_eq_getElem?, List.getElem?_eq_getElem (by omega)]
      rfl
    · refine q _ ((SameX.of hs).upd _) ?_
      rw [upd_same, List.map_dropLast]
theorem scMix : FnScope ["_law_cell", "_law_turn", "_law_number"] ["_law_cell", "_law_turn"] (defScope sMix) := ⟨rfl, rfl, rfl, by decide +kernel, rfl, by decide +kernel, by decide +kernel⟩
theorem ok_mix (F : Fun K "_law_mix" "_law_mix" sMix f fd) : FnOk P w K mg base CX0 1 f fd ["_law_cell", "_law_turn"] spMix := by
  refine F.ok scMix (fun vs H Q E h => ?_) (fun cdv A outer s H vs Q E hr h => ?_)
  · obtain ⟨c, k, rfl, _⟩ := h
    rfl
  obtain ⟨c, k, rfl, h0, h1, q⟩ := h
  refine ⟨_, (pss_cons (ps_set (i := 2) scMix.nd rfl (Or.inl rfl) (pe_op op_mod (pe_op op_mul (pe_op op_add (pe_op op_add (pe_op op_mod (pv 0) pe_int) (pe_op op_mul (pe_op op_mul (pv 1) (pv 1)) pe_int)) pe_int) pe_int) pe_int))
    (pss_one (ps_ret (pe_op op_mod (pe_op op_add (pe_op op_mul (pv 2) (pv 2)) (pe_op op_mul pe_int (pv 1))) pe_int)))), ?_⟩
  simpa only [and_self]
  refine ⟨by decide, .inl ⟨by omega, by omega⟩, .inr ⟨by decide, by decide⟩, .inr ⟨by decide, by decide⟩, by decide, cmul_mod (by decide) (by decide), .inl ⟨by decide, by decide⟩, by decide, q⟩
theorem scD : FnScope ["_law_script", "_law_turn", "_law_many", "_law_cells", "_law_lefts", "_law_found", "_law_k", "_law_at", "_law_number"] ["_law_script", "_law_turn", "_law_many"] (defScope sDraws) := ⟨rfl, rfl, rfl, by decide +kernel, rfl, by decide +kernel, by decide +kernel⟩
def invC (ce : List Int) (H1 : Hp) (j : Nat) (ys : List V) (σ : St) (L : Hp) : Prop := ∃ v0 : Option V, ys = ((ce.take j).map (· / 100000)).map V.int ∧ L = H1 ∧ σ = [v0]
def invD (ce : List Int) (a ca le fo : Addr) (t m : Int) (H : Hp) (i : Nat) (σ : St) (L : Hp) : Prop := ∃ (v6 v7 v8 : Option V), σ = [some (.ref a), some (.int t), some (.int m), some (.ref ca), some (.ref le), some (.ref fo), v6, v7, v8] ∧ Same H L ∧
  L ca = some (.lst (ce.map V.int)) ∧ L fo = some (.lst ((rnn ce i).1.map V.int)) ∧ L le = some (.lst ((rnn ce i).2.map V.int))
theorem ok_draws {gm : Addr} {dm : FuncData} (F : Fun K "_law_draws" "_law_draws" sDraws f fd) (T : Txt mg) (GM : FnOk P w K mg base CX0 1 gm dm ["_law_cell", "_law_turn"] spMix) (bM : Binds K dm ["_law_cell", "_law_turn"] []) (kM : PySem.W.keepIn K (.ref gm) = true) (mM : mg "_law_mix" = some (.ref gm)) : FnOk P w K mg base CX0 2 f fd ["_law_script", "_law_turn", "_law_many"] (spDr K) := by
  refine F.ok scD (fun vs H Q E h => ?_) (fun cdv A outer s H vs Q E hr h => ?_)
  · obtain ⟨a, ns, t, m, rfl, _⟩ := h
    rfl
  obtain ⟨a, ns, t, m, rfl, hS, hlen, t0, t1, m0, m1, q⟩ := h
  refine ⟨_, (pss_cons (ps_set (i := 3) scD.nd rfl (Or.inl rfl) (pe_op op_cat (pe_slice (slL K) (pv 0) po_none (po_some pe_int)) (pe_lst (pa_cons (pv 1) pa_nil))))
    (pss_cons (ps_setC (i := 4) scD.nd rfl rfl (N := ["_law_cell"]) (pick := [none]) (NX := ["_law_script", "_law_turn", "_law_many", "_law_cells", "_law_lefts", "_law_found", "_law_k", "_law_at", "_law_number"]) (sX := defScope sDraws) (by decide +kernel) rfl rfl rfl (pi_listK K (pv 3))
        (fun _ _ _ _ => (pg_name (i := 0) (by decide +kernel : (["_law_cell"] : List Str).Nodup) rfl (Or.inl rfl))) (fun _ _ _ _ => pifs_nil) (fun _ _ _ _ => (pe_op op_fdiv (pv 0) pe_int)))
    (pss_cons (ps_set (i := 5) scD.nd rfl (Or.inl rfl) (pe_lst pa_nil))
    (pss_cons (ps_for PassesOwn.never rfl (pi_range1 rfl T.range (pa_cons (pe_op op_add (pv 1) (pv 2)) pa_nil)) (pg_name (i := 6) scD.nd rfl (Or.inl rfl))
      (pss_cons (ps_set (i := 7) scD.nd rfl (Or.inl rfl) (pe_op op_mod (pv 6) (pe_callB (lenK K) rfl T.len PySem.boot_len (pa_cons (pv 3) pa_nil))))
    (pss_cons (ps_set (i := 8) scD.nd rfl (Or.inl rfl) (pe_call GM hr rfl mM kM bM .nil pass0 (pa_cons (pe_ix (ixL K) (pv 3) (pv 7) (fun _ _ => rfl)) (pa_cons (pv 6) pa_nil))))
    (pss_cons (ps_set (i := 8) scD.nd rfl (Or.inl rfl) (pe_op op_mod (pe_op op_add (pe_op op_mul (pv 8) (pv 8)) (pe_op op_mul pe_int (pv 6))) pe_int))
    (pss_cons (ps_if (PW.pt (pw_and (pt_cmpR op_ge (pe_ix (ixL K) (pv 3) (pv 7) (fun _ _ => rfl)) (pe_op op_pow pe_int pe_int) (nomark _)) (pw_and1 (pt_cmpR op_gt (pe_ix (ixL K) (pv 4) (pv 7) (fun _ _ => rfl)) pe_int (nomark _))))) (pss_cons (ps_set (i := 8) scD.nd rfl (Or.inl rfl) (pe_op op_mod (pe_ix (ixL K) (pv 4) (pv 7) (fun _ _ => rfl)) pe_int))
    (pss_one (ps_asg (pe_op op_fdivB (pe_ix (ixL K) (pv 4) (pv 7) (fun _ _ => rfl)) pe_int) (pg_sub (pv 4) (pv 7) set_list)))) pss_nil)
    (pss_one (ps_expr (bmK K PySem.F.plainAttrs_list PySem.F.slot_list_append PySem.F.type_list_append mt_append (pv 5) (pa_cons (pv 8) pa_nil)))))))))
    (pss_one (ps_ret (pe_slice (slL K) (pv 5) (po_some (pv 1)) po_none))))))), ?_⟩
  simpa only [and_self]
  refine ⟨_, hS, fun p1 h1 => ⟨by decide, fun p2 h2 => ?_⟩⟩
  rw [cutV_map] at h2 ⊢
  have hcl : (cutL ns none (some 63)).length ≤ 63 := by
    unfold cutL
    rw [List.length_take, List.length_drop]
    omega
  refine ⟨_, upd_at upd_same h2, _, upd_same, ?_, fun ca hca => ⟨⟨_, SqL.of upd_same⟩, ?_⟩⟩
  · rw [List.length_map, List.length_singleton]
    exact small (by omega)
  have ecs : (cutL ns none (some 63)).map V.int ++ [V.int t] = (cutL ns none (some 63) ++ [t]).map V.int := by rw [List.map_append]; rfl
  rw [ecs]
  have ecl : (cutL ns none (some 63) ++ [t]).length ≤ 64 ∧ 0 < (cutL ns none (some 63) ++ [t]).length := by
    rw [List.length_append, List.length_singleton]
    omega
  unfold drF at q
  generalize cutL ns none (some 63) ++ [t] = ce at ecl q ⊢
  obtain ⟨cl1, cl0⟩ := ecl
  have s2 : Same H (upd (upd (upd H p1 (.lst ((cutL ns none (some 63)).map V.int))) p2 (.lst [V.int t])) ca (.lst (ce.map V.int))) := (same_new h1 _).trans ((same_new h2 _).trans (same_new hca _))
  have e2 : (upd (upd (upd H p1 (.lst ((cutL ns none (some 63)).map V.int))) p2 (.lst [V.int t])) ca (.lst (ce.map V.int))) ca = some (.lst (ce.map V.int)) := upd_same
  generalize upd (upd (upd H p1 (.lst ((cutL ns none (some 63)).map V.int))) p2 (.lst [V.int t])) ca (.lst (ce.map V.int)) = H2 at s2 e2 ⊢
  refine compW_list (ce.map V.int) (invC ce H2) ⟨none, rfl, rfl, rfl⟩ ?_ ?_ ?_
  · rintro i ys σ L hi ⟨u0, rfl, rfl, rfl⟩
    refine ⟨SqL.of e2, ?_⟩
    rw [List.length_map, List.length_map, List.length_take]
    exact small (by omega)
  · rintro i x ys σ L hx ⟨u0, rfl, rfl, rfl⟩
    obtain ⟨z, rfl, hz⟩ := int_of_map hx
    simpa only [and_self]
    refine ⟨⟨by decide, by decide⟩, _, ?_, rfl, rfl⟩
    have hi : i < ce.length := (List.getElem?_eq_some_iff.mp hz).1
    rw [List.take_succ_eq_append_getElem hi, (List.getElem?_eq_some_iff.mp hz).2, List.map_append, List.map_append]
    rfl
  · rintro ys σ L ⟨u0, rfl, rfl, rfl⟩ le hle
    rw [List.length_map, List.take_length]
    refine ⟨by decide, fun fo hfo => ⟨by omega, by omega, ?_⟩⟩
    have fle : H le = none := s2.free hle
    have ffo : H fo = none := s2.free (by cases e : L fo with | none => rfl | some u => rw [upd_at e hle] at hfo; cases hfo)
    have nfl : fo ≠ le := fun e => by rw [e, upd_same] at hfo; cases hfo
    have ncl : ca ≠ le := ne_of_none e2 hle
    have ncf : ca ≠ fo := fun e => by rw [← e, upd_ne ncl, e2] at hfo; cases hfo
    refine forW_range (lo := 0) (invD ce a ca le fo t m H) ⟨none, none, none, rfl, (s2.newer fle _).newer ffo _, ?_, upd_same, ?_⟩ ?_ ?_
    · rw [upd_ne ncf, upd_ne ncl]; exact e2
    · rw [upd_ne nfl.symm, upd_same]; rfl
    · rintro i σ M hi ⟨v6, v7, v8, rfl, sM, hc, hf, hl⟩
      simpa only [spMix]
      obtain ⟨r1, r2⟩ := rnn_len ce i
      have cp : (0 : Int) < (ce.length : Int) := by omega
      have x0 := Int.emod_nonneg (i : Int) (show (ce.length : Int) ≠ 0 by omega)
      have x1 := Int.emod_lt_of_pos (i : Int) cp
      have ac := atM (f := V.int) (xs := ce) (d := 0) x0 x1
      have al := atM (f := V.int) (xs := (rnn ce i).2) (d := 0) x0 (by rw [r2]; exact x1)
      have hf' : ∀ o, upd M le o fo = some (.lst ((rnn ce i).1.map V.int)) := fun o => by rw [upd_ne nfl]; exact hf
      simp only [Int.zero_add]
      refine ⟨_, .inl (SqL.of hc), by rw [List.length_map]; exact cp, ?_⟩
      rw [List.length_map]
      have fin : ¬ (at0 ce 0 ((i : Int) % (ce.length : Int)) ≥ 10 ^ 18 ∧ at0 (rnn ce i).2 0 ((i : Int) % (ce.length : Int)) > 0) → ∀ v6 v7 v8, invD ce a ca le fo t m H (i + 1) [some (.ref a), some (.int t), some (.int m), some (.ref ca), some (.ref le), some (.ref fo), v6, v7, v8] (upd M fo (.lst ((rnn ce i).1.map V.int ++ [V.int ((mixF (at0 ce 0 ((i : Int) % (ce.length : Int))) i * mixF (at0 ce 0 ((i : Int) % (ce.length : Int))) i + 7 * i) % 2147483587)]))) := fun hn v6 v7 v8 => by
        refine ⟨v6, v7, v8, rfl, sM.newer ffo _, by rw [upd_ne ncf]; exact hc, ?_, ?_⟩
        · rw [upd_same, rnn, stp, if_neg hn, List.map_append]; rfl
        · rw [upd_ne nfl.symm, rnn, stp, if_neg hn]; exact hl
      refine ⟨_, SqL.of hc, _, ac, _, rfl, by omega, by omega, cmul_mod (by decide) (by decide), .inl ⟨by decide, by decide⟩, by decide, _, SqL.of hc, _, ac, ⟨by decide, by decide, by decide⟩, _, rfl, ite2 (fun c1 => ⟨_, SqL.of hl, _, al, _, rfl, ite2 (fun c2 => ?_) (fun c2 => ?_)⟩) (fun c1 => ?_)⟩
      · refine ⟨_, SqL.of hl, _, al, _, rfl, by decide, _, SqL.of hl, _, al, _, rfl, ⟨by decide, by decide⟩, _, hl, _, ixN_of x0 (by rw [List.length_map, r2]; exact x1), .inl ⟨rfl, _, SqL.of (hf' _)⟩, _, hf' _, small1000 (by rw [List.length_map, r1]; omega), _, _, _, rfl, (sM.newer fle _).newer ffo _, by rw [upd_ne ncf, upd_ne ncl]; exact hc, ?_, ?_⟩
        · rw [upd_same, rnn, stp, if_pos ⟨of_decide_eq_true c1, of_decide_eq_true c2⟩, List.map_append]; rfl
        · rw [upd_ne nfl.symm, upd_same, rnn, stp, if_pos ⟨of_decide_eq_true c1, of_decide_eq_true c2⟩, List.map_set]
      · exact ⟨.inl ⟨rfl, _, SqL.of hf⟩, _, hf, small1000 (by rw [List.length_map, r1]; omega), fin (fun h => c2 (decide_eq_true h.2)) _ _ _⟩
      · exact ⟨.inl ⟨rfl, _, SqL.of hf⟩, _, hf, small1000 (by rw [List.length_map, r1]; omega), fin (fun h => c1 (decide_eq_true h.1)) _ _ _⟩
    · rintro σ M ⟨v6, v7, v8, rfl, sM, hc, hf, hl⟩
      simpa only [and_self]
      exact ⟨_, SqL.of hf, fun r hr => q r _ (sM.trans (same_new hr _)) (sM.free hr) (by rw [upd_same, cutV_map])⟩
end
section
variable {P : Program} {w : World} {K : PySem.W.Frag} {mg : Str → Option Value} {base : Heap} {f : Addr} {fd : FuncData}
def spPl : Sp := fun vs H Q _ => ∃ (d : Addr) (ns : List Int), vs = [.ref d] ∧ H d = some (.lst (ns.map V.int)) ∧ ∀ (p : Addr) (ws : List Str) (H' : Hp), SameX d H H' → H p = none → H' p = some (.lst (ws.map V.str)) → okPl ws → Q (.ref p) H'
def spFd : Sp := fun vs H Q _ => ∃ (d : Addr) (ns : List Int), vs = [.ref d] ∧ H d = some (.lst (ns.map V.int)) ∧ ∀ H', SameX d H H' → H' d = some (.lst (ns.dropLast.map V.int)) → Q (.str (fldF (lst0 ns))) H'
def spPt : Sp := fun vs H Q _ => ∃ (d pp : Addr) (ns : List Int) (ws : List Str), vs = [.ref d, .ref pp] ∧ okPl ws ∧ H d = some (.lst (ns.map V.int)) ∧ H pp = some (.lst (ws.map V.str)) ∧ d ≠ pp ∧ ∀ H', SameX d H H' → H' d = some (.lst (ns.dropLast.map V.int)) → Q (.str (patF ws (lst0 ns))) H'
theorem scFld : FnScope ["_law_draws_here"] ["_law_draws_here"] (defScope sLFd) := ⟨rfl, rfl, rfl, by decide +kernel, rfl, by decide +kernel, by decide +kernel⟩
theorem ok_fld {gp : Addr} {dp : FuncData} (F : Fun K "_law_field" "_law_field" sLFd f fd) (T : Txt mg) (GP : FnOk P w K mg base CX0 1 gp dp ["_law_draws_here"] spPop) (bP : Binds K dp ["_law_draws_here"] []) (kP : PySem.W.keepIn K (.ref gp) = true) (mP : mg "_law_pop" = some (.ref gp)) : FnOk P w K mg base CX0 2 f fd ["_law_draws_here"] spFd := by
  refine F.ok scFld (fun vs H Q E h => ?_) (fun cdv A outer s H vs Q E hr h => ?_)
  · obtain ⟨d, ns, rfl, _⟩ := h
    rfl
  obtain ⟨d, ns, rfl, hd, q⟩ := h
  refine ⟨_, (pss_one (ps_ret (pe_ix (ixL K) (pe_lst (pa_strs rfl)) (pe_op op_mod (pe_call GP hr rfl mP kP bP .nil pass0 (pa_cons (pv 0) pa_nil)) pe_int) (fun _ _ => rfl)))), ?_⟩
  simpa only [and_self]
  refine ⟨small (by decide), fun p hp => ⟨d, ns, rfl, upd_at hd hp, fun H' s' e' => ⟨_, rfl, by decide, _, SqL.of (s' _ _ upd_same (ne_of_none hd hp).symm), _, atM (f := V.str) (xs := ["title", "body", "h", "*", "*", "zz"]) (d := "") (Int.emod_nonneg _ (by decide)) (Int.emod_lt_of_pos _ (by decide)), q _ ((SameX.of (same_new hp _)).trans s') e'⟩⟩⟩
theorem scPool : FnScope ["_law_draws_here", "_law_number", "_law_stem"] ["_law_draws_here"] (defScope sPool) := ⟨rfl, rfl, rfl, by decide +kernel, rfl, by decide +kernel, by decide +kernel⟩
theorem stem_ok (n : Int) : (∀ c ∈ cs (ct (ct "abc1b2acb" (some (n % 7)) none) none (some (n / 7 % 3))), wC c = true) ∧ (ct (ct "abc1b2acb" (some (n % 7)) none) none (some (n / 7 % 3))).length ≤ 2 := by
  refine ⟨fun c m => ?_, ?_⟩
  · rw [cs_to (by omega), cs_from (by omega)] at m
    have m' := List.mem_of_mem_drop (List.mem_of_mem_take m)
    have : ∀ c ∈ cs ("abc1b2acb" : Str), wC c = true := by decide +kernel
    exact this c m'
  · have e := congrArg List.length (cs_to (w := ct "abc1b2acb" (some (n % 7)) none) (a := n / 7 % 3) (by omega))
    rw [slen, List.length_take] at e
    omega
theorem wcat {x y : Str} (hx : ∀ c ∈ cs x, wC c = true) (hy : ∀ c ∈ cs y, wC c = true) : ∀ c ∈ cs (x ++ y), wC c = true := fun c m => by
  rw [cs_app] at m
  exact (List.mem_append.mp m).elim (hx c) (hy c)
theorem okWd_of {x : Str} (h : ∀ c ∈ cs x, wC c = true) (h1 : 0 < x.length) : okWd x = true := by
  unfold okWd
  rw [decide_eq_true h1, Bool.true_and, List.all_eq_true]
  exact h
theorem ok_pool {gp : Addr} {dp : FuncData} (F : Fun K "_law_pool" "_law_pool" sPool f fd) (T : Txt mg) (GP : FnOk P w K mg base CX0 1 gp dp ["_law_draws_here"] spPop) (bP : Binds K dp ["_law_draws_here"] []) (kP : PySem.W.keepIn K (.ref gp) = true) (mP : mg "_law_pop" = some (.ref gp)) : FnOk P w K mg base CX0 2 f fd ["_law_draws_here"] spPl := by
  refine F.ok scPool (fun vs H Q E h => ?_) (fun cdv A outer s H vs Q E hr h => ?_)
  · obtain ⟨d, ns, rfl, _⟩ := h
    rfl
  obtain ⟨d, ns, rfl, hd, q⟩ := h
  refine ⟨_, (pss_cons (ps_set (i := 1) scPool.nd rfl (Or.inl rfl) (pe_call GP hr rfl mP kP bP .nil pass0 (pa_cons (pv 0) pa_nil)))
    (pss_cons (ps_set (i := 2) scPool.nd rfl (Or.inl rfl) (pe_slice sl_str (pe_slice sl_str pe_str (po_some (pe_op op_mod (pv 1) pe_int)) po_none) po_none (po_some (pe_op op_mod (pe_op op_fdiv (pv 1) pe_int) pe_int))))
    (pss_one (ps_ret (pe_op op_cat (pe_lst (@pa_cons _ _ _ _ _ (pe_op op_add_str (pv 2) pe_str) (@pa_cons _ _ _ _ _ (pe_op op_add_str (pv 2) pe_str) (@pa_cons _ _ _ _ _ (pe_op op_add_str (pv 2) pe_str) (@pa_cons _ _ _ _ _ (pe_op op_add_str pe_str (pv 2)) (@pa_cons _ _ _ _ _ pe_str pa_nil star_K) star_B) star_B) star_B) star_B)) (pe_lst (pa_cons (pe_op op_add_str (pv 2) (pe_op op_repT pe_str (pe_ix (ixL K) (pe_lst (@pa_cons _ _ _ _ _ pe_int (@pa_cons _ _ _ _ _ pe_int (@pa_cons _ _ _ _ _ pe_int (@pa_cons _ _ _ _ _ pe_int pa_nil star_K) star_K) star_K) star_K)) (pe_op op_mod (pe_op op_fdiv (pv 1) pe_int) pe_int) (fun _ _ => rfl)))) pa_nil))))))), ?_⟩
  refine seq_inv (fun σ L => σ = [some (.ref d), some (.int (lst0 ns)), none] ∧ SameX d H L ∧ L d = some (.lst (ns.dropLast.map V.int))) ?_ (fun N hN => ?_)
  rotate_left
  · simpa only [and_self]
    exact ⟨d, ns, rfl, hd, fun H' s' e' => hN _ _ ⟨rfl, s', e'⟩⟩
  rintro σ L ⟨rfl, sL, hL⟩
  refine seq_inv (fun σ M => ∃ z : Str, σ = [some (.ref d), some (.int (lst0 ns)), some (.str z)] ∧ M = L ∧ (∀ c ∈ cs z, wC c = true) ∧ z.length ≤ 2) ?_ (fun N hN => ?_)
  rotate_left
  · simpa only [and_self]
    have h := stem_ok (lst0 ns)
    refine ⟨by decide, small (by decide), ⟨by decide, by decide⟩, by decide, small ?_, hN _ _ ⟨_, rfl, rfl, h.1, h.2⟩⟩
    have e := congrArg List.length (cs_from (w := "abc1b2acb") (a := lst0 ns % 7) (by omega))
    rw [slen, List.length_drop] at e
    have e9 : (cs ("abc1b2acb" : Str)).length = 9 := by decide +kernel
    show (ct "abc1b2acb" (some (lst0 ns % 7)) none).length ≤ 1000
    omega
  rintro σ M ⟨z, rfl, rfl, hz, hzl⟩
  simpa only [and_self]
  have ea : ("a" : Str).length = 1 := by decide
  have eb : ("b" : Str).length = 1 := by decide
  have eab : ("ab" : Str).length = 2 := by decide
  have wa : ∀ c ∈ cs ("a" : Str), wC c = true := by decide +kernel
  have wb : ∀ c ∈ cs ("b" : Str), wC c = true := by decide +kernel
  have wab : ∀ c ∈ cs ("ab" : Str), wC c = true := by decide +kernel
  have wc0 : okWd "c0" = true ∧ ("c0" : Str).length ≤ 38 := by decide +kernel
  have hm : at0 ([1, 2, 3, 12] : List Int) 0 (lst0 ns / 21 % 4) ∈ ([1, 2, 3, 12] : List Int) := at0_mem (Int.emod_nonneg _ (by decide)) (Int.emod_lt_of_pos _ (by decide))
  have hat := atM (f := V.int) (xs := ([1, 2, 3, 12] : List Int)) (d := 0) (k := lst0 ns / 21 % 4) (Int.emod_nonneg _ (by decide)) (Int.emod_lt_of_pos _ (by decide))
  generalize at0 ([1, 2, 3, 12] : List Int) 0 (lst0 ns / 21 % 4) = mm at hm hat
  have hmm : 1 ≤ mm ∧ mm ≤ 12 := by simp only [List.mem_cons, List.not_mem_nil, or_false] at hm; omega
  refine ⟨small (by omega), small (by omega), small (by omega), small (by omega), small (by decide), fun p1 h1 => ⟨small (by decide), fun p2 h2 => ⟨⟨by decide, by decide⟩, by decide, _, SqL.of upd_same, _, hat, _, rfl, by omega, by omega, by decide, by decide, fun r hr => ?_⟩⟩⟩
  have lr : r.length ≤ 36 ∧ ∀ c ∈ cs r, wC c = true := by
    have e : ∀ m ∈ ([1, 2, 3, 12] : List Int), ((List.replicate m.toNat (cs ("abc" : Str))).flatten).length ≤ 36 ∧ ∀ c ∈ (List.replicate m.toNat (cs ("abc" : Str))).flatten, wC c = true := by decide +kernel
    have := e mm hm
    rw [← hr, slen] at this
    exact this
  refine ⟨small (by omega), small (by decide), fun p3 h3 => ⟨_, upd_at (upd_at upd_same h2) h3, _, upd_same, small (by simp), fun p4 h4 => ?_⟩⟩
  refine q p4 [z ++ "a", z ++ "b", z ++ "ab", "a" ++ z, "c0", z ++ r] _ (sL.trans (SameX.of ((((same_new h1 _).trans (same_new h2 _)).trans (same_new h3 _)).trans (same_new h4 _)))) ?_ upd_same ⟨rfl, fun u hu => ?_⟩
  · cases e : H p4 with
    | none => rfl
    | some o =>
      by_cases c : p4 = d
      · rw [c, upd_at (upd_at (upd_at hL h1) h2) h3] at h4; cases h4
      · rw [upd_at (upd_at (upd_at (sL _ _ e c) h1) h2) h3] at h4; cases h4
  · simp only [List.mem_cons, List.not_mem_nil, or_false] at hu
    rcases hu with rfl | rfl | rfl | rfl | rfl | rfl
    · exact ⟨okWd_of (wcat hz wa) (by rw [len_app]; omega), by rw [len_app]; omega⟩
    · exact ⟨okWd_of (wcat hz wb) (by rw [len_app]; omega), by rw [len_app]; omega⟩
    · exact ⟨okWd_of (wcat hz wab) (by rw [len_app]; omega), by rw [len_app]; omega⟩
    · exact ⟨okWd_of (wcat wa hz) (by rw [len_app]; omega), by rw [len_app]; omega⟩
    · exact wc0
    · have r0 : 0 < r.length := by
        have e : ∀ m ∈ ([1, 2, 3, 12] : List Int), 0 < ((List.replicate m.toNat (cs ("abc" : Str))).flatten).length := by decide +kernel
        have := e mm hm
        rw [← hr, slen] at this
        exact this
      exact ⟨okWd_of (wcat hz lr.2) (by rw [len_app]; omega), by rw [len_app]; omega⟩
theorem ctI (z : Str) (lo hi : Option Int) : (⟨(cutL z.cps.toList lo hi).toArray⟩ : Str) = ct z lo hi := rfl
theorem zz_at {ws : List Str} (n : Int) : atI (ws.map V.str ++ [V.str "zz"]) (n % (((ws.map V.str).length : Int) + 1)) = some (.str (wdF ws n)) := by
  have e : ws.map V.str ++ [V.str "zz"] = (ws ++ [("zz" : Str)]).map V.str := by rw [List.map_append]; rfl
  rw [e, List.length_map]
  exact atM (Int.emod_nonneg _ (by omega)) (by rw [List.length_append]; exact Int.emod_lt_of_pos _ (by omega))
theorem scPat : FnScope ["_law_draws_here", "_law_pool_here", "_law_number", "_law_word", "_law_at", "_law_some"] ["_law_draws_here", "_law_pool_here"] (defScope sPat) := ⟨rfl, rfl, rfl, by decide +kernel, rfl, by decide +kernel, by decide +kernel⟩
theorem ok_pat {gp : Addr} {dp : FuncData} (F : Fun K "_law_pattern" "_law_pattern" sPat f fd) (T : Txt mg) (GP : FnOk P w K mg base CX0 1 gp dp ["_law_draws_here"] spPop) (bP : Binds K dp ["_law_draws_here"] []) (kP : PySem.W.keepIn K (.ref gp) = true) (mP : mg "_law_pop" = some (.ref gp)) : FnOk P w K mg base CX0 2 f fd ["_law_draws_here", "_law_pool_here"] spPt := by
  refine F.ok scPat (fun vs H Q E h => ?_) (fun cdv A outer s H vs Q E hr h => ?_)
  · obtain ⟨d, pp, ns, ws, rfl, _⟩ := h
    rfl
  obtain ⟨d, pp, ns, ws, rfl, hw, hd, hp, dp', q⟩ := h
  refine ⟨_, (pss_cons (ps_set (i := 2) scPat.nd rfl (Or.inl rfl) (pe_call GP hr rfl mP kP bP .nil pass0 (pa_cons (pv 0) pa_nil)))
    (pss_cons (ps_set (i := 3) scPat.nd rfl (Or.inl rfl) (pe_ix (ixL K) (pe_op op_cat (pv 1) (pe_lst (pa_cons pe_str pa_nil))) (pe_op op_mod (pv 2) (pe_op op_add (pe_callB (lenK K) rfl T.len PySem.boot_len (pa_cons (pv 1) pa_nil)) pe_int)) (fun _ _ => rfl)))
    (pss_cons (ps_set (i := 4) scPat.nd rfl (Or.inl rfl) (pe_op op_mod (pe_op op_fdiv (pv 2) pe_int) (pe_callB call_len_str rfl T.len PySem.boot_len (pa_cons (pv 3) pa_nil))))
    (pss_cons (ps_set (i := 5) scPat.nd rfl (Or.inl rfl) (pe_lst (@pa_cons _ _ _ _ _ (pe_op op_add_str (pe_slice sl_str (pv 3) po_none (po_some (pv 4))) pe_str) (@pa_cons _ _ _ _ _ (pe_op op_add_str pe_str (pe_slice sl_str (pv 3) (po_some (pv 4)) po_none)) (@pa_cons _ _ _ _ _ (pe_op op_add_str (pe_op op_add_str (pe_slice sl_str (pv 3) po_none (po_some (pv 4))) pe_str) (pe_slice sl_str (pv 3) (po_some (pe_op op_add (pv 4) pe_int)) po_none)) (@pa_cons _ _ _ _ _ (pv 3) (@pa_cons _ _ _ _ _ pe_str (@pa_cons _ _ _ _ _ (pe_op op_repT pe_str (pe_op op_add pe_int (pv 4))) pa_nil star_B) star_K) star_N) star_B) star_B) star_B)))
    (pss_one (ps_ret (pe_ix (ixL K) (pe_op op_cat (pv 5) (pe_lst (pa_cons (pe_op op_add_str (pe_op op_add_str (pe_slice sl_str (pv 3) po_none (po_some (pv 4))) pe_str) (pe_slice sl_str (pv 3) (po_some (pe_op op_add (pv 4) pe_int)) po_none)) (pa_cons (pe_op op_add_str (pe_op op_add_str pe_str (pe_ix ix_str (pv 3) (pv 4) (fun _ _ => rfl))) pe_str) pa_nil)))) (pe_op op_mod (pe_op op_fdiv (pv 2) pe_int) pe_int) (fun _ _ => rfl)))))))), ?_⟩
  refine seq_inv (fun σ L => σ = [some (.ref d), some (.ref pp), some (.int (lst0 ns)), none, none, none] ∧ SameX d H L ∧ L d = some (.lst (ns.dropLast.map V.int))) ?_ (fun N hN => ?_)
  rotate_left
  · simpa only [and_self]
    exact ⟨d, ns, rfl, hd, fun H' s' e' => hN _ _ ⟨rfl, s', e'⟩⟩
  rintro σ L ⟨rfl, sL, hL⟩
  have hpL : L pp = some (.lst (ws.map V.str)) := sL _ _ hp dp'.symm
  refine seq_inv (fun σ M => σ = [some (.ref d), some (.ref pp), some (.int (lst0 ns)), some (.str (wdF ws (lst0 ns))), none, none] ∧ Same L M) ?_ (fun N hN => ?_)
  rotate_left
  · simpa only [and_self]
    exact ⟨small (by decide), fun p1 h1 => ⟨_, upd_at hpL h1, _, upd_same, small (by rw [List.length_map, hw.1]; decide), fun p2 h2 => ⟨_, .inl (SqL.of (upd_at (upd_at hpL h1) h2)), by omega, _, SqL.of upd_same, _, zz_at _, hN _ _ ⟨rfl, (same_new h1 _).trans (same_new h2 _)⟩⟩⟩⟩
  rintro σ M ⟨rfl, sM⟩
  obtain ⟨w1, w2⟩ := wd_ok hw (lst0 ns)
  obtain ⟨w3, _⟩ := okWd_len w1
  have hpat : patF ws (lst0 ns) = at0 (patL (wdF ws (lst0 ns)) (lst0 ns / 16 % ((wdF ws (lst0 ns)).length : Int))) "" (lst0 ns / 256 % 8) := rfl
  rw [hpat] at q
  generalize wdF ws (lst0 ns) = wd at w1 w2 w3 q
  have a0 := Int.emod_nonneg (lst0 ns / 16) (show (wd.length : Int) ≠ 0 by omega)
  have a1 := Int.emod_lt_of_pos (lst0 ns / 16) (show (0 : Int) < (wd.length : Int) by omega)
  refine seq_inv (fun σ M' => σ = [some (.ref d), some (.ref pp), some (.int (lst0 ns)), some (.str wd), some (.int (lst0 ns / 16 % (wd.length : Int))), none] ∧ M' = M) ?_ (fun N hN => ?_)
  rotate_left
  · simpa only [and_self]
    exact ⟨⟨by decide, by decide⟩, small (by omega), by omega, hN _ _ ⟨rfl, rfl⟩⟩
  rintro σ M' ⟨rfl, rfl⟩
  generalize lst0 ns / 16 % (wd.length : Int) = at' at a0 a1 q
  have l1 : (ct wd none (some at')).length = at'.toNat := by
    have e := congrArg List.length (cs_to (w := wd) a0)
    rw [slen, List.length_take, slen] at e
    omega
  have l2 : (ct wd (some at') none).length = wd.length - at'.toNat := by
    have e := congrArg List.length (cs_from (w := wd) a0)
    rw [slen, List.length_drop, slen] at e
    exact e
  have l3 : (ct wd (some (at' + 1)) none).length = wd.length - at'.toNat - 1 := by
    have e := congrArg List.length (cs_from (w := wd) (a := at' + 1) (by omega))
    rw [slen, List.length_drop, slen] at e
    omega
  have est : ("*" : Str).length = 1 := by decide
  have eq' : ("?" : Str).length = 1 := by decide
  have hat := atM (f := V.str) (xs := patL wd at') (d := "") (k := lst0 ns / 256 % 8) (Int.emod_nonneg _ (by decide)) (Int.emod_lt_of_pos _ (by decide))
  have ol : ∀ c : Nat, (⟨#[c]⟩ : Str).length = 1 := fun c => rfl
  simpa only [ctI]
  refine ⟨le_line (by omega), le_line (by omega), le_line (by omega), le_line (by omega), le_line (by omega), le_line (by omega), le_line (by omega), le_line (by rw [len_app]; omega), by omega, by omega, by decide, by decide, fun r hr => ?_⟩
  have hr' : r = rep "?" (1 + at') := sExt hr
  subst hr'
  refine ⟨small (by decide), fun p1 h1 => ⟨le_line (by omega), le_line (by omega), le_line (by omega), le_line (by rw [len_app]; omega), le_line (by omega), _, at0_of (d := 0) a0 (by rw [slen]; exact a1), le_line (by rw [ol]; omega), le_line (by rw [len_app, ol]; omega), small (by decide), fun p2 h2 => ⟨_, upd_at upd_same h2, _, upd_same, small (by simp), fun p3 h3 => ⟨⟨by decide, by decide⟩, by decide, _, SqL.of upd_same, _, hat, q _ (sL.trans (SameX.of (sM.trans (((same_new h1 _).trans (same_new h2 _)).trans (same_new h3 _))))) ?_⟩⟩⟩⟩
  exact upd_at (upd_at (upd_at (sM _ _ hL) h1) h2) h3
end
def spQu (n : Nat) : Sp := fun vs H Q _ => ∃ (d pp : Addr) (ns : List Int) (ws : List Str), vs = [.ref d, .ref pp, .int (n : Int)] ∧ okPl ws ∧ H d = some (.lst (ns.map V.int)) ∧ H pp = some (.lst (ws.map V.str)) ∧ d ≠ pp ∧
  ∀ v H', SameX d H H' → H' d = some (.lst ((qF ws n ns).2.map V.int)) → DeepT (hide d H') (dvQ (qF ws n ns).1) v → Q v H'
theorem hideX {d : Addr} {H H' : Hp} (s : SameX d H H') : Same (hide d H) (hide d H') := fun b o e => by
  by_cases c : b = d
  · rw [c, hide_at] at e; cases e
  · rw [hide_ne c] at e ⊢; exact s b o e c
theorem sameX_new {d p : Addr} {H : Hp} (h : H p = none) (o : HO) : SameX d H (upd H p o) := SameX.of (same_new h o)
def kF (n : Nat) (x : Int) : Int := if n = 0 then x % 9 % 5 else x % 9
theorem kF_lt (n : Nat) (x : Int) : 0 ≤ kF n x ∧ kF n x < 9 ∧ (n = 0 → kF n x < 5) := by
  unfold kF
  split
  · omega
  · refine ⟨by omega, by omega, fun e => absurd e (by assumption)⟩
theorem qF_lf {ws : List Str} {n : Nat} {ns : List Int} (h : kF n (lst0 ns) < 5) : qF ws n ns = lfF ws (lst0 ns) (kF n (lst0 ns)) ns.dropLast := by
  cases n with
  | zero => rfl
  | succ m =>
    have e : kF (m + 1) (lst0 ns) = lst0 ns % 9 := if_neg (by omega)
    rw [e] at h ⊢
    rw [qF, if_pos h]
theorem qF_nt {ws : List Str} {m : Nat} {ns : List Int} (h : kF (m + 1) (lst0 ns) = 5) : qF ws (m + 1) ns = (.nt (qF ws m ns.dropLast).1, (qF ws m ns.dropLast).2) := by
  have e : kF (m + 1) (lst0 ns) = lst0 ns % 9 := if_neg (by omega)
  rw [e] at h
  rw [qF, if_neg (by omega), if_pos h]
theorem qF_bo {ws : List Str} {m : Nat} {ns : List Int} (h : 5 < kF (m + 1) (lst0 ns)) : qF ws (m + 1) ns = (.bo (decide (kF (m + 1) (lst0 ns) % 2 = 0)) (qsF (qF ws m) (lst0 ns / 9 % 4).toNat ns.dropLast).1, (qsF (qF ws m) (lst0 ns / 9 % 4).toNat ns.dropLast).2) := by
  have e : kF (m + 1) (lst0 ns) = lst0 ns % 9 := if_neg (by omega)
  rw [e] at h ⊢
  rw [qF, if_neg (by omega), if_neg (by omega)]
theorem lfF0 (ws : List Str) (n : Int) (ns : List Int) : lfF ws n 0 ns = (.lf (fldF (lst0 ns)) (.word (wdF ws (n / 9))), ns.dropLast) := by unfold lfF; rw [if_pos rfl]
theorem lfF1 (ws : List Str) (n : Int) (ns : List Int) : lfF ws n 1 ns = (.lf (fldF (lst0 ns)) (.like (patF ws (lst0 ns.dropLast))), ns.dropLast.dropLast) := by unfold lfF; rw [if_neg (by decide), if_pos rfl]
theorem lfF2 (ws : List Str) (n : Int) (ns : List Int) : lfF ws n 2 ns = (.lf (fldF (lst0 ns)) (.row (wdsF ws (mdF ws n) (manyF n).toNat ns.dropLast).1), (wdsF ws (mdF ws n) (manyF n).toNat ns.dropLast).2) := by unfold lfF; rw [if_neg (by decide), if_neg (by decide), if_pos rfl]
theorem lfF34 (ws : List Str) (n : Int) (ns : List Int) (b : Bool) : lfF ws n (if b then 3 else 4) ns = (.lf (fldF (lst0 ns)) (.nc b (widF n).toNat (wdsF ws (mdF ws n) (manyF n).toNat ns.dropLast).1), (wdsF ws (mdF ws n) (manyF n).toNat ns.dropLast).2) := by
  cases b <;> (unfold lfF; rw [if_neg (by decide), if_neg (by decide), if_neg (by decide)]; rfl)
theorem leafT {d p : Addr} {M : Hp} {o : HO} {xs : List V} {ds : List DV} (hp : M p = none) (hd : M d = some o) (h : DeepTs (hide d M) ds xs) : DeepT (hide d (upd M p (.tup xs))) (.tup ds) (.ref p) := by
  rw [DeepT]
  exact ⟨p, xs, rfl, by rw [hide_ne (ne_of_none hd hp).symm, upd_same], DeepTs.same (hide_mono (same_new hp _)) _ _ h⟩
theorem leafL {d p : Addr} {M : Hp} {o : HO} {xs : List V} {ds : List DV} (hp : M p = none) (hd : M d = some o) (h : DeepTs (hide d M) ds xs) : DeepT (hide d (upd M p (.lst xs))) (.lst ds) (.ref p) := by
  rw [DeepT]
  exact ⟨p, xs, rfl, by rw [hide_ne (ne_of_none hd hp).symm, upd_same], DeepTs.same (hide_mono (same_new hp _)) _ _ h⟩
theorem dc {H : Hp} {d : DV} {v : V} {ds : List DV} {vs : List V} (h : DeepT H d v) (t : DeepTs H ds vs) : DeepTs H (d :: ds) (v :: vs) := by rw [DeepTs]; exact ⟨_, _, rfl, h, t⟩
theorem dS {H : Hp} (z : Str) : DeepT H (.str z) (.str z) := by rw [DeepT]
theorem dI {H : Hp} (i : Int) : DeepT H (.int i) (.int i) := by rw [DeepT]
section
variable {P : Program} {w : World} {K : PySem.W.Frag} {mg : Str → Option Value} {base : Heap} {f : Addr} {fd : FuncData}
def invWq (ws : List Str) (md : Int) (n2 : List Int) (pp d : Addr) (n : Int) (H : Hp) (i : Nat) (ys : List V) (σ : St) (L : Hp) : Prop := ∃ v0 : Option V, ys = (wdsF ws md i n2).1.map V.str ∧ σ = [v0, some (.ref pp), some (.ref d), some (.int n)] ∧ SameX d H L ∧ L d = some (.lst ((wdsF ws md i n2).2.map V.int))
def invQs (ws : List Str) (m : Nat) (n1 : List Int) (pp d : Addr) (H : Hp) (i : Nat) (ys : List V) (σ : St) (L : Hp) : Prop := ∃ v0 : Option V, DeepTs (hide d L) ((qsF (qF ws m) i n1).1.map dvQ) ys ∧ σ = [v0, some (.ref d), some (.ref pp), some (.int ((m + 1 : Nat) : Int))] ∧ SameX d H L ∧ L d = some (.lst ((qsF (qF ws m) i n1).2.map V.int))
theorem scQu : FnScope ["_law_draws_here", "_law_pool_here", "_law_deep", "_law_number", "_law_kind", "_law_field_here", "_law_many", "_law_words", "_law_ones"] ["_law_draws_here", "_law_pool_here", "_law_deep"] (defScope sQu) := ⟨rfl, rfl, rfl, by decide +kernel, rfl, by decide +kernel, by decide +kernel⟩
theorem ok_qu1 {gp gl ga : Addr} {dp dl da : FuncData} {n k : Nat} {SQ : Sp} (hn : n ≤ 2) (F : Fun K "_law_question" "_law_question" sQu f fd) (T : Txt mg) (GP : FnOk P w K mg base CX0 1 gp dp ["_law_draws_here"] spPop) (bP : Binds K dp ["_law_draws_here"] []) (kP : PySem.W.keepIn K (.ref gp) = true) (mP : mg "_law_pop" = some (.ref gp))
    (GFl : FnOk P w K mg base CX0 2 gl dl ["_law_draws_here"] spFd) (bFl : Binds K dl ["_law_draws_here"] []) (kFl : PySem.W.keepIn K (.ref gl) = true) (mFl : mg "_law_field" = some (.ref gl))
    (GPa : FnOk P w K mg base CX0 2 ga da ["_law_draws_here", "_law_pool_here"] spPt) (bPa : Binds K da ["_law_draws_here", "_law_pool_here"] []) (kPa : PySem.W.keepIn K (.ref ga) = true) (mPa : mg "_law_pattern" = some (.ref ga))
    (GQ : FnOk P w K mg base CX0 (k + 2) f fd ["_law_draws_here", "_law_pool_here", "_law_deep"] SQ) (bQ : Binds K fd ["_law_draws_here", "_law_pool_here", "_law_deep"] []) (mQ : mg "_law_question" = some (.ref f)) (hS : ∀ m, n = m + 1 → SQ = spQu m) : FnOk P w K mg base CX0 (k + 3) f fd ["_law_draws_here", "_law_pool_here", "_law_deep"] (spQu n) := by
  have kQ := F.kp
  refine F.ok scQu (fun vs H Q E h => ?_) (fun cdv A outer s H vs Q E hr h => ?_)
  · obtain ⟨d, pp, ns, ws, rfl, _⟩ := h
    rfl
  obtain ⟨d, pp, ns, ws, rfl, hw, hd, hp, dne, q⟩ := h
  have hr1 : Room 1 _ := hr.mono (by omega)
  have hr2 : Room 2 _ := hr.mono (by omega)
  refine ⟨_, (pss_cons (ps_set (i := 3) scQu.nd rfl (Or.inr rfl) (pe_call GP hr1 rfl mP kP bP .nil pass0 (pa_cons (pv 0) pa_nil)))
    (pss_cons (ps_set (i := 4) scQu.nd rfl (Or.inl rfl) (pe_op op_mod (pv 3) pe_int))
    (pss_cons (ps_if (pt_cmpR op_eq (pv 2) pe_int (nomark _)) (pss_one (ps_set (i := 4) scQu.nd rfl (Or.inl rfl) (pe_op op_mod (pv 4) pe_int))) pss_nil)
    (pss_cons (ps_if (pt_cmpR op_lt (pv 4) pe_int (nomark _)) (pss_one (ps_set (i := 5) scQu.nd rfl (Or.inl rfl) (pe_call GFl hr2 rfl mFl kFl bFl .nil pass0 (pa_cons (pv 0) pa_nil)))) pss_nil)
    (pss_cons (ps_if (pt_cmpR op_eq (pv 4) pe_int (nomark _)) (pss_one (ps_ret (pe_tup (@pa_cons _ _ _ _ _ pe_str (@pa_cons _ _ _ _ _ (pv 5) (@pa_cons _ _ _ _ _ (pe_ix (ixL K) (pe_op op_cat (pv 1) (pe_lst (pa_cons pe_str pa_nil))) (pe_op op_mod (pe_op op_fdiv (pv 3) pe_int) (pe_op op_add (pe_callB (lenK K) rfl T.len PySem.boot_len (pa_cons (pv 1) pa_nil)) pe_int)) (fun _ _ => rfl)) pa_nil star_S) star_N) star_K)))) pss_nil)
    (pss_cons (ps_if (pt_cmpR op_eq (pv 4) pe_int (nomark _)) (pss_one (ps_ret (pe_tup (@pa_cons _ _ _ _ _ pe_str (@pa_cons _ _ _ _ _ (pv 5) (@pa_cons _ _ _ _ _ (pe_call GPa hr2 rfl mPa kPa bPa .nil pass0 (pa_cons (pv 0) (pa_cons (pv 1) pa_nil))) pa_nil star_C) star_N) star_K)))) pss_nil)
    (pss_cons (ps_if (pt_cmpR op_lt (pv 4) pe_int (nomark _)) (pss_cons (ps_set (i := 6) scQu.nd rfl (Or.inl rfl) (pe_op op_add pe_int (pe_op op_mod (pe_op op_fdiv (pv 3) pe_int) (pe_ix (ixL K) (pe_lst (pa_cons pe_int (pa_cons pe_int pa_nil))) (pe_op op_mod (pe_op op_fdiv (pv 3) pe_int) pe_int) (fun _ _ => rfl)))))
    (pss_cons (ps_setC (i := 7) scQu.nd rfl rfl (N := ["_law_k", "_law_pool_here", "_law_draws_here", "_law_number"]) (pick := [none, some 1, some 0, some 3]) (NX := ["_law_draws_here", "_law_pool_here", "_law_deep", "_law_number", "_law_kind", "_law_field_here", "_law_many", "_law_words", "_law_ones"]) (sX := defScope sQu) (by decide +kernel) rfl rfl rfl (pi_range1 rfl T.range (pa_cons (pv 6) pa_nil))
        (fun _ _ _ _ => (pg_name (i := 0) (by decide +kernel : (["_law_k", "_law_pool_here", "_law_draws_here", "_law_number"] : List Str).Nodup) rfl (Or.inl rfl))) (fun _ _ _ _ => pifs_nil) (fun _ _ _ _ => (pe_ix (ixL K) (pv 1) (pe_op op_mod (pe_call GP hr1 rfl mP kP bP .nil pass0 (pa_cons (pv 2) pa_nil)) (pe_ix (ixL K) (pe_lst (pa_cons pe_int (pa_cons (pe_callB (lenK K) rfl T.len PySem.boot_len (pa_cons (pv 1) pa_nil)) pa_nil))) (pe_op op_mod (pe_op op_fdiv (pv 3) pe_int) pe_int) (fun _ _ => rfl))) (fun _ _ => rfl))))
    (pss_cons (ps_if (pt_cmpR op_eq (pv 4) pe_int (nomark _)) (pss_one (ps_ret (pe_tup (@pa_cons _ _ _ _ _ pe_str (@pa_cons _ _ _ _ _ (pv 5) (@pa_cons _ _ _ _ _ (pv 7) pa_nil star_N) star_N) star_K)))) pss_nil)
    (pss_one (ps_ret (pe_tup (@pa_cons _ _ _ _ _ (pe_ix (ixL K) (pe_lst (pa_cons pe_str (pa_cons pe_str pa_nil))) (pe_op op_sub (pv 4) pe_int) (fun _ _ => rfl)) (@pa_cons _ _ _ _ _ (pv 5) (@pa_cons _ _ _ _ _ (pe_op op_add pe_int (pe_op op_mod (pe_op op_fdiv (pv 3) pe_int) (pe_ix (ixL K) (pe_lst (pa_cons pe_int (pa_cons pe_int pa_nil))) (pe_op op_mod (pe_op op_fdiv (pv 3) pe_int) pe_int) (fun _ _ => rfl)))) (@pa_cons _ _ _ _ _ (pv 7) pa_nil star_N) star_B) star_N) star_S))))))) pss_nil)
    (pss_cons (ps_if (pt_cmpR op_eq (pv 4) pe_int (nomark _)) (pss_one (ps_ret (pe_tup (pa_cons pe_str (pa_cons (pe_call GQ hr rfl mQ kQ bQ .nil pass0 (pa_cons (pv 0) (pa_cons (pv 1) (pa_cons (pe_op op_sub (pv 2) pe_int) pa_nil)))) pa_nil))))) pss_nil)
    (pss_cons (ps_setC (i := 8) scQu.nd rfl rfl (N := ["_law_k", "_law_draws_here", "_law_pool_here", "_law_deep"]) (pick := [none, some 0, some 1, some 2]) (NX := ["_law_draws_here", "_law_pool_here", "_law_deep", "_law_number", "_law_kind", "_law_field_here", "_law_many", "_law_words", "_law_ones"]) (sX := defScope sQu) (by decide +kernel) rfl rfl rfl (pi_range1 rfl T.range (pa_cons (pe_op op_mod (pe_op op_fdiv (pv 3) pe_int) (pe_ix (ixL K) (pe_lst (@pa_cons _ _ _ _ _ pe_int (@pa_cons _ _ _ _ _ pe_int (@pa_cons _ _ _ _ _ pe_int (@pa_cons _ _ _ _ _ pe_int pa_nil star_K) star_K) star_K) star_K)) (pv 2) (fun _ _ => rfl))) pa_nil))
        (fun _ _ _ _ => (pg_name (i := 0) (by decide +kernel : (["_law_k", "_law_draws_here", "_law_pool_here", "_law_deep"] : List Str).Nodup) rfl (Or.inl rfl))) (fun _ _ _ _ => pifs_nil) (fun _ _ _ _ => (pe_call GQ hr rfl mQ kQ bQ .nil pass0 (pa_cons (pv 1) (pa_cons (pv 2) (pa_cons (pe_op op_sub (pv 3) pe_int) pa_nil))))))
    (pss_one (ps_ret (pe_tup (pa_cons (pe_ix (ixL K) (pe_lst (pa_cons pe_str (pa_cons pe_str pa_nil))) (pe_op op_mod (pv 4) pe_int) (fun _ _ => rfl)) (pa_cons (pv 8) pa_nil)))))))))))))), ?_⟩
  refine seq_inv (fun σ L => σ = [some (.ref d), some (.ref pp), some (.int (n : Int)), some (.int (lst0 ns)), none, none, none, none, none] ∧ SameX d H L ∧ L d = some (.lst (ns.dropLast.map V.int))) ?_ (fun N hN => ?_)
  rotate_left
  · simpa only [and_self]
    exact ⟨d, ns, rfl, hd, fun H' s' e' => hN _ _ ⟨rfl, s', e'⟩⟩
  rintro σ L ⟨rfl, sL, hL⟩
  refine seq_inv (fun σ M => σ = [some (.ref d), some (.ref pp), some (.int (n : Int)), some (.int (lst0 ns)), some (.int (lst0 ns % 9)), none, none, none, none] ∧ M = L) ?_ (fun N hN => ?_)
  rotate_left
  · simpa only [and_self]
    exact ⟨by decide, hN _ _ ⟨rfl, rfl⟩⟩
  rintro σ M ⟨rfl, rfl⟩
  refine seq_inv (fun σ M' => σ = [some (.ref d), some (.ref pp), some (.int (n : Int)), some (.int (lst0 ns)), some (.int (kF n (lst0 ns))), none, none, none, none] ∧ M' = M) ?_ (fun N hN => ?_)
  rotate_left
  · simpa only [and_self]
    refine ite2 (fun c => ⟨by decide, hN _ _ ⟨?_, rfl⟩⟩) (fun c => hN _ _ ⟨?_, rfl⟩)
    · have : n = 0 := by simpa using c
      subst this
      rfl
    · have : n ≠ 0 := by simpa using c
      unfold kF
      rw [if_neg this]
  rintro σ M' ⟨rfl, rfl⟩
  obtain ⟨k0, k9, k5⟩ := kF_lt n (lst0 ns)
  have q1 := @qF_lf ws n ns
  have q2 : kF n (lst0 ns) = 5 → ∃ m, n = m + 1 ∧ qF ws n ns = (.nt (qF ws m ns.dropLast).1, (qF ws m ns.dropLast).2) := fun h => by
    cases n with
    | zero => have := k5 rfl; omega
    | succ m => exact ⟨m, rfl, qF_nt h⟩
  have q3 : 5 < kF n (lst0 ns) → ∃ m, n = m + 1 ∧ qF ws n ns = (.bo (decide (kF n (lst0 ns) % 2 = 0)) (qsF (qF ws m) (lst0 ns / 9 % 4).toNat ns.dropLast).1, (qsF (qF ws m) (lst0 ns / 9 % 4).toNat ns.dropLast).2) := fun h => by
    cases n with
    | zero => have := k5 rfl; omega
    | succ m => exact ⟨m, rfl, qF_bo h⟩
  generalize kF n (lst0 ns) = kk at k0 k9 q1 q2 q3
  refine seq_inv (fun σ M => ∃ v5, σ = [some (.ref d), some (.ref pp), some (.int (n : Int)), some (.int (lst0 ns)), some (.int kk), v5, none, none, none] ∧ SameX d H M ∧ ((kk < 5 ∧ v5 = some (.str (fldF (lst0 ns.dropLast))) ∧ M d = some (.lst (ns.dropLast.dropLast.map V.int))) ∨ (5 ≤ kk ∧ M d = some (.lst (ns.dropLast.map V.int))))) ?_ (fun N hN => ?_)
  rotate_left
  · simpa only [and_self]
    refine ite2 (fun c => ?_) (fun c => ?_)
    · have c' : kk < 5 := by simpa using c
      exact ⟨d, ns.dropLast, rfl, hL, fun H' s' e' => hN _ _ ⟨_, rfl, sL.trans s', .inl ⟨c', rfl, e'⟩⟩⟩
    · have c' : ¬ kk < 5 := by simpa using c
      exact hN _ _ ⟨_, rfl, sL, .inr ⟨by omega, hL⟩⟩
  rintro σ M ⟨v5, rfl, sM, hc⟩
  have hpM : M pp = some (.lst (ws.map V.str)) := sM _ _ hp dne.symm
  rcases hc with ⟨hk, rfl, hM⟩ | ⟨hk, hM⟩
  · have hq := q1 hk
    have mo := many_ok (lst0 ns)
    have md := md_ok hw (lst0 ns)
    rcases (show kk = 0 ∨ kk = 1 ∨ kk = 2 ∨ ∃ b : Bool, kk = if b then 3 else 4 by
      rcases (show kk = 0 ∨ kk = 1 ∨ kk = 2 ∨ kk = 3 ∨ kk = 4 by omega) with h | h | h | h | h
      · exact .inl h
      · exact .inr (.inl h)
      · exact .inr (.inr (.inl h))
      · exact .inr (.inr (.inr ⟨true, h⟩))
      · exact .inr (.inr (.inr ⟨false, h⟩))) with rfl | rfl | rfl | ⟨b, rfl⟩
    · rw [hq, lfF0] at q
      simpa only [and_self]
      rw [if_pos (by rfl)]
      refine ⟨small (by decide), fun p1 h1 => ⟨_, upd_at hpM h1, _, upd_same, small (by rw [List.length_map, hw.1]; decide), fun p2 h2 => ⟨⟨by decide, by decide⟩, _, .inl (SqL.of (upd_at (upd_at hpM h1) h2)), by omega, _, SqL.of upd_same, _, zz_at _, small (by decide), fun p3 h3 => ?_⟩⟩⟩
      have sN := ((sameX_new (d := d) h1 (.lst [V.str "zz"])).trans (sameX_new h2 (.lst (ws.map V.str ++ [V.str "zz"])))).trans (sameX_new h3 (.tup [V.str "word", V.str (fldF (lst0 ns.dropLast)), V.str (wdF ws (lst0 ns / 9))]))
      refine q _ _ (sM.trans sN) (upd_at (upd_at (upd_at hM h1) h2) h3) ?_
      rw [dvQ]
      exact leafT h3 (upd_at (upd_at hM h1) h2) (dc (dS _) (dc (dS _) (DeepTs.one (dS _))))
    · rw [hq, lfF1] at q
      simpa only [and_self]
      rw [if_neg (by decide), if_pos (by rfl)]
      refine ⟨d, pp, _, ws, rfl, hw, hM, hpM, dne, fun H1 s1 e1 => ⟨small (by decide), fun p3 h3 => q _ _ ((sM.trans s1).trans (sameX_new h3 _)) (upd_at e1 h3) ?_⟩⟩
      rw [dvQ]
      exact leafT h3 e1 (dc (dS _) (dc (dS _) (DeepTs.one (dS _))))
    · rw [hq, lfF2] at q
      simpa only [and_self]
      rw [if_neg (by decide), if_neg (by decide), if_pos (by decide)]
      refine ⟨⟨by decide, by decide⟩, small (by decide), fun p1 h1 => ⟨⟨by decide, by decide⟩, by decide, _, SqL.of upd_same, _, atM (f := V.int) (xs := ([4, 6] : List Int)) (d := 0) (Int.emod_nonneg _ (by decide)) (Int.emod_lt_of_pos _ (by decide)), _, rfl, by rcases two_of (a := 4) (b := 6) (lst0 ns / 2000) with e | e <;> rw [e] <;> decide, by have := mo.1; unfold manyF at this; omega, by have := mo.2; unfold manyF at this; omega, ?_⟩⟩
      refine compW_range (lo := 0) (invWq ws (mdF ws (lst0 ns)) ns.dropLast.dropLast pp d (lst0 ns) H) ⟨none, rfl, rfl, sM.trans (sameX_new h1 _), upd_at hM h1⟩ ?_ ?_ ?_
      · rintro i ys σ L hi ⟨v0, rfl, rfl, sL, eL⟩
        rw [List.length_map, (wds_ok hw md.1 md.2 _ i).1]
        exact le_line (by have := mo.2; unfold manyF at this; omega)
      · rintro i ys σ L hi ⟨v0, rfl, rfl, sL, eL⟩
        have hpL : L pp = some (.lst (ws.map V.str)) := sL _ _ hp dne.symm
        simpa only [and_self]
        refine ⟨d, _, rfl, eL, fun H1 s1 e1 => ?_⟩
        have hp1 : H1 pp = some (.lst (ws.map V.str)) := s1 _ _ hpL dne.symm
        have hat := atM (f := V.int) (xs := ([2, (ws.length : Int)] : List Int)) (d := 0) (k := lst0 ns / 9 % 2) (Int.emod_nonneg _ (by decide)) (Int.emod_lt_of_pos _ (by decide))
        have ha2 := atM (f := V.str) (xs := ws) (d := "") (k := lst0 (wdsF ws (mdF ws (lst0 ns)) i ns.dropLast.dropLast).2 % mdF ws (lst0 ns)) (Int.emod_nonneg _ (by have := md.1; omega)) (by have := Int.emod_lt_of_pos (lst0 (wdsF ws (mdF ws (lst0 ns)) i ns.dropLast.dropLast).2) (show 0 < mdF ws (lst0 ns) by have := md.1; omega); have := md.2; have := hw.1; omega)
        refine ⟨_, .inl (SqL.of hp1), small (by decide), fun p2 h2 => ⟨⟨by decide, by decide⟩, by decide, _, SqL.of upd_same, .int (mdF ws (lst0 ns)), by rw [List.length_map]; exact hat, _, rfl, mdF ws (lst0 ns), rfl, by have := md.1; omega, _, SqL.of (upd_at hp1 h2), _, ha2, _, ?_, rfl, (sL.trans s1).trans (sameX_new h2 _), upd_at e1 h2⟩⟩
        rw [wdsF, List.map_append]
        rfl
      · rintro ys σ L ⟨v0, rfl, rfl, sL, eL⟩ p2 h2
        have dw : DeepT (hide d (upd L p2 (.lst ((wdsF ws (mdF ws (lst0 ns)) (manyF (lst0 ns)).toNat ns.dropLast.dropLast).1.map V.str)))) (.lst ((wdsF ws (mdF ws (lst0 ns)) (manyF (lst0 ns)).toNat ns.dropLast.dropLast).1.map DV.str)) (.ref p2) := leafL h2 eL (strs_deeps _)
        rw [if_pos (by rfl)]
        refine ⟨small (by decide), fun p3 h3 => q _ _ ((sL.trans (sameX_new h2 _)).trans (sameX_new h3 _)) (upd_at (upd_at eL h2) h3) ?_⟩
        rw [dvQ]
        exact leafT h3 (upd_at eL h2) (dc (dS _) (dc (dS _) (DeepTs.one dw)))
    · rw [hq, lfF34] at q
      simpa only [and_self]
      rw [if_neg (by cases b <;> decide), if_neg (by cases b <;> decide), if_pos (by cases b <;> decide)]
      refine ⟨⟨by decide, by decide⟩, small (by decide), fun p1 h1 => ⟨⟨by decide, by decide⟩, by decide, _, SqL.of upd_same, _, atM (f := V.int) (xs := ([4, 6] : List Int)) (d := 0) (Int.emod_nonneg _ (by decide)) (Int.emod_lt_of_pos _ (by decide)), _, rfl, by rcases two_of (a := 4) (b := 6) (lst0 ns / 2000) with e | e <;> rw [e] <;> decide, by have := mo.1; unfold manyF at this; omega, by have := mo.2; unfold manyF at this; omega, ?_⟩⟩
      refine compW_range (lo := 0) (invWq ws (mdF ws (lst0 ns)) ns.dropLast.dropLast pp d (lst0 ns) H) ⟨none, rfl, rfl, sM.trans (sameX_new h1 _), upd_at hM h1⟩ ?_ ?_ ?_
      · rintro i ys σ L hi ⟨v0, rfl, rfl, sL, eL⟩
        rw [List.length_map, (wds_ok hw md.1 md.2 _ i).1]
        exact le_line (by have := mo.2; unfold manyF at this; omega)
      · rintro i ys σ L hi ⟨v0, rfl, rfl, sL, eL⟩
        have hpL : L pp = some (.lst (ws.map V.str)) := sL _ _ hp dne.symm
        simpa only [and_self]
        refine ⟨d, _, rfl, eL, fun H1 s1 e1 => ?_⟩
        have hp1 : H1 pp = some (.lst (ws.map V.str)) := s1 _ _ hpL dne.symm
        have hat := atM (f := V.int) (xs := ([2, (ws.length : Int)] : List Int)) (d := 0) (k := lst0 ns / 9 % 2) (Int.emod_nonneg _ (by decide)) (Int.emod_lt_of_pos _ (by decide))
        have ha2 := atM (f := V.str) (xs := ws) (d := "") (k := lst0 (wdsF ws (mdF ws (lst0 ns)) i ns.dropLast.dropLast).2 % mdF ws (lst0 ns)) (Int.emod_nonneg _ (by have := md.1; omega)) (by have := Int.emod_lt_of_pos (lst0 (wdsF ws (mdF ws (lst0 ns)) i ns.dropLast.dropLast).2) (show 0 < mdF ws (lst0 ns) by have := md.1; omega); have := md.2; have := hw.1; omega)
        refine ⟨_, .inl (SqL.of hp1), small (by decide), fun p2 h2 => ⟨⟨by decide, by decide⟩, by decide, _, SqL.of upd_same, .int (mdF ws (lst0 ns)), by rw [List.length_map]; exact hat, _, rfl, mdF ws (lst0 ns), rfl, by have := md.1; omega, _, SqL.of (upd_at hp1 h2), _, ha2, _, ?_, rfl, (sL.trans s1).trans (sameX_new h2 _), upd_at e1 h2⟩⟩
        rw [wdsF, List.map_append]
        rfl
      · rintro ys σ L ⟨v0, rfl, rfl, sL, eL⟩ p2 h2
        have dw : DeepT (hide d (upd L p2 (.lst ((wdsF ws (mdF ws (lst0 ns)) (manyF (lst0 ns)).toNat ns.dropLast.dropLast).1.map V.str)))) (.lst ((wdsF ws (mdF ws (lst0 ns)) (manyF (lst0 ns)).toNat ns.dropLast.dropLast).1.map DV.str)) (.ref p2) := leafL h2 eL (strs_deeps _)
        rw [if_neg (by cases b <;> decide)]
        have nc : atI [V.str "near", V.str "chain"] ((if b = true then 3 else 4) - 3) = some (.str (ncN b)) := by cases b <;> rfl
        have wo := wid_ok (lst0 ns)
        have wn : ((widF (lst0 ns)).toNat : Int) = widF (lst0 ns) := by omega
        refine ⟨small (by decide), fun p3 h3 => ⟨_, SqL.of upd_same, _, nc, ⟨by decide, by decide⟩, small (by decide), fun p4 h4 => ⟨⟨by decide, by decide⟩, by decide, _, SqL.of upd_same, _, atM (f := V.int) (xs := ([9, 20] : List Int)) (d := 0) (Int.emod_nonneg _ (by decide)) (Int.emod_lt_of_pos _ (by decide)), _, rfl, by rcases two_of (a := 9) (b := 20) (lst0 ns / 4000) with e | e <;> rw [e] <;> decide, small (by decide), fun p5 h5 => ?_⟩⟩⟩
        refine q _ _ ((((sL.trans (sameX_new h2 _)).trans (sameX_new h3 _)).trans (sameX_new h4 _)).trans (sameX_new h5 _)) (upd_at (upd_at (upd_at (upd_at eL h2) h3) h4) h5) ?_
        rw [dvQ]
        refine leafT h5 (upd_at (upd_at (upd_at eL h2) h3) h4) (dc (dS _) (dc (dS _) (dc ?_ (DeepTs.one (DeepT.same (hide_mono ((same_new h3 _).trans (same_new h4 _))) _ _ dw)))))
        rw [wn]
        exact dI _
  · rcases (show kk = 5 ∨ 5 < kk by omega) with rfl | hk5
    · obtain ⟨m, rfl, hq⟩ := q2 rfl
      rw [hq] at q
      rw [hS m rfl]
      simpa only [and_self]
      rw [if_neg (by decide), if_neg (by decide), if_neg (by decide), if_pos (by rfl)]
      refine ⟨d, pp, _, ws, by rw [show ((m + 1 : Nat) : Int) - 1 = (m : Int) by omega], hw, hM, hpM, dne, fun v H1 s1 e1 dv => ⟨small (by decide), fun p3 h3 => q _ _ ((sM.trans s1).trans (sameX_new h3 _)) (upd_at e1 h3) ?_⟩⟩
      rw [dvQ]
      exact leafT h3 e1 (dc (dS _) (DeepTs.one dv))
    · obtain ⟨m, rfl, hq⟩ := q3 hk5
      rw [hq] at q
      rw [hS m rfl]
      have h4 : atI [V.int 4, V.int 4, V.int 4, V.int 3] ((m + 1 : Nat) : Int) = some (.int 4) := by
        rcases (show m = 0 ∨ m = 1 by omega) with rfl | rfl <;> rfl
      have hbo : atI [V.str "both", V.str "one"] (kk % 2) = some (.str (boN (decide (kk % 2 = 0)))) := by
        rcases (show kk % 2 = 0 ∨ kk % 2 = 1 by omega) with e | e <;> rw [e] <;> rfl
      simpa only [and_self]
      rw [if_neg (by simp; omega), if_neg (by simp; omega), if_neg (by simp; omega), if_neg (by simp; omega)]
      refine ⟨⟨by decide, by decide⟩, small (by decide), fun p1 h1 => ⟨_, SqL.of upd_same, _, h4, _, rfl, by decide, by omega, by omega, ?_⟩⟩
      refine compW_range (lo := 0) (invQs ws m ns.dropLast pp d H) ⟨none, DeepTs.nil, rfl, sM.trans (sameX_new h1 _), upd_at hM h1⟩ ?_ ?_ ?_
      · rintro i ys σ L hi ⟨v0, dy, rfl, sL, eL⟩
        rw [dy.length, List.length_map, (qs_ok (p := fun _ => True) (fun _ => trivial) _ i).1]
        exact le_line (by omega)
      · rintro i ys σ L hi ⟨v0, dy, rfl, sL, eL⟩
        have hpL : L pp = some (.lst (ws.map V.str)) := sL _ _ hp dne.symm
        simpa only [and_self]
        refine ⟨d, pp, _, ws, by rw [show ((m + 1 : Nat) : Int) - 1 = (m : Int) by omega], hw, eL, hpL, dne, fun v H1 s1 e1 dv => ⟨_, ?_, rfl, sL.trans s1, e1⟩⟩
        rw [qsF, List.map_append]
        exact deeps_snoc (DeepTs.same (hideX s1) _ _ dy) dv
      · rintro ys σ L ⟨v0, dy, rfl, sL, eL⟩ p2 h2
        refine ⟨small (by decide), fun p3 h3 => ⟨by decide, _, SqL.of upd_same, _, hbo, small (by decide), fun p5 h5 => ?_⟩⟩
        refine q _ _ (((sL.trans (sameX_new h2 _)).trans (sameX_new h3 _)).trans (sameX_new h5 _)) (upd_at (upd_at (upd_at eL h2) h3) h5) ?_
        rw [dvQ, dvQs_map]
        exact leafT h5 (upd_at (upd_at eL h2) h3) (dc (dS _) (DeepTs.one (DeepT.same (hide_mono (same_new h3 _)) _ _ (leafL h2 eL dy))))
theorem ok_qus {gp gl ga : Addr} {dp dl da : FuncData} (F : Fun K "_law_question" "_law_question" sQu f fd) (bQ : Binds K fd ["_law_draws_here", "_law_pool_here", "_law_deep"] []) (mQ : mg "_law_question" = some (.ref f)) (T : Txt mg) (GP : FnOk P w K mg base CX0 1 gp dp ["_law_draws_here"] spPop) (bP : Binds K dp ["_law_draws_here"] []) (kP : PySem.W.keepIn K (.ref gp) = true) (mP : mg "_law_pop" = some (.ref gp))
    (GFl : FnOk P w K mg base CX0 2 gl dl ["_law_draws_here"] spFd) (bFl : Binds K dl ["_law_draws_here"] []) (kFl : PySem.W.keepIn K (.ref gl) = true) (mFl : mg "_law_field" = some (.ref gl))
    (GPa : FnOk P w K mg base CX0 2 ga da ["_law_draws_here", "_law_pool_here"] spPt) (bPa : Binds K da ["_law_draws_here", "_law_pool_here"] []) (kPa : PySem.W.keepIn K (.ref ga) = true) (mPa : mg "_law_pattern" = some (.ref ga)) : ∀ n, n ≤ 2 → FnOk P w K mg base CX0 (n + 3) f fd ["_law_draws_here", "_law_pool_here", "_law_deep"] (spQu n)
  | 0, h => ok_qu1 (k := 0) (SQ := fun _ _ _ _ => False) h F T GP bP kP mP GFl bFl kFl mFl GPa bPa kPa mPa fn_false bQ mQ (fun m e => by cases e)
  | n + 1, h => ok_qu1 (k := n + 1) h F T GP bP kP mP GFl bFl kFl mFl GPa bPa kPa mPa (ok_qus F bQ mQ T GP bP kP mP GFl bFl kFl mFl GPa bPa kPa mPa n (by omega)) bQ mQ (fun m e => by cases e; rfl)
end
def spSh (n : Nat) : Sp := fun vs H Q _ => ∃ (v : V) (q : Qn), vs = [v] ∧ OkQ n q ∧ (shown q).length ≤ 100000 ∧ DeepT H (dvQ q) v ∧ ∀ (z : Str) H', Same H H' → cs z = shown q → Q (.str z) H'
theorem ctI' (z : Str) (lo hi : Option Int) : (⟨(cutL z.cps.toList lo hi).toArray⟩ : Str) = ct z lo hi := rfl
theorem boN_not (b : Bool) : boN b ≠ "not" := by cases b <;> decide +kernel
theorem orTwo {K : PySem.W.Frag} {H : Hp} {p : Addr} {xs : List V} {A B : Prop} {b : Bool} (hp : H p = some (.tup (.str (boN b) :: xs))) (a : A) : if decide (V.str (boN b) = V.str "both") = true then A else ∃ xs, SqT K H p xs ∧ ∃ v, atI xs 0 = some v ∧ scal v (V.str "one") = true ∧ if decide (v = V.str "one") = true then A else B := by
  refine ite2 (fun _ => a) (fun c => ⟨_, SqT.of hp, .str (boN b), ?_, rfl, ?_⟩)
  · exact atI_nat (j := 0) rfl
  · rw [if_pos ?_]
    · exact a
    · cases b
      · decide +kernel
      · exact absurd (by decide +kernel) c
theorem sg_at (b : Bool) : atI [V.str "|", V.str "&"] (if decide (V.str (boN b) = V.str "both") = true then 1 else 0) = some (.str (sgS b)) := by cases b <;> decide +kernel
section
variable {P : Program} {w : World} {K : PySem.W.Frag} {mg : Str → Option Value} {base : Heap} {f : Addr} {fd : FuncData}
theorem scSh : FnScope ["_law_question_here", "_law_sign", "_law_line", "_law_k", "_law_one", "_law_words", "_law_word", "_law_ends"] ["_law_question_here"] (defScope sSh) := ⟨rfl, rfl, rfl, by decide +kernel, rfl, by decide +kernel, by decide +kernel⟩
def invB (b : Bool) (qs : List Qn) (p : Addr) (H : Hp) (i : Nat) (σ : St) (M : Hp) : Prop := ∃ (z : Str) (v3 v4 : Option V), σ = [some (.ref p), some (.str (sgS b)), some (.str z), v3, v4, none, none, none] ∧ Same H M ∧ cs z = 40 :: (prf b qs.length ++ jn [32, sg b, 32] ((qs.map shown).take i))
def invWs (ws : List Str) (p : Addr) (ln : Str) (H : Hp) (i : Nat) (σ : St) (M : Hp) : Prop := ∃ (z : Str) (v6 : Option V), σ = [some (.ref p), none, some (.str ln), none, none, some (.str z), v6, none] ∧ M = H ∧ cs z = jr [32] ((ws.map cs).take i)
theorem ok_sh1 {n k : Nat} {SQ : Sp} (F : Fun K "_law_shown" "_law_shown" sSh f fd) (T : Txt mg) (GSh : FnOk P w K mg base CX0 (k + 1) f fd ["_law_question_here"] SQ) (bSh : Binds K fd ["_law_question_here"] []) (mSh : mg "_law_shown" = some (.ref f)) (hS : ∀ m, n = m + 1 → SQ = spSh m) : FnOk P w K mg base CX0 (k + 2) f fd ["_law_question_here"] (spSh n) := by
  have kSh := F.kp
  refine F.ok scSh (fun vs H Q E h => ?_) (fun cdv A outer s H vs Q E hr h => ?_)
  · obtain ⟨v, q, rfl, _⟩ := h
    rfl
  obtain ⟨v, q, rfl, hok, hlen, hv, hq⟩ := h
  refine ⟨_, (pss_cons (ps_if (pt_cmpR op_eq (pe_ix (ixT K) (pv 0) pe_int (fun _ _ => rfl)) pe_str (nomark _)) (pss_one (ps_ret (pe_op op_add_str pe_str (pe_call GSh hr rfl mSh kSh bSh .nil pass0 (pa_cons (pe_ix (ixT K) (pv 0) pe_int (fun _ _ => rfl)) pa_nil))))) pss_nil)
    (pss_cons (ps_if (PW.pt (pw_or (pt_cmpR op_eq (pe_ix (ixT K) (pv 0) pe_int (fun _ _ => rfl)) pe_str (nomark _)) (pw_or1 (pt_cmpR op_eq (pe_ix (ixT K) (pv 0) pe_int (fun _ _ => rfl)) pe_str (nomark _))))) (pss_cons (ps_set (i := 1) scSh.nd rfl (Or.inl rfl) (pe_ix (ixL K) (pe_lst (pa_cons pe_str (pa_cons pe_str pa_nil))) (pe_callTy call_intB rfl T.int (by decide +kernel) (pa_cons (pe_cmpR op_eq (pe_ix (ixT K) (pv 0) pe_int (fun _ _ => rfl)) pe_str (nomark _)) pa_nil)) (fun _ _ => rfl)))
    (pss_cons (ps_set (i := 2) scSh.nd rfl (Or.inl rfl) pe_str)
    (pss_cons (ps_if (pt_cmpR op_lt (pe_callB (lenK K) rfl T.len PySem.boot_len (pa_cons (pe_ix (ixT K) (pv 0) pe_int (fun _ _ => rfl)) pa_nil)) pe_int (nomark _)) (pss_one (ps_set (i := 2) scSh.nd rfl (Or.inl rfl) (pe_op op_add_str (pe_op op_add_str (pv 2) (pv 1)) (pe_op op_repT pe_str (pe_callB (lenK K) rfl T.len PySem.boot_len (pa_cons (pe_ix (ixT K) (pv 0) pe_int (fun _ _ => rfl)) pa_nil)))))) pss_nil)
    (pss_cons (ps_for PassesOwn.never rfl (pi_enum rfl T.enumerate (pa_cons (pe_ix (ixT K) (pv 0) pe_int (fun _ _ => rfl)) pa_nil)) (pgT K (n := 2) rfl (pgs_cons (pg_name (i := 3) scSh.nd rfl (Or.inl rfl)) (pgs_cons (pg_name (i := 4) scSh.nd rfl (Or.inl rfl)) pgs_nil)))
      (pss_cons (ps_if (pt_cmpR op_gt (pv 3) pe_int (nomark _)) (pss_one (ps_set (i := 2) scSh.nd rfl (Or.inl rfl) (pe_op op_add_str (pe_op op_add_str (pe_op op_add_str (pv 2) pe_str) (pv 1)) pe_str))) pss_nil)
    (pss_one (ps_set (i := 2) scSh.nd rfl (Or.inl rfl) (pe_op op_add_str (pv 2) (pe_call GSh hr rfl mSh kSh bSh .nil pass0 (pa_cons (pv 4) pa_nil)))))))
    (pss_one (ps_ret (pe_op op_add_str (pv 2) pe_str))))))) pss_nil)
    (pss_cons (ps_set (i := 2) scSh.nd rfl (Or.inl rfl) (pe_op op_add_str (pe_ix (ixT K) (pv 0) pe_int (fun _ _ => rfl)) pe_str))
    (pss_cons (ps_if (pt_cmpR op_eq (pe_ix (ixT K) (pv 0) pe_int (fun _ _ => rfl)) pe_str (nomark _)) (pss_one (ps_ret (pe_op op_add_str (pv 2) (pe_ix (ixT K) (pv 0) pe_int (fun _ _ => rfl))))) pss_nil)
    (pss_cons (ps_if (pt_cmpR op_eq (pe_ix (ixT K) (pv 0) pe_int (fun _ _ => rfl)) pe_str (nomark _)) (pss_one (ps_ret (pe_op op_add_str (pe_op op_add_str (pv 2) (pe_op op_repT pe_str (pe_callTy call_intB rfl T.int (by decide +kernel) (pa_cons (pe_and (pe_cmpR op_notin_str pe_str (pe_ix (ixT K) (pv 0) pe_int (fun _ _ => rfl)) rfl) (pe_one (pe_cmpR op_notin_str pe_str (pe_ix (ixT K) (pv 0) pe_int (fun _ _ => rfl)) rfl))) pa_nil)))) (pe_ix (ixT K) (pv 0) pe_int (fun _ _ => rfl))))) pss_nil)
    (pss_cons (ps_set (i := 5) scSh.nd rfl (Or.inl rfl) pe_str)
    (pss_cons (ps_for PassesOwn.never rfl (pi_listK K (pe_ix (ixT K) (pv 0) (pe_un un_neg pe_int) (fun _ _ => rfl))) (pg_name (i := 6) scSh.nd rfl (Or.inl rfl))
      (pss_one (ps_set (i := 5) scSh.nd rfl (Or.inl rfl) (pe_op op_add_str (pe_op op_add_str (pv 5) pe_str) (pv 6)))))
    (pss_cons (ps_if (pt_cmpR op_eq (pe_ix (ixT K) (pv 0) pe_int (fun _ _ => rfl)) pe_str (nomark _)) (pss_one (ps_ret (pe_op op_add_str (pe_op op_add_str (pe_op op_add_str (pv 2) pe_str) (pe_slice sl_str (pv 5) (po_some pe_int) po_none)) pe_str))) pss_nil)
    (pss_cons (ps_set (i := 7) scSh.nd rfl (Or.inl rfl) (pe_ix (ixL K) (pe_lst (pa_cons pe_str (pa_cons pe_str pa_nil))) (pe_callTy call_intB rfl T.int (by decide +kernel) (pa_cons (pe_cmpR op_eq (pe_ix (ixT K) (pv 0) pe_int (fun _ _ => rfl)) pe_str (nomark _)) pa_nil)) (fun _ _ => rfl)))
    (pss_one (ps_ret (pe_op op_add_str (pe_op op_add_str (pe_op op_add_str (pe_op op_add_str (pv 2) (pe_callTy call_strI rfl T.str (by decide +kernel) (pa_cons (pe_ix (ixT K) (pv 0) pe_int (fun _ _ => rfl)) pa_nil))) (pe_ix ix_str (pv 7) pe_int (fun _ _ => rfl))) (pe_slice sl_str (pv 5) (po_some pe_int) po_none)) (pe_ix ix_str (pv 7) pe_int (fun _ _ => rfl)))))))))))))), ?_⟩
  have e1 : ("!" : Str).length = 1 := by decide
  have e2 : (")" : Str).length = 1 := by decide
  have e3 : (" " : Str).length = 1 := by decide
  have e4 : (":" : Str).length = 1 := by decide
  have e5 : ("(" : Str).length = 1 := by decide
  cases q with
  | nt q' =>
    cases n with
    | zero => exact hok.elim
    | succ m =>
      rw [hS m rfl]
      rw [dvQ] at hv
      obtain ⟨p, v1, rfl, hp, h2⟩ := t2 hv
      rw [shown] at hlen hq
      rw [List.length_cons] at hlen
      refine seq_inv (fun _ _ => False) (fun _ _ h => h.elim) (fun N hN => ?_)
      simpa only [and_self]
      refine ⟨_, SqT.of hp, .str "not", rfl, rfl, ?_⟩
      rw [if_pos (by decide +kernel)]
      refine ⟨_, SqT.of hp, v1, rfl, v1, q', rfl, hok, by omega, h2, fun z H' s' hz => ?_⟩
      have lz : z.length = (shown q').length := by rw [← slen]; exact congrArg _ hz
      refine ⟨z, rfl, ?_, hq _ _ s' ?_⟩
      · rw [e1, lz]; exact le_line (by omega)
      · rw [cs_app, csE, hz]; rfl
  | bo b qs =>
    cases n with
    | zero => exact hok.elim
    | succ m =>
      rw [hS m rfl]
      rw [dvQ] at hv
      obtain ⟨p, v1, rfl, hp, h2⟩ := t2 hv
      obtain ⟨p1, ys, rfl, hp1, hys⟩ := deep_l h2
      have hpart := @shown_part b qs
      have hl : ys.length = qs.length := by rw [hys.length, dvQs_map, List.length_map]
      have hq1 := hok.1
      have hlen0 := hlen
      rw [shown, showns_map] at hlen hq
      rw [List.length_cons, List.length_append, inn_eq, List.length_append, List.length_map] at hlen
      simp only [List.length_cons, List.length_nil] at hlen
      refine seq_inv (fun σ L => σ = [some (.ref p), none, none, none, none, none, none, none] ∧ L = H) ?_ (fun N hN => ?_)
      rotate_left
      · simpa only [and_self]
        refine ⟨_, SqT.of hp, .str (boN b), rfl, rfl, ?_⟩
        rw [if_neg (by simpa using boN_not b)]
        exact hN _ _ ⟨rfl, rfl⟩
      rintro σ L ⟨rfl, rfl⟩
      refine seq_inv (fun _ _ => False) (fun _ _ h => h.elim) (fun N hN => ?_)
      simp only [tIfS, tAnd, tOr, tNot, tB, tVar, tTest, tOp, tC, tUn, tCB, tCons, tNil, rI0, rI, rU, rNe, rEq, scal, rAppend, tBM, tDrop, tAsg, gName, tRet, tNext, List.set_cons_zero, List.set_cons_succ, List.getElem?_cons_zero, List.getElem?_cons_succ, Option.some.injEq, V.int.injEq, V.bl.injEq, V.ref.injEq, V.str.injEq, exists_eq_left', exists_eq_left, exists_and_left, List.cons.injEq, and_true, true_and, and_assoc, exists_const, L2.start, List.map_cons, List.map_nil, List.length_cons, List.length_nil, List.replicate_succ, List.replicate_zero, List.cons_append, List.nil_append, List.append_nil, Nat.reduceAdd, Nat.reduceSub, tFor_eq, tComp_eq, tWhile_eq, tChain, tAug, ipI, rIxS, rSlS, rLower, rIndex, rPop, rCat, tBM0, gSub, rSetL, tSl, tPart, tNoPart, rSlL, tCall, tLst, tTup, iRng1, iRng2, iRng3, iList, iEnum, gTup, gCons, gNil, rIxL, rIxT, tYes, tAndV, tOrV, tNotV, tIf, tTest, exists_eq', List.ne_cons_self, reduceCtorEq, if_true, if_false, and_false, false_and]
      refine ⟨_, SqT.of hp, .str (boN b), rfl, rfl, orTwo hp ?_⟩
      refine seq_inv (fun σ M => σ = [some (.ref p), some (.str (sgS b)), none, none, none, none, none, none] ∧ Same L M) ?_ (fun N hN => ?_)
      rotate_left
      · simpa only [and_self]
        exact ⟨small (by decide), fun p2 hp2 => ⟨_, SqT.of (upd_at hp hp2), .str (boN b), rfl, rfl, _, SqL.of upd_same, _, sg_at b, hN _ _ ⟨rfl, same_new hp2 _⟩⟩⟩
      rintro σ M ⟨rfl, sM⟩
      refine seq_inv (fun σ M' => σ = [some (.ref p), some (.str (sgS b)), some (.str "("), none, none, none, none, none] ∧ M' = M) ?_ (fun N hN => ?_)
      rotate_left
      · simpa only [and_self]
        exact hN _ _ ⟨rfl, rfl⟩
      rintro σ M' ⟨rfl, rfl⟩
      refine seq_inv (fun σ M'' => ∃ z0 : Str, σ = [some (.ref p), some (.str (sgS b)), some (.str z0), none, none, none, none, none] ∧ M'' = M' ∧ cs z0 = 40 :: prf b qs.length) ?_ (fun N hN => ?_)
      rotate_left
      · simpa only [and_self]
        refine ⟨_, SqT.of (sM _ _ hp), .ref p1, rfl, p1, rfl, _, .inl (SqL.of (sM _ _ hp1)), ?_⟩
        rw [hl]
        refine ite2 (fun c => ?_) (fun c => hN _ _ ⟨_, rfl, rfl, ?_⟩)
        · have c' : qs.length < 2 := by have := of_decide_eq_true c; omega
          refine ⟨small (by rw [e5, ln_sg]; decide), _, SqT.of (sM _ _ hp), .ref p1, rfl, p1, rfl, _, .inl (SqL.of (sM _ _ hp1)), by omega, by omega, by decide, by decide, fun r hr' => ?_⟩
          have lr : r.length ≤ 1 := by
            rw [← slen, hr']
            simp only [csb, List.length_flatten, List.map_replicate, List.length_cons, List.length_nil, List.sum_replicate_nat]
            omega
          refine ⟨small (by rw [len_app, e5, ln_sg]; omega), hN _ _ ⟨_, rfl, rfl, ?_⟩⟩
          rw [cs_app, cs_app, csL, cs_sg, show cs r = _ from hr', show (" " : Str).cps.toList = [32] from csb, hl]
          unfold prf
          rcases (show qs.length = 0 ∨ qs.length = 1 by omega) with e | e <;> rw [e] <;> rfl
        · have c' : ¬ qs.length < 2 := fun h => c (decide_eq_true (by omega))
          unfold prf
          rw [if_neg (by omega), if_neg (by omega)]
          exact csL
      rintro σ M'' ⟨z0, rfl, rfl, hz0⟩
      refine seq_inv (fun σ M => ∃ (z : Str) (v3 v4 : Option V), σ = [some (.ref p), some (.str (sgS b)), some (.str z), v3, v4, none, none, none] ∧ Same L M ∧ cs z = 40 :: inn b (qs.map shown)) ?_ (fun N hN => ?_)
      rotate_left
      · simpa only [and_self]
        refine ⟨_, SqT.of (sM _ _ hp), .ref p1, rfl, _, rfl, ⟨_, SqL.of (sM _ _ hp1)⟩, forW_enum ys (invB b qs p L) ⟨z0, none, none, rfl, sM, by rw [hz0, List.take_zero]; simp [jn]⟩ ?_ ?_ ?_⟩
        · rintro i σ X hi ⟨z, v3, v4, rfl, sX, hz⟩
          exact SqL.of (sX _ _ hp1)
        · rintro i y T' σ X hy ⟨z, v3, v4, rfl, sX, hz⟩ hT'
          obtain ⟨dx, h1, h3⟩ := hys.get hy
          rw [dvQs_map, List.getElem?_map] at h1
          obtain ⟨qi, hqi, rfl⟩ := Option.map_eq_some_iff.mp h1
          have hm : qi ∈ qs := List.mem_of_getElem? hqi
          have hil : i < qs.length := (List.getElem?_eq_some_iff.mp hqi).1
          have sT : Same L (upd X T' (.tup [.int i, y])) := sX.trans (same_new hT' _)
          have h3' := DeepT.same sT _ _ h3
          have htk : (qs.map shown).take (i + 1) = (qs.map shown).take i ++ [shown qi] := by
            rw [List.take_succ_eq_append_getElem (by rw [List.length_map]; exact hil), List.getElem_map, (List.getElem?_eq_some_iff.mp hqi).2]
          have ltk := jn_take [32, sg b, 32] (qs.map shown) (i + 1)
          have lz : z.length = 1 + ((prf b qs.length).length + (jn [32, sg b, 32] ((qs.map shown).take i)).length) := by have := congrArg List.length hz; rw [slen, List.length_cons, List.length_append] at this; omega
          simpa only [and_self]
          refine ⟨_, SqT.of upd_same, rfl, ?_⟩
          simpa only [and_self]
          refine ite2 (fun c => ?_) (fun c => ?_)
          · have ci : 0 < i := by have := of_decide_eq_true c; omega
            have hi0 : (qs.map shown).take i ≠ [] := fun e => by have := congrArg List.length e; rw [List.length_take, List.length_map, List.length_nil] at this; omega
            have ej := jn_snoc [32, sg b, 32] (shown qi) hi0
            rw [← htk] at ej
            have lj := congrArg List.length ej
            rw [List.length_append, List.length_append] at lj
            simp only [List.length_cons, List.length_nil] at lj
            refine ⟨le_line (by rw [e3]; omega), le_line (by rw [len_app, e3, ln_sg]; omega), le_line (by rw [len_app, len_app, e3, ln_sg]; omega), y, qi, rfl, hok.2 qi hm, Nat.le_trans (hpart hm) hlen0, h3', fun z' H' s' hz' => ?_⟩
            have lz' : z'.length = (shown qi).length := by rw [← slen]; exact congrArg _ hz'
            refine ⟨z', rfl, le_line (by rw [len_app, len_app, len_app, e3, ln_sg]; omega), _, _, _, rfl, sT.trans s', ?_⟩
            rw [cs_app, cs_app, cs_app, cs_app, hz, hz', csb, cs_sg, ej]
            simp
          · have ci : i = 0 := by rcases Nat.eq_zero_or_pos i with h | h; exact h; exact absurd (decide_eq_true (by omega)) c
            subst ci
            refine ⟨y, qi, rfl, hok.2 qi hm, Nat.le_trans (hpart hm) hlen0, h3', fun z' H' s' hz' => ?_⟩
            have lz' : z'.length = (shown qi).length := by rw [← slen]; exact congrArg _ hz'
            rw [htk, List.take_zero, List.nil_append] at ltk
            have lj : (jn [32, sg b, 32] [shown qi]).length = (shown qi).length := rfl
            rw [List.take_zero] at lz
            have lj0 : (jn [32, sg b, 32] []).length = 0 := rfl
            refine ⟨z', rfl, le_line (by omega), _, _, _, rfl, sT.trans s', ?_⟩
            rw [cs_app, hz, hz', htk, List.take_zero]
            simp [jn]
        · rintro σ X ⟨z, v3, v4, rfl, sX, hz⟩
          refine hN _ _ ⟨z, v3, v4, rfl, sX, ?_⟩
          rw [hz, inn_eq, hl, List.length_map, List.take_of_length_le (by rw [List.length_map]; exact Nat.le_refl _)]
      rintro σ X ⟨z, v3, v4, rfl, sX, hz⟩
      have lz : z.length = 1 + (inn b (qs.map shown)).length := by have := congrArg List.length hz; rw [slen, List.length_cons] at this; omega
      rw [inn_eq, List.length_append, List.length_map] at lz
      simpa only [and_self]
      refine ⟨le_line (by rw [e2]; omega), hq _ _ sX ?_⟩
      rw [cs_app, hz, csR]
      rfl
  | lf f' a =>
    have ha : a.ok := by cases n <;> exact hok.2
    have hf : okF f' := by cases n <;> exact hok.1
    have hfl : f'.length ≤ 12 := by
      rcases hf with e | e
      · rw [e]; decide
      · unfold okNm at e; simp only [Bool.and_eq_true, decide_eq_true_eq] at e; exact e.1.2
    rw [dvQ] at hv
    rw [shown] at hlen hq
    have cc : cs (":" : Str) = [58] := by decide +kernel
    obtain ⟨kd, ds, e, hk⟩ := lf_two f' a
    obtain ⟨p, ys, rfl, hp⟩ := tn (by rw [← e]; exact hv)
    have k1 : kd ≠ "not" ∧ kd ≠ "both" ∧ kd ≠ "one" := by rcases hk with rfl | rfl | rfl | rfl | rfl <;> decide +kernel
    refine seq_inv (fun σ L => σ = [some (.ref p), none, none, none, none, none, none, none] ∧ L = H) ?_ (fun N hN => ?_)
    rotate_left
    · simpa only [and_self]
      refine ⟨_, SqT.of hp, .str kd, atI_nat (j := 0) rfl, rfl, ?_⟩
      rw [if_neg (by simpa using k1.1)]
      exact hN _ _ ⟨rfl, rfl⟩
    rintro σ L ⟨rfl, rfl⟩
    refine seq_inv (fun σ M => σ = [some (.ref p), none, none, none, none, none, none, none] ∧ M = L) ?_ (fun N hN => ?_)
    rotate_left
    · simp only [tIfS, tAnd, tOr, tNot, tB, tVar, tTest, tOp, tC, tUn, tCB, tCons, tNil, rI0, rI, rU, rNe, rEq, scal, rAppend, tBM, tDrop, tAsg, gName, tRet, tNext, List.set_cons_zero, List.set_cons_succ, List.getElem?_cons_zero, List.getElem?_cons_succ, Option.some.injEq, V.int.injEq, V.bl.injEq, V.ref.injEq, V.str.injEq, exists_eq_left', exists_eq_left, exists_and_left, List.cons.injEq, and_true, true_and, and_assoc, exists_const, L2.start, List.map_cons, List.map_nil, List.length_cons, List.length_nil, List.replicate_succ, List.replicate_zero, List.cons_append, List.nil_append, List.append_nil, Nat.reduceAdd, Nat.reduceSub, tFor_eq, tComp_eq, tWhile_eq, tChain, tAug, ipI, rIxS, rSlS, rLower, rIndex, rPop, rCat, tBM0, gSub, rSetL, tSl, tPart, tNoPart, rSlL, tCall, tLst, tTup, iRng1, iRng2, iRng3, iList, iEnum, gTup, gCons, gNil, rIxL, rIxT, tYes, tAndV, tOrV, tNotV, tIf, tTest, exists_eq', List.ne_cons_self, reduceCtorEq, if_true, if_false, and_false, false_and]
      refine ⟨_, SqT.of hp, .str kd, atI_nat (j := 0) rfl, rfl, ?_⟩
      rw [if_neg (by simpa using k1.2.1)]
      refine ⟨_, SqT.of hp, .str kd, atI_nat (j := 0) rfl, rfl, ?_⟩
      rw [if_neg (by simpa using k1.2.2)]
      exact hN _ _ ⟨rfl, rfl⟩
    rintro σ M ⟨rfl, rfl⟩
    refine seq_inv (fun σ M' => σ = [some (.ref p), none, some (.str (f' ++ ":")), none, none, none, none, none] ∧ M' = M) ?_ (fun N hN => ?_)
    rotate_left
    · simpa only [and_self]
      exact ⟨_, SqT.of hp, .str f', atI_nat (j := 1) rfl, f', rfl, small (by rw [e4]; omega), hN _ _ ⟨rfl, rfl⟩⟩
    rintro σ M' ⟨rfl, rfl⟩
    have lln : (f' ++ ":" : Str).length ≤ 13 := by rw [len_app, e4]; omega
    have cln : cs (f' ++ ":" : Str) = cs f' ++ [58] := by rw [cs_app, cc]
    generalize (f' ++ ":" : Str) = ln at lln cln
    clear hp e hk k1
    cases a with
    | word z =>
      obtain ⟨p', _, ep, hp, h3⟩ := t3 hv
      cases ep; cases deep_s h3
      simpa only [and_self]
      refine ⟨_, SqT.of hp, .str "word", rfl, rfl, ?_⟩
      rw [if_pos (by decide +kernel)]
      refine ⟨_, SqT.of hp, .str z, rfl, z, rfl, small (by have := ha.2; omega), hq _ _ (Same.refl _) ?_⟩
      rw [cs_app, cln]
      unfold lfT
      simp [Lf.txt]
    | like z =>
      obtain ⟨p', _, ep, hp, h3⟩ := t3 hv
      cases ep; cases deep_s h3
      simpa only [strq, strst, StrLaws.found_one]
      refine ⟨_, SqT.of hp, .str "like", rfl, rfl, ?_⟩
      rw [if_neg (by decide +kernel)]
      refine ⟨_, SqT.of hp, .str "like", rfl, rfl, ?_⟩
      rw [if_pos (by decide +kernel)]
      have hz40 := ha.2.2
      have fin : ∀ r : Str, cs r = (if bare z then [126] else []) → ln.length + r.length ≤ sizeLine ∧ ∃ x, SqT K M' p x ∧ ∃ x_3, atI x 2 = some x_3 ∧ ∃ x, x_3 = V.str x ∧ (ln ++ r).length + x.length ≤ sizeLine ∧ Q (V.str (ln ++ r ++ x)) M' := fun r hr => by
        have lr : r.length ≤ 1 := by
          have := congrArg List.length hr
          rw [slen] at this
          rw [this]
          split <;> decide
        refine ⟨le_line (by omega), _, SqT.of hp, .str z, rfl, z, rfl, le_line (by rw [len_app]; omega), hq _ _ (Same.refl _) ?_⟩
        rw [cs_app, cs_app, cln, hr]
        unfold lfT
        simp [Lf.txt]
      refine ⟨_, SqT.of hp, .str z, rfl, z, rfl, ite2 (fun c1 => ⟨_, SqT.of hp, .str z, rfl, z, rfl, by split <;> decide, by split <;> decide, by decide, by decide, fun r hr => fin r ?_⟩) (fun c1 => ⟨by decide, by decide, by decide, by decide, fun r hr => fin r ?_⟩)⟩
      · rw [show cs r = _ from hr, bare, c1, Bool.true_and]
        generalize (!decide (42 ∈ z.cps.toList)) = bb
        cases bb <;> decide +kernel
      · rw [show cs r = _ from hr, bare, Bool.eq_false_iff.mpr c1, Bool.false_and]
        rfl
    | row ws =>
      obtain ⟨p', _, ep, hp, h3⟩ := t3 hv
      cases ep
      obtain ⟨p2, rfl, hp2⟩ := ls h3
      simpa only [and_self]
      refine ⟨_, SqT.of hp, .str "row", rfl, rfl, ?_⟩
      rw [if_neg (by decide +kernel)]
      refine ⟨_, SqT.of hp, .str "row", rfl, rfl, ?_⟩
      rw [if_neg (by decide +kernel)]
      have hjr : (jr [32] (ws.map cs)).length ≤ 247 := by
        have h1 := congrArg List.length (jr_wj ha.1)
        have h2 := wj_len ha
        rw [List.length_drop] at h1
        omega
      refine ⟨_, SqT.of hp, .ref p2, rfl, p2, rfl, ⟨_, SqL.of hp2⟩, forW_list (ws.map V.str) (invWs ws p ln M') ⟨"", none, rfl, rfl, rfl⟩ ?_ ?_ ?_⟩
      · rintro i σ X hi ⟨z, v6, rfl, rfl, hz⟩
        exact SqL.of hp2
      · rintro i x σ X hx ⟨z, v6, rfl, rfl, hz⟩
        rw [List.getElem?_map] at hx
        obtain ⟨u, hu, rfl⟩ := Option.map_eq_some_iff.mp hx
        have hil : i < ws.length := (List.getElem?_eq_some_iff.mp hu).1
        have htk : (ws.map cs).take (i + 1) = (ws.map cs).take i ++ [cs u] := by
          rw [List.take_succ_eq_append_getElem (by rw [List.length_map]; exact hil), List.getElem_map, (List.getElem?_eq_some_iff.mp hu).2]
        have ltk := jr_take [32] (ws.map cs) (i + 1)
        have es := jr_snoc [32] (cs u) ((ws.map cs).take i)
        rw [← htk] at es
        have ls' := congrArg List.length es
        rw [List.length_append, List.length_append, slen] at ls'
        simp only [List.length_cons, List.length_nil] at ls'
        have lz := congrArg List.length hz
        rw [slen] at lz
        simpa only [and_self]
        refine ⟨le_line (by rw [e3]; omega), le_line (by rw [len_app, e3]; omega), _, _, rfl, rfl, ?_⟩
        rw [cs_app, cs_app, hz, csb, es]
        simp
      · rintro σ X ⟨z, v6, rfl, rfl, hz⟩
        rw [List.length_map, List.take_of_length_le (by rw [List.length_map]; exact Nat.le_refl _)] at hz
        have lz := congrArg List.length hz
        rw [slen] at lz
        have ec : cs (ct z (some 1) none) = wj ws := by rw [cs_from (by decide), hz]; exact jr_wj ha.1
        have lc := congrArg List.length ec
        rw [slen] at lc
        have hj := wj_len ha
        simpa only [ctI']
        refine ⟨_, SqT.of hp, .str "row", rfl, rfl, ?_⟩
        rw [if_pos (by decide +kernel)]
        have eq' : ("\"" : Str).length = 1 := by decide
        refine ⟨le_line (by omega), le_line (by omega), le_line (by rw [len_app]; omega), le_line (by rw [len_app, len_app]; omega), hq _ _ (Same.refl _) ?_⟩
        rw [cs_app, cs_app, cs_app, cln, csQ, ec]
        unfold lfT
        simp [Lf.txt]
    | nc b n ws =>
      obtain ⟨p', _, ep, hp, h3⟩ := t4 hv
      cases ep
      obtain ⟨p2, rfl, hp2⟩ := ls h3
      obtain ⟨hn1, hn2, hws⟩ := ha
      obtain ⟨_, _, hg⟩ := fg_fig n (by omega) hn1
      rw [slen] at hg
      have hb1 : ncN b ≠ "word" ∧ ncN b ≠ "like" ∧ ncN b ≠ "row" := by cases b <;> decide +kernel
      simpa only [and_self]
      refine ⟨_, SqT.of hp, .str (ncN b), rfl, rfl, ?_⟩
      rw [if_neg (by simpa using hb1.1)]
      refine ⟨_, SqT.of hp, .str (ncN b), rfl, rfl, ?_⟩
      rw [if_neg (by simpa using hb1.2.1)]
      have hjr : (jr [32] (ws.map cs)).length ≤ 247 := by
        have h1 := congrArg List.length (jr_wj hws.1)
        have h2 := wj_len hws
        rw [List.length_drop] at h1
        omega
      refine ⟨_, SqT.of hp, .ref p2, rfl, p2, rfl, ⟨_, SqL.of hp2⟩, forW_list (ws.map V.str) (invWs ws p ln M') ⟨"", none, rfl, rfl, rfl⟩ ?_ ?_ ?_⟩
      · rintro i σ X hi ⟨z, v6, rfl, rfl, hz⟩
        exact SqL.of hp2
      · rintro i x σ X hx ⟨z, v6, rfl, rfl, hz⟩
        rw [List.getElem?_map] at hx
        obtain ⟨u, hu, rfl⟩ := Option.map_eq_some_iff.mp hx
        have hil : i < ws.length := (List.getElem?_eq_some_iff.mp hu).1
        have htk : (ws.map cs).take (i + 1) = (ws.map cs).take i ++ [cs u] := by
          rw [List.take_succ_eq_append_getElem (by rw [List.length_map]; exact hil), List.getElem_map, (List.getElem?_eq_some_iff.mp hu).2]
        have ltk := jr_take [32] (ws.map cs) (i + 1)
        have es := jr_snoc [32] (cs u) ((ws.map cs).take i)
        rw [← htk] at es
        have ls' := congrArg List.length es
        rw [List.length_append, List.length_append, slen] at ls'
        simp only [List.length_cons, List.length_nil] at ls'
        have lz := congrArg List.length hz
        rw [slen] at lz
        simpa only [and_self]
        refine ⟨le_line (by rw [e3]; omega), le_line (by rw [len_app, e3]; omega), _, _, rfl, rfl, ?_⟩
        rw [cs_app, cs_app, hz, csb, es]
        simp
      · rintro σ X ⟨z, v6, rfl, rfl, hz⟩
        rw [List.length_map, List.take_of_length_le (by rw [List.length_map]; exact Nat.le_refl _)] at hz
        have lz := congrArg List.length hz
        rw [slen] at lz
        have ec : cs (ct z (some 1) none) = wj ws := by rw [cs_from (by decide), hz]; exact jr_wj hws.1
        have lc := congrArg List.length ec
        rw [slen] at lc
        have hj := wj_len hws
        simpa only [ctI']
        refine ⟨_, SqT.of hp, .str (ncN b), rfl, rfl, ?_⟩
        rw [if_neg (by simpa using hb1.2.2)]
        have nr : atI [V.str "[]", V.str "<>"] (if decide (V.str (ncN b) = V.str "near") = true then 1 else 0) = some (.str (brk b)) := by cases b <;> decide +kernel
        have ol : ∀ c : Nat, (⟨#[c]⟩ : Str).length = 1 := fun c => rfl
        have en : (Str.ofString (toString (n : Int))).length ≤ 2 := hg
        have eb : (brk b).length = 2 := by cases b <;> decide
        refine ⟨small (by decide), fun p3 h3' => ⟨_, SqT.of (upd_at hp h3'), .str (ncN b), rfl, rfl, _, SqL.of upd_same, _, nr, _, SqT.of (upd_at hp h3'), .int n, rfl, n, rfl, ?_, le_line (by omega), _, rfl, le_line (by rw [eb]; decide), _, brk0 b, le_line (by rw [len_app, ol]; omega), le_line (by omega), le_line (by rw [len_app, len_app, ol]; omega), _, rfl, le_line (by rw [eb]; decide), _, brk1 b, le_line (by rw [len_app, len_app, len_app, ol, ol]; omega), hq _ _ (same_new h3' _) ?_⟩⟩
        · rw [Int.natAbs_natCast]
          exact Nat.lt_of_le_of_lt (Nat.log2_le_self _) (by omega)
        · simp only [cs_app, cln, ec]
          show ((((cs f' ++ [58]) ++ cs (fg n)) ++ [op1 b]) ++ wj ws) ++ [cl1 b] = cs f' ++ (58 :: (cs (fg n) ++ (op1 b :: (wj ws ++ [cl1 b]))))
          simp
theorem ok_shs (F : Fun K "_law_shown" "_law_shown" sSh f fd) (T : Txt mg) (bSh : Binds K fd ["_law_question_here"] []) (mSh : mg "_law_shown" = some (.ref f)) : ∀ n, FnOk P w K mg base CX0 (n + 2) f fd ["_law_question_here"] (spSh n)
  | 0 => ok_sh1 (k := 0) (SQ := fun _ _ _ _ => False) F T fn_false bSh mSh (fun m e => by cases e)
  | n + 1 => ok_sh1 (k := n + 1) F T (ok_shs F T bSh mSh n) bSh mSh (fun m e => by cases e; rfl)
end
def mem (g : Str) (c : Nat) : Bool := decide (c ∈ cs g)
def spRun : Sp := fun vs H Q _ => ∃ z g : Str, vs = [.str z, .str g] ∧ z.length ≤ 400 ∧ Q (.int ((((cs z).takeWhile (mem g)).length : Nat) : Int)) H
theorem mem_low : mem "abcdefghijklmnopqrstuvwxyz" = lowC := by
  funext c
  rcases Nat.lt_or_ge c 128 with h | h
  · have : ∀ c < 128, mem "abcdefghijklmnopqrstuvwxyz" c = lowC c := by decide +kernel
    exact this c h
  · have : ∀ x ∈ cs "abcdefghijklmnopqrstuvwxyz", x < 128 := by decide +kernel
    unfold mem lowC
    rw [decide_eq_false fun m => by have := this c m; omega, decide_eq_false (by omega)]
theorem mem_wd : mem "abcdefghijklmnopqrstuvwxyz0123456789" = wC := by
  funext c
  rcases Nat.lt_or_ge c 128 with h | h
  · have : ∀ c < 128, mem "abcdefghijklmnopqrstuvwxyz0123456789" c = wC c := by decide +kernel
    exact this c h
  · have : ∀ x ∈ cs "abcdefghijklmnopqrstuvwxyz0123456789", x < 128 := by decide +kernel
    unfold mem wC lowC figC
    rw [decide_eq_false fun m => by have := this c m; omega, decide_eq_false (by omega), decide_eq_false (by omega)]
    rfl
theorem mem_pt : mem "abcdefghijklmnopqrstuvwxyz0123456789?*" = isP := by
  funext c
  rcases Nat.lt_or_ge c 128 with h | h
  · have : ∀ c < 128, mem "abcdefghijklmnopqrstuvwxyz0123456789?*" c = isP c := by decide +kernel
    exact this c h
  · have : ∀ x ∈ cs "abcdefghijklmnopqrstuvwxyz0123456789?*", x < 128 := by decide +kernel
    unfold mem isP lowC figC
    rw [decide_eq_false fun m => by have := this c m; omega, decide_eq_false (by omega), decide_eq_false (by omega), decide_eq_false (by omega), decide_eq_false (by omega)]
    rfl
section
variable {P : Program} {w : World} {K : PySem.W.Frag} {mg : Str → Option Value} {base : Heap} {f : Addr} {fd : FuncData}
theorem scRun : FnScope ["_law_line", "_law_signs", "_law_many"] ["_law_line", "_law_signs"] (defScope sRun) := ⟨rfl, rfl, rfl, by decide +kernel, rfl, by decide +kernel, by decide +kernel⟩
def wRun (z g : Str) (H : Hp) (m : Nat) (σ : St) (L : Hp) : Prop := ∃ k : Nat, m = ((cs z).takeWhile (mem g)).length - k ∧ k ≤ ((cs z).takeWhile (mem g)).length ∧ σ = [some (.str z), some (.str g), some (.int (k : Int))] ∧ L = H
theorem ok_run (F : Fun K "_law_run" "_law_run" sRun f fd) (T : Txt mg) : FnOk P w K mg base CX0 1 f fd ["_law_line", "_law_signs"] spRun := by
  refine F.ok scRun (fun vs H Q E h => ?_) (fun cdv A outer s H vs Q E hr h => ?_)
  · obtain ⟨z, g, rfl, _⟩ := h
    rfl
  obtain ⟨z, g, rfl, hz, q⟩ := h
  refine ⟨_, (pss_cons (ps_set (i := 2) scRun.nd rfl (Or.inl rfl) pe_int)
    (pss_cons (ps_while PassesOwn.never (PW.pt (pw_and (pt_cmpR op_lt (pv 2) (pe_callB call_len_str rfl T.len PySem.boot_len (pa_cons (pv 0) pa_nil)) (nomark _)) (pw_and1 (pt_cmpR op_in_str (pe_ix ix_str (pv 0) (pv 2) (fun _ _ => rfl)) (pv 1) rfl))))
      (pss_one (ps_set (i := 2) scRun.nd rfl (Or.inl rfl) (pe_op op_add (pv 2) pe_int))))
    (pss_one (ps_ret (pv 2))))), ?_⟩
  simpa only [and_self]
  refine ⟨wRun z g H, ⟨_, 0, rfl, Nat.zero_le _, rfl, rfl⟩, ?_⟩
  rintro m σ L ⟨k, rfl, hk, rfl, rfl⟩
  simpa only [StrLaws.found_one]
  have hdec := tw_dw (mem g) (cs z)
  have hlen : z.length = ((cs z).takeWhile (mem g)).length + ((cs z).dropWhile (mem g)).length := by
    rw [← slen, ← List.length_append, ← hdec]
  refine ⟨small (by omega), ite2 (fun c => ?_) (fun c => ?_)⟩
  · have c' : k < z.length := by have := of_decide_eq_true c; omega
    have hc : (cs z)[k]? = some ((cs z)[k]'(by rw [slen]; exact c')) := List.getElem?_eq_getElem _
    generalize (cs z)[k]'(by rw [slen]; exact c') = c0 at hc
    refine ⟨small (by omega), c0, atI_nat hc, ite2 (fun c2 => ?_) (fun c2 => ?_)⟩
    · have hlt : k < ((cs z).takeWhile (mem g)).length := by
        rcases Nat.lt_or_ge k ((cs z).takeWhile (mem g)).length with h | h
        · exact h
        · have hke : k = ((cs z).takeWhile (mem g)).length := by omega
          rw [hdec, hke, List.getElem?_append_right (Nat.le_refl _), Nat.sub_self] at hc
          have := dw_head (p := mem g) (l := cs z) (by rw [List.head?_eq_getElem?]; exact hc)
          unfold mem at this
          rw [c2] at this
          cases this
      exact ⟨_, fun _ _ h => h, _, by omega, k + 1, rfl, hlt, rfl, rfl⟩
    · have hke : k = ((cs z).takeWhile (mem g)).length := by
        rcases Nat.lt_or_ge k ((cs z).takeWhile (mem g)).length with h | h
        · exfalso
          rw [hdec, List.getElem?_append_left h] at hc
          have := tw_all (List.mem_of_getElem? hc)
          unfold mem at this
          exact c2 this
        · omega
      rw [hke]
      exact q
  · have c' : ¬ ((k : Int) < (z.length : Int)) := of_decide_eq_false (Bool.eq_false_iff.mpr c)
    have hke : k = ((cs z).takeWhile (mem g)).length := by omega
    rw [hke]
    exact q
end
def fin (c : Nat) (x : Option (List Str × List Nat)) : Option (List Str × List Nat) := match x with
  | none => none
  | some x => if x.1.length ≤ 6 ∧ x.2.head? = some c then some (x.1, x.2.tail) else none
def spLd : Sp := fun vs H Q _ => ∃ (z e : Str) (c : Nat), vs = [.str z, .str e] ∧ cs e = [c] ∧ c ≠ 32 ∧ z.length ≤ 400 ∧
  (∀ (ws : List Str) (r : Str), r.length ≤ z.length → rWs c (cs z) = some (ws, cs r) → ∀ (p l : Addr) H', Same H H' → H p = none → H l = none → H' p = some (.tup [.ref l, .str r]) → H' l = some (.lst (ws.map V.str)) → Q (.ref p) H') ∧ (rWs c (cs z) = none → ∀ H', Same H H' → Q .non H')
section
variable {P : Program} {w : World} {K : PySem.W.Frag} {mg : Str → Option Value} {base : Heap} {f : Addr} {fd : FuncData}
theorem scLd : FnScope ["_law_line", "_law_end", "_law_words", "_law_many"] ["_law_line", "_law_end"] (defScope sLd) := ⟨rfl, rfl, rfl, by decide +kernel, rfl, by decide +kernel, by decide +kernel⟩
def wLd (z e : Str) (c : Nat) (p : Addr) (H : Hp) (m : Nat) (σ : St) (L : Hp) : Prop := ∃ (l : Str) (n : Nat) (acc : List Str) (v3 : Option V), m = l.length ∧ n + acc.length = 401 ∧ acc.length + l.length ≤ 400 ∧ l.length ≤ z.length ∧ σ = [some (.str l), some (.str e), some (.ref p), v3] ∧ L = upd H p (.lst (acc.map V.str)) ∧ rWs c (cs z) = fin c (lstA [32] (tk wC 40) n acc (cs l))
theorem ok_ld {g : Addr} {gd : FuncData} (F : Fun K "_law_listed" "_law_listed" sLd f fd) (T : Txt mg) (GRu : FnOk P w K mg base CX0 1 g gd ["_law_line", "_law_signs"] spRun) (bRu : Binds K gd ["_law_line", "_law_signs"] []) (kRu : PySem.W.keepIn K (.ref g) = true) (mRu : mg "_law_run" = some (.ref g)) : FnOk P w K mg base CX0 2 f fd ["_law_line", "_law_end"] spLd := by
  refine F.ok scLd (fun vs H Q E h => ?_) (fun cdv A outer s H vs Q E hr h => ?_)
  · obtain ⟨z, e, c, rfl, _⟩ := h
    rfl
  obtain ⟨z, e, c, rfl, he, hc, hz, q1, q2⟩ := h
  refine ⟨_, (pss_cons (ps_set (i := 2) scLd.nd rfl (Or.inl rfl) (pe_lst pa_nil))
    (pss_one (ps_while PassesOwn.never (pt_val pe_bl)
      (pss_cons (ps_set (i := 3) scLd.nd rfl (Or.inl rfl) (pe_call GRu hr rfl mRu kRu bRu .nil pass0 (pa_cons (pv 0) (pa_cons pe_str pa_nil))))
    (pss_cons (ps_if (PW.pt (pw_or (pt_cmpR op_eq (pv 3) pe_int (nomark _)) (pw_or (pt_cmpR op_gt (pv 3) pe_int (nomark _)) (pw_or1 (pt_cmpR op_eq (pv 3) (pe_callB call_len_str rfl T.len PySem.boot_len (pa_cons (pv 0) pa_nil)) (nomark _)))))) (pss_one (ps_ret pe_non)) pss_nil)
    (pss_cons (ps_expr (bmK K PySem.F.plainAttrs_list PySem.F.slot_list_append PySem.F.type_list_append mt_append (pv 2) (pa_cons (pe_slice sl_str (pv 0) po_none (po_some (pv 3))) pa_nil)))
    (pss_cons (ps_if (pt_cmpR op_eq (pe_ix ix_str (pv 0) (pv 3) (fun _ _ => rfl)) (pv 1) (nomark _)) (pss_cons (ps_if (pt_cmpR op_gt (pe_callB (lenK K) rfl T.len PySem.boot_len (pa_cons (pv 2) pa_nil)) pe_int (nomark _)) (pss_one (ps_ret pe_non)) pss_nil)
    (pss_one (ps_ret (pe_tup (pa_cons (pv 2) (pa_cons (pe_slice sl_str (pv 0) (po_some (pe_op op_add (pv 3) pe_int)) po_none) pa_nil)))))) pss_nil)
    (pss_cons (ps_if (pt_cmpR op_ne (pe_ix ix_str (pv 0) (pv 3) (fun _ _ => rfl)) pe_str (nomark _)) (pss_one (ps_ret pe_non)) pss_nil)
    (pss_one (ps_set (i := 0) scLd.nd rfl (Or.inl rfl) (pe_slice sl_str (pv 0) (po_some (pe_op op_add (pv 3) pe_int)) po_none))))))))))), ?_⟩
  simpa only [and_self]
  refine ⟨by decide, fun p hp => ⟨wLd z e c p H, ⟨_, z, 401, [], none, rfl, rfl, by simpa using hz, Nat.le_refl _, rfl, rfl, rfl⟩, ?_⟩⟩
  rintro m σ L ⟨l, n, acc, v3, rfl, hn, hal, hlz, rfl, rfl, hR⟩
  simpa only [and_self]
  obtain ⟨n', rfl⟩ : ∃ n', n = n' + 1 := ⟨n - 1, by omega⟩
  have hdec := tw_dw wC (cs l)
  have hlen : l.length = ((cs l).takeWhile wC).length + ((cs l).dropWhile wC).length := by rw [← slen, ← List.length_append, ← hdec]
  have none_ : tk wC 40 (cs l) = none → ∀ H', Same H H' → Q .non H' := fun h => q2 (by rw [hR, lstA_none h]; rfl)
  have sU : ∀ o, Same H (upd H p o) := fun o => same_new hp o
  refine ⟨_, fun _ _ h => h, l, "abcdefghijklmnopqrstuvwxyz0123456789", rfl, by omega, ?_⟩
  rw [mem_wd]
  simpa only [and_self]
  generalize hu : (cs l).takeWhile wC = u at hdec hlen
  generalize hd : (cs l).dropWhile wC = d at hdec hlen
  have hcu : cutL (cs l) none (some (u.length : Int)) = u := by
    rw [cut_to (by omega), hdec, Int.toNat_natCast, List.take_left]
  have sm : l.length ≤ sizeLine := small (by omega)
  refine ite2 (fun c1 => none_ (by unfold tk; rw [hu, if_neg (by have := of_decide_eq_true c1; omega)]) _ (sU _)) (fun c1 => ite2 (fun c2 => none_ (by unfold tk; rw [hu, if_neg (by have := of_decide_eq_true c2; omega)]) _ (sU _)) (fun c2 => ⟨sm, ?_⟩))
  have d1 := of_decide_eq_false (Bool.eq_false_iff.mpr c1)
  have d2 := of_decide_eq_false (Bool.eq_false_iff.mpr c2)
  have htk : tk wC 40 (cs l) = some (st u, d) := by unfold tk; rw [hu, hd, if_pos (by omega)]
  rw [lstA_some htk] at hR
  refine ite2 (fun c3 => ?_) (fun c3 => ?_)
  · have d3 := of_decide_eq_true c3
    have : d = [] := List.length_eq_zero_iff.mp (by omega)
    subst this
    exact q2 (by rw [hR]; exact if_neg fun h => by cases h.2) _ (sU _)
  have d3 := of_decide_eq_false (Bool.eq_false_iff.mpr c3)
  obtain ⟨c0, d', rfl⟩ : ∃ c0 d', d = c0 :: d' := by
    cases d with
    | nil => simp at hlen; omega
    | cons c0 d' => exact ⟨c0, d', rfl⟩
  have hat : atI (cs l) (u.length : Int) = some c0 := atI_nat (by rw [hdec, List.getElem?_append_right (Nat.le_refl _), Nat.sub_self]; rfl)
  have hcd : cutL (cs l) (some ((u.length : Int) + 1)) none = d' := by
    rw [cut_from (by omega), show ((u.length : Int) + 1).toNat = (u ++ [c0]).length by rw [List.length_append]; simp, hdec, show u ++ c0 :: d' = (u ++ [c0]) ++ d' by simp, List.drop_left]
  rw [List.length_cons] at hlen
  have hl2 : (acc ++ [st u]).length = acc.length + 1 := by rw [List.length_append]; rfl
  have ea : acc.map V.str ++ [V.str (st u)] = (acc ++ [st u]).map V.str := by rw [List.map_append]; rfl
  refine ⟨.inl ⟨rfl, _, SqL.of upd_same⟩, sm, _, upd_same, small (by rw [List.length_map]; omega), sm, c0, hat, ?_⟩
  rw [hcu, hcd, upd_upd, ea, one_is he]
  refine ite2 (fun c4 => ⟨_, .inl (SqL.of upd_same), ?_⟩) (fun c4 => ⟨sm, c0, hat, ?_⟩)
  · have d4 := of_decide_eq_true c4
    subst d4
    have hR2 : rWs c0 (cs z) = if (acc ++ [st u]).length ≤ 6 then some (acc ++ [st u], d') else none := by
      rw [hR, if_neg (by simp; exact fun h => hc h.symm)]
      show (if (acc ++ [st u]).length ≤ 6 ∧ some c0 = some c0 then some (acc ++ [st u], d') else none) = _
      by_cases h6 : (acc ++ [st u]).length ≤ 6
      · rw [if_pos h6, if_pos ⟨h6, rfl⟩]
      · rw [if_neg h6, if_neg fun h => h6 h.1]
    rw [List.length_map]
    refine ite2 (fun c5 => ?_) (fun c5 => ⟨sm, by decide, fun p1 hp1 => ?_⟩)
    · have d5 := of_decide_eq_true c5
      exact q2 (by rw [hR2, if_neg (by omega)]) _ (sU _)
    · have d5 := of_decide_eq_false (Bool.eq_false_iff.mpr c5)
      have np : p1 ≠ p := fun h => by rw [h, upd_same] at hp1; cases hp1
      have hp1' : H p1 = none := by rwa [upd_ne np] at hp1
      refine q1 (acc ++ [st u]) (st d') (by rw [ln_st]; omega) (by rw [hR2, if_pos (by omega)]) p1 p _ (fun b o h => ?_) hp1' hp upd_same ?_
      · rw [upd_ne (ne_of_none h hp1'), upd_ne (ne_of_none h hp)]; exact h
      · rw [upd_ne np.symm, upd_same]
  · have d4 := of_decide_eq_false (Bool.eq_false_iff.mpr c4)
    rw [one_is csb]
    refine ite2 (fun c5 => ?_) (fun c5 => ⟨sm, ?_⟩)
    · have d5 := nb_t c5
      refine q2 ?_ _ (sU _)
      rw [hR, if_neg (by simp; exact fun h => d5 h.symm)]
      exact if_neg fun h => d4 (Option.some.inj h.2)
    · have d5 := nb_f c5
      subst d5
      rw [if_pos (by simp)] at hR
      exact ⟨(st d').length, by rw [ln_st]; omega, st d', n', acc ++ [st u], _, rfl, by rw [hl2]; omega, by rw [hl2, ln_st]; omega, by rw [ln_st]; omega, rfl, rfl, hR⟩
end
theorem star_T {a : List Expr} {k : Nat} {p : Pos} {es : List Expr} {env : Env} : starEach (Expr.Tuple a k p :: es) env = (false, eval (Expr.Tuple a k p) env) :: starEach es env := rfl
theorem star_L {a : List Expr} {p : Pos} {es : List Expr} {env : Env} : starEach (Expr.List a p :: es) env = (false, eval (Expr.List a p) env) :: starEach es env := rfl
theorem star_G {a : Expr} {o : List CmpOp} {b : List Expr} {p : Pos} {es : List Expr} {env : Env} : starEach (Expr.Compare a o b p :: es) env = (false, eval (Expr.Compare a o b p) env) :: starEach es env := rfl
def tlL (l : List Nat) : Option (Str × List Nat) := if 1 ≤ (l.takeWhile isP).length ∧ (l.takeWhile isP).length ≤ 40 ∧ bare (st (l.takeWhile isP)) = true then some (st (l.takeWhile isP), l.dropWhile isP) else none
def spLA : Sp := fun vs H Q _ => ∃ f z : Str, vs = [.str f, .str z] ∧ z.length ≤ 400 ∧
  (∀ (a : Lf) (r : Str), r.length ≤ z.length → rAk tlL (cs z) = some (a, cs r) → ∀ (p : Addr) (x : V) H', Same H H' → H p = none → H' p = some (.tup [x, .str r]) → DeepT (nw H H') (a.dv f) x → Q (.ref p) H') ∧ (rAk tlL (cs z) = none → ∀ H', Same H H' → Q .non H')
theorem hd_is {z y : Str} {k : Nat} (h : cs y = [k]) : decide ((⟨(cutL z.cps.toList none (some 1)).toArray⟩ : Str) = y) = decide ((cs z).head? = some k) := by
  have e : cutL z.cps.toList none (some 1) = (cs z).take 1 := cut_to (by decide)
  rw [e]
  cases hz : cs z with
  | nil =>
    rw [decide_eq_false, decide_eq_false]
    · simp
    · intro q
      rw [← q] at h
      cases h
  | cons a m =>
    have e2 : decide ((a :: m).head? = some k) = decide (a = k) := by
      by_cases q : a = k
      · rw [decide_eq_true q, q]; simp
      · rw [decide_eq_false q]; simpa using q
    rw [e2]
    exact one_is (c := a) h
theorem cut1 (z : Str) : cutL z.cps.toList (some 1) none = (cs z).tail := by rw [cut_from (by decide)]; exact List.drop_one
theorem fin2 {H M : Hp} {p1 p2 : Addr} {xs : List V} {ds : List DV} {y : V} (s : Same H M) (h1 : M p1 = none) (d : DeepTs (nw H M) ds xs) (h2 : upd M p1 (.tup xs) p2 = none) :
    Same H (upd (upd M p1 (.tup xs)) p2 (.tup [.ref p1, y])) ∧ H p2 = none ∧ DeepT (nw H (upd (upd M p1 (.tup xs)) p2 (.tup [.ref p1, y]))) (.tup ds) (.ref p1) := by
  have n12 : p2 ≠ p1 := fun e => by rw [e, upd_same] at h2; cases h2
  rw [upd_ne n12] at h2
  have hn : ∀ b, M b = none → H b = none := fun b e => by
    cases h : H b with
    | none => rfl
    | some u => rw [s b u h] at e; cases e
  refine ⟨fun b o h => ?_, hn _ h2, ?_⟩
  · rw [upd_ne (ne_of_none h (hn _ h2)), upd_ne (ne_of_none h (hn _ h1))]; exact s b o h
  · rw [DeepT]
    refine ⟨p1, xs, rfl, (by rw [nw_at (hn _ h1), upd_ne n12.symm, upd_same]), DeepTs.same (fun b u h => ?_) _ _ d⟩
    obtain ⟨g1, g2⟩ := nw_some h
    rw [nw_at g1, upd_ne (ne_of_none g2 h2), upd_ne (ne_of_none g2 h1)]
    exact g2
theorem wid_len {u : List Nat} {n : Nat} (h : widO u = some n) : 1 ≤ u.length ∧ u.length ≤ 40 := by
  obtain ⟨h1, h2, h3⟩ := wid_is (u := st u) h
  obtain ⟨_, g2, g3⟩ := fg_fig n (by omega) h1
  have e : u = cs (fg n) := by rw [← h3]
  rw [← e] at g2 g3
  omega
theorem inSet {z : Str} {a b : Str} {k m : Nat} (ha : cs a = [k]) (hb : cs b = [m]) : inV (.str ⟨(cutL z.cps.toList none (some 1)).toArray⟩) [.str a, .str b] = (decide ((cs z).head? = some k) || decide ((cs z).head? = some m)) := by
  rw [← hd_is ha, ← hd_is hb]
  show ((a == _) || ((b == _) || false)) = _
  rw [Bool.or_false]
  congr 1
  · by_cases q : (⟨(cutL z.cps.toList none (some 1)).toArray⟩ : Str) = a
    · rw [decide_eq_true q, ← q]; simp
    · rw [decide_eq_false q]; simpa using fun e => q e.symm
  · by_cases q : (⟨(cutL z.cps.toList none (some 1)).toArray⟩ : Str) = b
    · rw [decide_eq_true q, ← q]; simp
    · rw [decide_eq_false q]; simpa using fun e => q e.symm
def opS (b : Bool) : Str := if b then "<" else "["
def clS (b : Bool) : Str := if b then ">" else "]"
theorem cs_op (b : Bool) : cs (opS b) = [op1 b] := by cases b <;> decide +kernel
theorem cs_cl (b : Bool) : cs (clS b) = [cl1 b] := by cases b <;> decide +kernel
theorem op_str (b : Bool) : (⟨#[op1 b]⟩ : Str) = opS b := sExt (cs_op b).symm
def kvO : List (Key × V) := [(.inr "<", .str ">"), (.inr "[", .str "]")]
theorem kvO_at (b : Bool) : valV (mergeK [] kvO) (.inr (opS b)) = some (.str (clS b)) := by cases b <;> rfl
theorem nc_at (b : Bool) : atI [V.str "chain", V.str "near"] (if decide ((⟨#[op1 b]⟩ : Str) = "<") = true then 1 else 0) = some (.str (ncN b)) := by
  cases b
  · rw [decide_eq_false (by decide +kernel)]; rfl
  · rw [decide_eq_true (by decide +kernel)]; rfl
def wds (i : Nat) : List V := (List.range i).map fun j => V.str (fg (j + 1))
theorem wds_in (u : List Nat) : inV (.str (st u)) (wds 20) = (widO u).isSome := by
  rw [Bool.eq_iff_iff]
  unfold inV wds
  rw [List.any_eq_true]
  constructor
  · rintro ⟨y, hy, he⟩
    obtain ⟨j, hj, rfl⟩ := List.mem_map.mp hy
    have hj' := List.mem_range.mp hj
    have e : fg (j + 1) = st u := by
      have : (fg (j + 1) == st u) = true := he
      exact beq_iff_eq.mp this
    have := wid_some (u := st u) (n := j + 1) (by omega) (by omega) e.symm
    rw [show cs (st u) = u from rfl] at this
    rw [this]; rfl
  · intro h
    obtain ⟨n, hn⟩ := Option.isSome_iff_exists.mp h
    obtain ⟨h1, h2, h3⟩ := wid_is (u := st u) hn
    refine ⟨V.str (fg n), List.mem_map.mpr ⟨n - 1, List.mem_range.mpr (by omega), by rw [Nat.sub_add_cancel h1]⟩, ?_⟩
    show (fg n == st u) = true
    rw [h3]; simp
theorem wds_flat (i : Nat) : (wds i).all flatV = true := by
  unfold wds
  rw [List.all_map]
  exact List.all_eq_true.mpr fun _ _ => rfl
def tld (z : Str) : Nat := if (cs z).head? = some 126 then 1 else 0
section
variable {P : Program} {w : World} {K : PySem.W.Frag} {mg : Str → Option Value} {base : Heap} {f : Addr} {fd : FuncData}
theorem scLA : FnScope ["_law_field_here", "_law_line", "_law_found", "_law_tilde", "_law_many", "_law_text", "_law_wild"] ["_law_field_here", "_law_line"] (defScope sLA) := ⟨rfl, rfl, rfl, by decide +kernel, rfl, by decide +kernel, by decide +kernel⟩
set_option maxHeartbeats 4000000 in
theorem ok_la {g gl : Addr} {gd dl : FuncData} (F : Fun K "_law_asked" "_law_asked" sLA f fd) (T : Txt mg) (GRu : FnOk P w K mg base CX0 1 g gd ["_law_line", "_law_signs"] spRun) (bRu : Binds K gd ["_law_line", "_law_signs"] []) (kRu : PySem.W.keepIn K (.ref g) = true) (mRu : mg "_law_run" = some (.ref g))
    (GLd : FnOk P w K mg base CX0 2 gl dl ["_law_line", "_law_end"] spLd) (bLd : Binds K dl ["_law_line", "_law_end"] []) (kLd : PySem.W.keepIn K (.ref gl) = true) (mLd : mg "_law_listed" = some (.ref gl)) : FnOk P w K mg base CX0 3 f fd ["_law_field_here", "_law_line"] spLA := by
  refine F.ok scLA (fun vs H Q E h => ?_) (fun cdv A outer s H vs Q E hr h => ?_)
  · obtain ⟨f, z, rfl, _⟩ := h
    rfl
  obtain ⟨f, z, rfl, hz, q1, q2⟩ := h
  have hr1 : Room 1 _ := hr.mono (by decide)
  have sm : ∀ y : Str, y.length ≤ 400 → y.length ≤ sizeLine := fun y h => small (by omega)
  refine ⟨_, (@pss_cons _ _ _ _ _ (@ps_if _ _ _ _ _ _ _ _ (@pt_cmpR _ _ _ _ _ _ _ _ op_eq (@pe_slice _ _ _ _ _ _ _ _ _ _ sl_str (pv 1) po_none (po_some pe_int)) pe_str (nomark _)) (@pss_cons _ _ _ _ _ (ps_set (i := 2) scLA.nd rfl (Or.inl rfl) (pe_call GLd hr rfl mLd kLd bLd .nil pass0 (@pa_cons _ _ _ _ _ (@pe_slice _ _ _ _ _ _ _ _ _ _ sl_str (pv 1) (po_some pe_int) po_none) (@pa_cons _ _ _ _ _ pe_str pa_nil star_K) star_S)))
    (@pss_cons _ _ _ _ _ (@ps_if _ _ _ _ _ _ _ _ (@pt_cmpR _ _ _ _ _ _ _ _ op_isN (pv 2) pe_non (nomark _)) (@pss_one _ _ _ (@ps_ret _ _ _ _ pe_non)) pss_nil)
    (@pss_one _ _ _ (@ps_ret _ _ _ _ (@pe_tup _ _ _ _ _ (@pa_cons _ _ _ _ _ (@pe_tup _ _ _ _ _ (@pa_cons _ _ _ _ _ pe_str (@pa_cons _ _ _ _ _ (pv 0) (@pa_cons _ _ _ _ _ (pe_ix (ixT K) (pv 2) pe_int (fun _ _ => rfl)) pa_nil star_S) star_N) star_K)) (@pa_cons _ _ _ _ _ (pe_ix (ixT K) (pv 2) pe_int (fun _ _ => rfl)) pa_nil star_S) star_T)))))) pss_nil)
    (@pss_cons _ _ _ _ _ (ps_set (i := 3) scLA.nd rfl (Or.inl rfl) (pe_callTy call_intB rfl T.int (by decide +kernel) (@pa_cons _ _ _ _ _ (pe_cmpR op_eq (@pe_slice _ _ _ _ _ _ _ _ _ _ sl_str (pv 1) po_none (po_some pe_int)) pe_str (nomark _)) pa_nil star_G)))
    (@pss_cons _ _ _ _ _ (ps_set (i := 4) scLA.nd rfl (Or.inl rfl) (pe_call GRu hr1 rfl mRu kRu bRu .nil pass0 (@pa_cons _ _ _ _ _ (@pe_slice _ _ _ _ _ _ _ _ _ _ sl_str (pv 1) (po_some (pv 3)) po_none) (@pa_cons _ _ _ _ _ pe_str pa_nil star_K) star_S)))
    (@pss_cons _ _ _ _ _ (ps_set (i := 5) scLA.nd rfl (Or.inl rfl) (@pe_slice _ _ _ _ _ _ _ _ _ _ sl_str (pv 1) (po_some (pv 3)) (po_some (pe_op op_add (pv 3) (pv 4)))))
    (@pss_cons _ _ _ _ _ (ps_set (i := 1) scLA.nd rfl (Or.inl rfl) (@pe_slice _ _ _ _ _ _ _ _ _ _ sl_str (pv 1) (po_some (pe_op op_add (pv 3) (pv 4))) po_none))
    (@pss_cons _ _ _ _ _ (@ps_if _ _ _ _ _ _ _ _ (@PW.pt _ _ _ (@pw_or _ _ _ _ _ _ _ (@pt_cmpR _ _ _ _ _ _ _ _ op_eq (pv 4) pe_int (nomark _)) (@pw_or1 _ _ _ _ (@pt_cmpR _ _ _ _ _ _ _ _ op_gt (pv 4) pe_int (nomark _))))) (@pss_one _ _ _ (@ps_ret _ _ _ _ pe_non)) pss_nil)
    (@pss_cons _ _ _ _ _ (ps_set (i := 6) scLA.nd rfl (Or.inl rfl) (pe_or (pe_cmpR op_in_str pe_str (pv 5) rfl) (pe_one (pe_cmpR op_in_str pe_str (pv 5) rfl))))
    (@pss_cons _ _ _ _ _ (@ps_if _ _ _ _ _ _ _ _ (@PW.pt _ _ _ (@pw_and _ _ _ _ _ _ _ (@pt_cmpR _ _ _ _ _ _ _ _ op_in_seq (@pe_slice _ _ _ _ _ _ _ _ _ _ sl_str (pv 1) po_none (po_some pe_int)) (@pe_lst _ _ _ _ (@pa_cons _ _ _ _ _ pe_str (@pa_cons _ _ _ _ _ pe_str pa_nil star_K) star_K)) rfl) (@pw_and1 _ _ _ _ (@pt_cmpR _ _ _ _ _ _ _ _ op_eq (pv 3) pe_int (nomark _))))) (@pss_cons _ _ _ _ _ (ps_set (i := 2) scLA.nd rfl (Or.inl rfl) (pe_call GLd hr rfl mLd kLd bLd .nil pass0 (@pa_cons _ _ _ _ _ (@pe_slice _ _ _ _ _ _ _ _ _ _ sl_str (pv 1) (po_some pe_int) po_none) (@pa_cons _ _ _ _ _ (@pe_dget _ _ _ _ _ _ (hu_of hr) (@pe_disp _ _ _ _ _ (@pps_cons _ _ _ _ _ _ _ _ _ pe_str pe_str (@pps_cons _ _ _ _ _ _ _ _ _ pe_str pe_str pps_nil)) rfl rfl (by decide) (by decide)) (pe_ix ix_str (pv 1) pe_int (fun _ _ => rfl)) (fun _ _ => rfl)) pa_nil star_S) star_S)))
    (@pss_cons _ _ _ _ _ (@ps_if _ _ _ _ _ _ _ _ (@PW.pt _ _ _ (@pw_or _ _ _ _ _ _ _ (@pt_cmpR _ _ _ _ _ _ _ _ op_isN (pv 2) pe_non (nomark _)) (@pw_or1 _ _ _ _ (@pt_cmpR _ _ _ _ _ _ _ _ op_notIn_seq (pv 5) (pe_comp (N := ["_law_k"]) (pick := [none]) (NX := ["_law_field_here", "_law_line", "_law_found", "_law_tilde", "_law_many", "_law_text", "_law_wild"]) (sX := defScope sLA) (by decide +kernel) rfl rfl rfl (pi_range2 rfl T.range (@pa_cons _ _ _ _ _ pe_int (@pa_cons _ _ _ _ _ pe_int pa_nil star_K) star_K))
        (fun _ _ _ _ => (pg_name (i := 0) (by decide +kernel : (["_law_k"] : List Str).Nodup) rfl (Or.inl rfl))) (fun _ _ _ _ => pifs_nil) (fun _ _ _ _ => (pe_callTy call_strI rfl T.str (by decide +kernel) (@pa_cons _ _ _ _ _ (pv 0) pa_nil star_N)))) rfl)))) (@pss_one _ _ _ (@ps_ret _ _ _ _ pe_non)) pss_nil)
    (@pss_one _ _ _ (@ps_ret _ _ _ _ (@pe_tup _ _ _ _ _ (@pa_cons _ _ _ _ _ (@pe_tup _ _ _ _ _ (@pa_cons _ _ _ _ _ (pe_ix (ixL K) (@pe_lst _ _ _ _ (@pa_cons _ _ _ _ _ pe_str (@pa_cons _ _ _ _ _ pe_str pa_nil star_K) star_K)) (pe_callTy call_intB rfl T.int (by decide +kernel) (@pa_cons _ _ _ _ _ (pe_cmpR op_eq (pe_ix ix_str (pv 1) pe_int (fun _ _ => rfl)) pe_str (nomark _)) pa_nil star_G)) (fun _ _ => rfl)) (@pa_cons _ _ _ _ _ (pv 0) (@pa_cons _ _ _ _ _ (pe_callTy call_intS rfl T.int (by decide +kernel) (pa_cons (pv 5) pa_nil)) (@pa_cons _ _ _ _ _ (pe_ix (ixT K) (pv 2) pe_int (fun _ _ => rfl)) pa_nil star_S) star_C) star_N) star_S)) (@pa_cons _ _ _ _ _ (pe_ix (ixT K) (pv 2) pe_int (fun _ _ => rfl)) pa_nil star_S) star_T)))))) pss_nil)
    (@pss_cons _ _ _ _ _ (@ps_if _ _ _ _ _ _ _ _ (@PW.pt _ _ _ (@pw_and _ _ _ _ _ _ _ (@pt_cmpR _ _ _ _ _ _ _ _ op_eq (pv 3) pe_int (nomark _)) (@pw_and1 _ _ _ _ (pt_val (pv 6))))) (@pss_one _ _ _ (@ps_ret _ _ _ _ pe_non)) pss_nil)
    (@pss_cons _ _ _ _ _ (@ps_if _ _ _ _ _ _ _ _ (@PW.pt _ _ _ (@pw_or _ _ _ _ _ _ _ (@pt_cmpR _ _ _ _ _ _ _ _ op_eq (pv 3) pe_int (nomark _)) (@pw_or1 _ _ _ _ (pt_val (pv 6))))) (@pss_one _ _ _ (@ps_ret _ _ _ _ (@pe_tup _ _ _ _ _ (@pa_cons _ _ _ _ _ (@pe_tup _ _ _ _ _ (@pa_cons _ _ _ _ _ pe_str (@pa_cons _ _ _ _ _ (pv 0) (@pa_cons _ _ _ _ _ (pv 5) pa_nil star_N) star_N) star_K)) (@pa_cons _ _ _ _ _ (pv 1) pa_nil star_N) star_T)))) pss_nil)
    (@pss_one _ _ _ (@ps_ret _ _ _ _ (@pe_tup _ _ _ _ _ (@pa_cons _ _ _ _ _ (@pe_tup _ _ _ _ _ (@pa_cons _ _ _ _ _ pe_str (@pa_cons _ _ _ _ _ (pv 0) (@pa_cons _ _ _ _ _ (pv 5) pa_nil star_N) star_N) star_K)) (@pa_cons _ _ _ _ _ (pv 1) pa_nil star_N) star_T)))))))))))))), ?_⟩
  refine seq_inv (fun σ L => σ = [some (.str f), some (.str z), none, none, none, none, none] ∧ L = H ∧ (cs z).head? ≠ some 34) ?_ (fun N hN => ?_)
  rotate_left
  · simpa only [and_self]
    rw [hd_is csQ, cut1]
    have ht : (st (cs z).tail).length ≤ z.length := by rw [ln_st, List.length_tail, slen]; omega
    refine ⟨sm z hz, ite2 (fun c => ⟨sm z hz, ?_⟩) (fun c => hN _ _ ⟨rfl, rfl, of_decide_eq_false (Bool.eq_false_iff.mpr c)⟩)⟩
    have c' := of_decide_eq_true c
    have hA : rAk tlL (cs z) = match rWs 34 (cs z).tail with | none => none | some x => some (.row x.1, x.2) := by unfold rAk; rw [if_pos c']; all_goals (cases rWs 34 (cs z).tail <;> rfl)
    refine ⟨st (cs z).tail, "\"", 34, rfl, csQ, by decide, by omega, fun ws r hrl hw p l H1 s1 hp hl h1 h2 => ?_, fun hn H1 s1 => ?_⟩
    · rw [cs_st] at hw
      refine ite2 (fun h => by simp at h) fun _ => ⟨p, rfl, _, SqT.of h1, _, rfl, by decide, fun p1 hp1 => ⟨p, rfl, _, SqT.of (by rw [upd_ne fun e => by rw [e, hp1] at h1; cases h1]; exact h1), _, rfl, by decide, fun p2 hp2 => ?_⟩⟩
      obtain ⟨g1, g2, g3⟩ := fin2 (ds := [.str "row", .str f, .lst (ws.map .str)]) (y := .str r) s1 hp1 (dc (dS _) (dc (dS _) (DeepTs.one (by rw [DeepT]; exact ⟨l, _, rfl, by rw [nw_at hl]; exact h2, strs_deeps ws⟩)))) hp2
      exact q1 (.row ws) r (by omega) (by rw [hA, hw]) p2 _ _ g1 g2 upd_same g3
    · rw [cs_st] at hn
      rw [if_pos (by simp)]
      exact q2 (by rw [hA, hn]) _ s1
  rintro σ L ⟨rfl, rfl, n34⟩
  refine seq_inv (fun σ M => σ = [some (.str f), some (.str z), none, some (.int (tld z : Int)), none, none, none] ∧ M = L) ?_ (fun N hN => ?_)
  rotate_left
  · simpa only [and_self]
    rw [hd_is csT]
    refine ⟨sm z hz, hN _ _ ⟨?_, rfl⟩⟩
    unfold tld
    by_cases h : (cs z).head? = some 126
    · rw [decide_eq_true h, if_pos rfl, if_pos h]; rfl
    · rw [decide_eq_false h, if_neg Bool.false_ne_true, if_neg h]; rfl
  rintro σ M ⟨rfl, rfl⟩
  have hcut : cutL (cs z) (some (tld z : Int)) none = (cs z).drop (tld z) := by rw [cut_from (by omega), Int.toNat_natCast]
  have hdl : ((cs z).drop (tld z)).length ≤ z.length := by rw [List.length_drop, slen]; omega
  refine seq_inv (fun σ X => σ = [some (.str f), some (.str z), none, some (.int (tld z : Int)), some (.int ((((cs z).drop (tld z)).takeWhile isP).length : Nat)), none, none] ∧ X = M) ?_ (fun N hN => ?_)
  rotate_left
  · simpa only [and_self]
    rw [hcut]
    refine ⟨sm z hz, st ((cs z).drop (tld z)), _, rfl, by rw [ln_st]; omega, ?_⟩
    rw [mem_pt]
    exact hN _ _ ⟨rfl, rfl⟩
  rintro σ X ⟨rfl, rfl⟩
  have hdec := tw_dw isP ((cs z).drop (tld z))
  have hud : (cs z) = (cs z).take (tld z) ++ (((cs z).drop (tld z)).takeWhile isP ++ ((cs z).drop (tld z)).dropWhile isP) := by rw [← hdec, List.take_append_drop]
  have htl : ((cs z).take (tld z)).length = tld z := by
    rw [List.length_take, slen]
    unfold tld
    split
    · rename_i h
      cases hz' : cs z with
      | nil => rw [hz'] at h; cases h
      | cons a m => have := slen z; rw [show z.cps.toList = a :: m from hz'] at this; simp at this; omega
    · simp
  have hA : rAk tlL (cs z) = if (cs z).head? = some 126 then (if 1 ≤ (((cs z).drop (tld z)).takeWhile isP).length ∧ (((cs z).drop (tld z)).takeWhile isP).length ≤ 40 ∧ bare (st (((cs z).drop (tld z)).takeWhile isP)) = true then some (.like (st (((cs z).drop (tld z)).takeWhile isP)), ((cs z).drop (tld z)).dropWhile isP) else none)
      else if (((cs z).drop (tld z)).dropWhile isP).head? = some 60 then rNc true (((cs z).drop (tld z)).takeWhile isP) (((cs z).drop (tld z)).dropWhile isP).tail
      else if (((cs z).drop (tld z)).dropWhile isP).head? = some 91 then rNc false (((cs z).drop (tld z)).takeWhile isP) (((cs z).drop (tld z)).dropWhile isP).tail
      else if 1 ≤ (((cs z).drop (tld z)).takeWhile isP).length ∧ (((cs z).drop (tld z)).takeWhile isP).length ≤ 40 then some (if bare (st (((cs z).drop (tld z)).takeWhile isP)) then .word (st (((cs z).drop (tld z)).takeWhile isP)) else .like (st (((cs z).drop (tld z)).takeWhile isP)), ((cs z).drop (tld z)).dropWhile isP) else none := by
    unfold rAk tlL
    rw [if_neg n34]
    by_cases h : (cs z).head? = some 126
    · rw [if_pos h, if_pos h]
      have e : (cs z).drop (tld z) = (cs z).tail := by unfold tld; rw [if_pos h]; exact List.drop_one
      rw [e]
      by_cases h2 : 1 ≤ ((cs z).tail.takeWhile isP).length ∧ ((cs z).tail.takeWhile isP).length ≤ 40 ∧ bare (st ((cs z).tail.takeWhile isP)) = true
      · rw [if_pos h2, if_pos h2]
      · rw [if_neg h2, if_neg h2]
    · rw [if_neg h, if_neg h]
      have e : (cs z).drop (tld z) = cs z := by unfold tld; rw [if_neg h]; exact List.drop_zero
      rw [e]
  have hlen : tld z + ((((cs z).drop (tld z)).takeWhile isP).length + (((cs z).drop (tld z)).dropWhile isP).length) = z.length := by
    rw [← htl, ← List.length_append, ← List.length_append, htl, ← hud, slen]
  have huP : ∀ c ∈ ((cs z).drop (tld z)).takeWhile isP, isP c = true := fun c m => tw_all m
  generalize ((cs z).drop (tld z)).takeWhile isP = u at hud hA hlen huP
  generalize ((cs z).drop (tld z)).dropWhile isP = d at hud hA hlen
  have ht01 : tld z = 0 ∧ (cs z).head? ≠ some 126 ∨ tld z = 1 ∧ (cs z).head? = some 126 := by
    unfold tld
    by_cases h : (cs z).head? = some 126
    · rw [if_pos h]; exact .inr ⟨rfl, h⟩
    · rw [if_neg h]; exact .inl ⟨rfl, h⟩
  clear hdec hcut hdl n34
  generalize tld z = tz at hud htl hlen ht01
  have hdz : (cs z).drop tz = u ++ d := by
    have := congrArg (List.drop ((cs z).take tz).length) hud
    rwa [List.drop_left, htl] at this
  have c1 : cutL (cs z) (some (tz : Int)) (some ((tz : Int) + (u.length : Int))) = u := by
    rw [show (tz : Int) + (u.length : Int) = ((tz + u.length : Nat) : Int) by omega, cutL_nat _ (Nat.le_add_right _ _), Nat.add_sub_cancel_left, hdz, List.take_left]
  have c2 : cutL (cs z) (some ((tz : Int) + (u.length : Int))) none = d := by
    rw [cut_from (by omega), show ((tz : Int) + (u.length : Int)).toNat = tz + u.length by omega, ← List.drop_drop, hdz, List.drop_left]
  refine seq_inv (fun σ Y => σ = [some (.str f), some (.str z), none, some (.int (tz : Int)), some (.int (u.length : Nat)), some (.str (st u)), none] ∧ Y = X) ?_ (fun N hN => ?_)
  rotate_left
  · simpa only [and_self]
    rw [c1]
    exact ⟨sm z hz, hN _ _ ⟨rfl, rfl⟩⟩
  rintro σ Y ⟨rfl, rfl⟩
  refine seq_inv (fun σ X => σ = [some (.str f), some (.str (st d)), none, some (.int (tz : Int)), some (.int (u.length : Nat)), some (.str (st u)), none] ∧ X = Y) ?_ (fun N hN => ?_)
  rotate_left
  · simpa only [and_self]
    rw [c2]
    exact ⟨sm z hz, hN _ _ ⟨rfl, rfl⟩⟩
  rintro σ X ⟨rfl, rfl⟩
  refine seq_inv (fun σ Y => σ = [some (.str f), some (.str (st d)), none, some (.int (tz : Int)), some (.int (u.length : Nat)), some (.str (st u)), none] ∧ Y = X ∧ 1 ≤ u.length ∧ u.length ≤ 40) ?_ (fun N hN => ?_)
  rotate_left
  · simpa only [and_self]
    have bad : ¬ (1 ≤ u.length ∧ u.length ≤ 40) → Q .non X := fun n => q2 (by
      rw [hA]
      have nc : ∀ b, rNc b u d.tail = none := fun b => by
        unfold rNc
        cases h : widO u with
        | none => rfl
        | some m => exact absurd (wid_len h) n
      have n' : ¬ (1 ≤ u.length ∧ u.length ≤ 40 ∧ bare (st u) = true) := fun h => n ⟨h.1, h.2.1⟩
      rw [nc, nc, if_neg n', if_neg n]
      simp) _ (Same.refl _)
    refine ite2 (fun c => bad (by have := of_decide_eq_true c; omega)) (fun c => ite2 (fun c' => bad (by have := of_decide_eq_true c'; omega)) (fun c' => hN _ _ ⟨rfl, rfl, ?_, ?_⟩))
    · have := of_decide_eq_false (Bool.eq_false_iff.mpr c); omega
    · have := of_decide_eq_false (Bool.eq_false_iff.mpr c'); omega
  rintro σ Y ⟨rfl, rfl, hu1, hu2⟩
  refine seq_inv (fun σ X => σ = [some (.str f), some (.str (st d)), none, some (.int (tz : Int)), some (.int (u.length : Nat)), some (.str (st u)), some (.bl (!bare (st u)))] ∧ X = Y) ?_ (fun N hN => ?_)
  rotate_left
  · simpa only [strq, strst, StrLaws.found_one]
    refine ite2 (fun c => hN _ _ ⟨?_, rfl⟩) (fun c => hN _ _ ⟨?_, rfl⟩)
    · have : bare (st u) = false := by unfold bare; rw [c]; rfl
      rw [this]; rfl
    · have : bare (st u) = !decide (42 ∈ u) := by unfold bare; rw [Bool.eq_false_iff.mpr c]; rfl
      rw [this, Bool.not_not]
  rintro σ X ⟨rfl, rfl⟩
  refine seq_inv (fun σ Y => σ = [some (.str f), some (.str (st d)), none, some (.int (tz : Int)), some (.int (u.length : Nat)), some (.str (st u)), some (.bl (!bare (st u)))] ∧ Same X Y ∧ (tz = 0 → d.head? ≠ some 60 ∧ d.head? ≠ some 91)) ?_ (fun N hN => ?_)
  rotate_left
  · simpa only [tDGet, tDisp, tPairs, rIn]
    have smd : (st d).length ≤ sizeLine := by rw [ln_st]; exact small (by omega)
    refine ⟨smd, by decide, fun p0 hp0 => ⟨_, .inl (SqL.of upd_same), rfl, rfl, ?_⟩⟩
    have s0 : Same X (upd X p0 (.lst [V.str "<", V.str "["])) := same_new hp0 _
    rw [inSet (z := st d) csLt csLb]
    refine ite2 (fun c => ?_) (fun c => ?_)
    rotate_left
    · refine hN _ _ ⟨rfl, s0, fun _ => ?_⟩
      have c' : (decide (d.head? = some 60) || decide (d.head? = some 91)) = false := Bool.eq_false_iff.mpr c
      rw [Bool.or_eq_false_iff] at c'
      exact ⟨of_decide_eq_false c'.1, of_decide_eq_false c'.2⟩
    refine ite2 (fun ct => ?_) (fun ct => ?_)
    rotate_left
    · exact hN _ _ ⟨rfl, s0, fun z => absurd (decide_eq_true (by rw [z]; rfl)) ct⟩
    have tz0 : tz = 0 := by have := of_decide_eq_true ct; omega
    have n126 : (cs z).head? ≠ some 126 := by
      rcases ht01 with ⟨_, h⟩ | ⟨h, _⟩
      · exact h
      · omega
    obtain ⟨b, d', rfl⟩ : ∃ b d', d = op1 b :: d' := by
      have c' : (decide (d.head? = some 60) || decide (d.head? = some 91)) = true := c
      rw [Bool.or_eq_true] at c'
      cases d with
      | nil => rcases c' with h | h <;> cases of_decide_eq_true h
      | cons a m =>
        rcases c' with h | h
        · have := Option.some.inj (of_decide_eq_true h); exact ⟨true, m, by rw [this]; rfl⟩
        · have := Option.some.inj (of_decide_eq_true h); exact ⟨false, m, by rw [this]; rfl⟩
    have hB : rAk tlL (cs z) = rNc b u d' := by
      rw [hA, if_neg n126]
      cases b
      · rw [if_neg (fun h : (op1 false :: d').head? = some 60 => absurd (Option.some.inj h) (by decide)), if_pos (show (op1 false :: d').head? = some 91 from rfl)]; rfl
      · rw [if_pos (show (op1 true :: d').head? = some 60 from rfl)]; rfl
    refine ⟨smd, fun pd hpd => ⟨upd_same, kvO, rfl, by decide, smd, op1 b, atI_nat (show (op1 b :: d')[0]? = some (op1 b) from rfl), _, by rw [op_str]; exact (kvO_at b) ▸ DGet.k (k := .inr (opS b)) upd_same, ?_⟩⟩
    have sx : Same X (upd (upd (upd X p0 (.lst [V.str "<", V.str "["])) pd (.dK [])) pd (.dK (mergeK [] kvO))) := fun b' o' h => by
      have h0 := s0 b' o' h
      have n := ne_of_none h0 hpd
      rw [upd_ne n, upd_ne n]; exact h0
    generalize upd (upd (upd X p0 (.lst [V.str "<", V.str "["])) pd (.dK [])) pd (.dK (mergeK [] kvO)) = X2 at sx
    have hnX : ∀ b', X2 b' = none → X b' = none := fun b' e => by
      cases h : X b' with
      | none => rfl
      | some o => rw [sx b' o h] at e; cases e
    have ecut : cutL (op1 b :: d') (some 1) none = d' := by rw [cut_from (by decide)]; rfl
    rw [ecut]
    rw [List.length_cons] at hlen
    refine ⟨st d', clS b, cl1 b, rfl, cs_cl b, by cases b <;> decide, by rw [ln_st]; omega, fun ws r hrl hw p l H1 s1 hp hl h1 h2 => ?_, fun hn H1 s1 => ?_⟩
    rotate_left
    · rw [cs_st] at hn
      rw [if_pos (by simp)]
      refine q2 ?_ _ (sx.trans s1)
      rw [hB]
      unfold rNc
      rw [hn]
      cases widO u <;> rfl
    rw [cs_st] at hw
    rw [ln_st d'] at hrl
    refine ite2 (fun h => by simp at h) fun _ => ⟨by decide, by decide, by decide, by decide, ?_⟩
    refine compW_range (lo := 1) (n := 20) (fun i ys σ L => ys = wds i ∧ L = H1 ∧ ∃ v0 : Option V, σ = [v0]) ⟨rfl, rfl, _, rfl⟩ ?_ ?_ ?_
    · rintro i ys σ L hi ⟨rfl, _, _⟩
      unfold wds
      rw [List.length_map, List.length_range]
      exact small (by omega)
    · rintro i ys σ L hi ⟨rfl, rfl, v0, rfl⟩
      simpa only [and_self]
      have e : (1 : Int) + (i : Int) = ((i + 1 : Nat) : Int) := by omega
      refine ⟨?_, ?_⟩
      · rw [e, Int.natAbs_natCast]
        exact Nat.lt_of_le_of_lt (Nat.log2_le_self _) (by omega)
      · rw [e]
        unfold wds
        rw [List.range_succ, List.map_append]
        first | rfl | exact ⟨rfl, rfl, _, rfl⟩ | exact ⟨rfl, _, rfl⟩
    · rintro ys σ L ⟨rfl, rfl, v0, rfl⟩ p' hp'
      refine ⟨p', rfl, _, .inl (SqL.of upd_same), rfl, wds_flat 20, ?_⟩
      rw [wds_in]
      have sL : Same X (upd L p' (.lst (wds 20))) := (sx.trans s1).trans (same_new hp' _)
      refine ite2 (fun c => ?_) (fun c => ?_)
      · refine q2 ?_ _ sL
        rw [hB]
        unfold rNc
        cases h : widO u with
        | none => rfl
        | some n => rw [h] at c; cases c
      cases hwd : widO u with
      | none => rw [hwd] at c; exact absurd rfl c
      | some n =>
        obtain ⟨w1, w2, w3⟩ := wid_is (u := st u) hwd
        have np : p' ≠ p := fun e => by rw [e, h1] at hp'; cases hp'
        have nl : p' ≠ l := fun e => by rw [e, h2] at hp'; cases hp'
        have h1' : upd L p' (.lst (wds 20)) p = some (.tup [.ref l, .str r]) := by rw [upd_ne np.symm]; exact h1
        have h2' : upd L p' (.lst (wds 20)) l = some (.lst (ws.map V.str)) := by rw [upd_ne nl.symm]; exact h2
        generalize upd L p' (.lst (wds 20)) = M at sL h1' h2'
        refine ⟨by decide, fun p3 hp3 => ⟨smd, op1 b, atI_nat (show (op1 b :: d')[0]? = some (op1 b) from rfl), _, SqL.of upd_same, _, nc_at b, n, w3, w1, w2, p, rfl, _, SqT.of (by rw [upd_ne fun e => by rw [e, hp3] at h1'; cases h1']; exact h1'), _, rfl, by decide, fun p4 hp4 => ?_⟩⟩
        have s3 : Same X (upd M p3 (.lst [V.str "chain", V.str "near"])) := sL.trans (same_new hp3 _)
        have h1'' : upd M p3 (.lst [V.str "chain", V.str "near"]) p = some (.tup [.ref l, .str r]) := by rw [upd_ne fun e => by rw [e, hp3] at h1'; cases h1']; exact h1'
        have h2'' : upd M p3 (.lst [V.str "chain", V.str "near"]) l = some (.lst (ws.map V.str)) := by rw [upd_ne fun e => by rw [e, hp3] at h2'; cases h2']; exact h2'
        generalize upd M p3 (.lst [V.str "chain", V.str "near"]) = M3 at hp4 s3 h1'' h2''
        refine ⟨p, rfl, _, SqT.of (by rw [upd_ne fun e => by rw [e, hp4] at h1''; cases h1'']; exact h1''), _, rfl, by decide, fun p5 hp5 => ?_⟩
        obtain ⟨g1, g2, g3⟩ := fin2 (ds := [.str (ncN b), .str f, .int n, .lst (ws.map .str)]) (y := .str r) s3 hp4 (dc (dS _) (dc (dS _) (dc (dI _) (DeepTs.one (by rw [DeepT]; exact ⟨l, _, rfl, by rw [nw_at (hnX l hl)]; exact h2'', strs_deeps ws⟩))))) hp5
        refine q1 (.nc b n ws) r (by omega) ?_ p5 _ _ g1 g2 upd_same g3
        rw [hB]
        unfold rNc
        rw [hwd, hw]
  rintro σ Y ⟨rfl, sY, hnb⟩
  simpa only [and_self]
  have fin : ∀ (k : Str) (a : Lf), rAk tlL (cs z) = some (a, d) → a.dv f = .tup [.str k, .str f, .str (st u)] → (3 ≤ sizeLine ∧ ∀ p : Addr, Y p = none → 2 ≤ sizeLine ∧ ∀ p1 : Addr, upd Y p (.tup [.str k, .str f, .str (st u)]) p1 = none → Q (.ref p1) (upd (upd Y p (.tup [.str k, .str f, .str (st u)])) p1 (.tup [.ref p, .str (st d)]))) := fun k a ha hdv => ⟨by decide, fun p hp => ⟨by decide, fun p1 hp1 => by
    obtain ⟨g1, g2, g3⟩ := fin2 (ds := [.str k, .str f, .str (st u)]) (y := .str (st d)) sY hp (dc (dS _) (dc (dS _) (DeepTs.one (dS _)))) hp1
    exact q1 a (st d) (by rw [ln_st]; omega) ha p1 _ _ g1 g2 upd_same (by rw [hdv]; exact g3)⟩⟩
  rcases ht01 with ⟨rfl, hh⟩ | ⟨rfl, hh⟩
  · obtain ⟨n60, n91⟩ := hnb rfl
    rw [if_neg hh, if_neg n60, if_neg n91, if_pos ⟨hu1, hu2⟩] at hA
    rw [if_neg (by decide), if_neg (by decide)]
    refine ite2 (fun c => fin "like" _ hA ?_) (fun c => fin "word" _ hA ?_)
    · have : bare (st u) = false := by simpa using c
      rw [this]; rfl
    · have : bare (st u) = true := by simpa using c
      rw [this]; rfl
  · rw [if_pos hh] at hA
    rw [if_pos (by decide)]
    refine ite2 (fun c => ?_) (fun c => ?_)
    · have hb : bare (st u) = false := by simpa using c
      exact q2 (by rw [hA, if_neg fun h => by rw [hb] at h; cases h.2.2]) _ sY
    · have hb : bare (st u) = true := by simpa using c
      rw [if_pos (by decide)]
      rw [if_pos ⟨hu1, hu2, hb⟩] at hA
      exact fin "like" _ hA rfl
end
def badR (r : List Nat) : Prop := r.head? = some 63 ∨ r.head? = some 42
def Alk {α : Type} (a b : Option (α × List Nat)) : Prop := a = b ∨ a = none ∧ ∃ x, b = some x ∧ badR x.2
theorem tw_sub {l : List Nat} : (∀ c ∈ l.takeWhile isP, wC c = true) → l.takeWhile wC = l.takeWhile isP ∧ l.dropWhile wC = l.dropWhile isP := by
  induction l with
  | nil => intro _; exact ⟨rfl, rfl⟩
  | cons a m ih =>
    intro h
    by_cases hp : isP a = true
    · rw [List.takeWhile_cons, if_pos hp] at h
      have hw := h a (List.mem_cons_self ..)
      obtain ⟨h1, h2⟩ := ih fun c hc => h c (List.mem_cons_of_mem _ hc)
      have t1 : (a :: m).takeWhile isP = a :: m.takeWhile isP := by rw [List.takeWhile_cons, if_pos hp]
      have t2 : (a :: m).dropWhile isP = m.dropWhile isP := by rw [List.dropWhile_cons, if_pos hp]
      have t3 : (a :: m).takeWhile wC = a :: m.takeWhile wC := by rw [List.takeWhile_cons, if_pos hw]
      have t4 : (a :: m).dropWhile wC = m.dropWhile wC := by rw [List.dropWhile_cons, if_pos hw]
      rw [t1, t2, t3, t4, h1, h2]
      exact ⟨rfl, rfl⟩
    · have hw : ¬ wC a = true := fun z => hp (wC_isP z)
      have t1 : (a :: m).takeWhile isP = [] := by rw [List.takeWhile_cons, if_neg hp]
      have t2 : (a :: m).dropWhile isP = a :: m := by rw [List.dropWhile_cons, if_neg hp]
      have t3 : (a :: m).takeWhile wC = [] := by rw [List.takeWhile_cons, if_neg hw]
      have t4 : (a :: m).dropWhile wC = a :: m := by rw [List.dropWhile_cons, if_neg hw]
      rw [t1, t2, t3, t4]
      exact ⟨rfl, rfl⟩
theorem dw_bad {l : List Nat} : (∃ c ∈ l.takeWhile isP, ¬ wC c = true) → badR (l.dropWhile wC) := by
  induction l with
  | nil => rintro ⟨c, hc, _⟩; cases hc
  | cons a m ih =>
    rintro ⟨c, hc, hn⟩
    by_cases hp : isP a = true
    · rw [List.takeWhile_cons, if_pos hp] at hc
      by_cases hw : wC a = true
      · rw [List.dropWhile_cons, if_pos hw]
        rcases List.mem_cons.mp hc with rfl | hc
        · exact absurd hw hn
        · exact ih ⟨c, hc, hn⟩
      · rw [List.dropWhile_cons, if_neg hw]
        unfold isP at hp
        unfold wC at hw
        rw [Bool.eq_false_iff.mpr hw] at hp
        simp only [Bool.false_or, Bool.or_eq_true, decide_eq_true_eq] at hp
        rcases hp with rfl | rfl
        · exact .inl rfl
        · exact .inr rfl
    · rw [List.takeWhile_cons, if_neg hp] at hc; cases hc
theorem tl_alk (l : List Nat) : Alk (tlL l) (tkP l) := by
  unfold tlL
  show Alk _ (tk wC 40 l)
  by_cases hb : bare (st (l.takeWhile isP)) = true
  · have hw : ∀ c ∈ l.takeWhile isP, wC c = true := of_bare (z := st (l.takeWhile isP)) (fun c m => tw_all m) hb
    obtain ⟨e1, e2⟩ := tw_sub hw
    unfold tk
    rw [e1, e2]
    refine .inl ?_
    by_cases h : 1 ≤ (l.takeWhile isP).length ∧ (l.takeWhile isP).length ≤ 40
    · rw [if_pos h, if_pos ⟨h.1, h.2, hb⟩]
    · rw [if_neg h, if_neg fun q => h ⟨q.1, q.2.1⟩]
  · rw [if_neg fun q => hb q.2.2]
    have hx : ∃ c ∈ l.takeWhile isP, ¬ wC c = true := by
      refine Classical.byContradiction fun q => hb (bare_of (z := st (l.takeWhile isP)) fun c m => Classical.byContradiction fun n => q ⟨c, m, n⟩)
    have hbad := dw_bad hx
    unfold tk
    by_cases h : 1 ≤ (l.takeWhile wC).length ∧ (l.takeWhile wC).length ≤ 40
    · rw [if_pos h]; exact .inr ⟨rfl, _, rfl, hbad⟩
    · rw [if_neg h]; exact .inl rfl
theorem ak_alk (l : List Nat) : Alk (rAk tlL l) (rAk tkP l) := by
  unfold rAk
  by_cases h1 : l.head? = some 34
  · rw [if_pos h1, if_pos h1]; exact .inl rfl
  rw [if_neg h1, if_neg h1]
  by_cases h2 : l.head? = some 126
  · rw [if_pos h2, if_pos h2]
    rcases tl_alk l.tail with h | ⟨h, x, e, b⟩
    · rw [h]; exact .inl rfl
    · rw [h, e]; exact .inr ⟨rfl, _, rfl, b⟩
  · rw [if_neg h2, if_neg h2]; exact .inl rfl
theorem lf_alk (l : List Nat) : Alk (rLf tlL l) (rLf tkP l) := by
  unfold rLf
  cases h : rFd l with
  | none => exact .inl rfl
  | some x =>
    show Alk (if x.2.head? = some 58 then _ else _) (if x.2.head? = some 58 then _ else _)
    by_cases h1 : x.2.head? = some 58
    · rw [if_pos h1, if_pos h1]
      rcases ak_alk x.2.tail with h | ⟨h, y, e, b⟩
      · rw [h]; exact .inl rfl
      · rw [h, e]; exact .inr ⟨rfl, _, rfl, b⟩
    · rw [if_neg h1, if_neg h1]; exact .inl rfl
theorem bad_no {r : List Nat} (h : badR r) {c : Nat} (hc : c ≠ 63) (hd : c ≠ 42) : r.head? ≠ some c := fun e => by
  rcases h with h | h
  · rw [h] at e; exact hc (Option.some.inj e).symm
  · rw [h] at e; exact hd (Option.some.inj e).symm
theorem bad_pre {r : List Nat} (h : badR r) (b : Bool) : ([32, sg b, 32] : List Nat).isPrefixOf r = false := by
  cases r with
  | nil => rfl
  | cons a m =>
    have : a ≠ 32 := fun e => bad_no h (c := 32) (by decide) (by decide) (by rw [e]; rfl)
    show ((32 == a) && _) = false
    rw [beq_false_of_ne this.symm]; rfl
theorem lst_alk {rL rP : List Nat → Option (Qn × List Nat)} (h : ∀ l, Alk (rL l) (rP l)) (b : Bool) : ∀ n acc l, Alk (lstA [32, sg b, 32] rL n acc l) (lstA [32, sg b, 32] rP n acc l)
  | 0, acc, l => .inl rfl
  | n + 1, acc, l => by
    rcases h l with e | ⟨e, x, e2, bd⟩
    · rw [lstA, lstA, e]
      cases rP l with
      | none => exact .inl rfl
      | some x =>
        show Alk (if _ then _ else _) (if _ then _ else _)
        by_cases hp : ([32, sg b, 32] : List Nat).isPrefixOf x.2 = true
        · rw [if_pos hp, if_pos hp]; exact lst_alk h b n _ _
        · rw [if_neg hp, if_neg hp]; exact .inl rfl
    · rw [lstA_none e, lstA_some (a := x.1) (r := x.2) e2, if_neg (by rw [bad_pre bd b]; exact Bool.false_ne_true)]
      exact .inr ⟨rfl, _, rfl, bd⟩
theorem brk_alk {rL rP : List Nat → Option (Qn × List Nat)} (h : ∀ l, Alk (rL l) (rP l)) (l : List Nat) : rBrk rL l = rBrk rP l := by
  have one : ∀ b l, rOne rL b l = rOne rP b l := fun b l => by
    unfold rOne
    by_cases h1 : l.head? = some 41
    · rw [if_pos h1, if_pos h1]
    rw [if_neg h1, if_neg h1]
    by_cases h2 : l.head? = some 32
    · rw [if_pos h2, if_pos h2]
      rcases h l.tail with e | ⟨e, x, e2, bd⟩
      · rw [e]
      · rw [e, e2]
        exact (if_neg (bad_no bd (by decide) (by decide))).symm
    · rw [if_neg h2, if_neg h2]
  have two : ∀ q b l, rTwo rL q b l = rTwo rP q b l := fun q b l => by
    unfold rTwo
    by_cases h1 : ([32, sg b, 32] : List Nat).isPrefixOf l = true
    · rw [if_pos h1, if_pos h1]
      rcases lst_alk h b 401 [] (l.drop 3) with e | ⟨e, x, e2, bd⟩
      · rw [e]
      · rw [e, e2]
        exact (if_neg (bad_no bd (by decide) (by decide))).symm
    · rw [if_neg h1, if_neg h1]
  unfold rBrk
  rw [one, one]
  by_cases h1 : l.head? = some 38
  · rw [if_pos h1, if_pos h1]
  rw [if_neg h1, if_neg h1]
  by_cases h2 : l.head? = some 124
  · rw [if_pos h2, if_pos h2]
  rw [if_neg h2, if_neg h2]
  rcases h l with e | ⟨e, x, e2, bd⟩
  · rw [e]
    cases rP l with
    | none => rfl
    | some x => exact two _ _ _
  · rw [e, e2]
    show none = rTwo rP x.1 _ x.2
    unfold rTwo
    rw [bad_pre bd, if_neg Bool.false_ne_true]
theorem rq_alk : ∀ n l, Alk (rq tlL n l) (rq tkP n l)
  | 0, l => by
    rw [rq, rq]
    by_cases h1 : l.head? = some 33
    · rw [if_pos h1, if_pos h1]; exact .inl rfl
    rw [if_neg h1, if_neg h1]
    by_cases h2 : l.head? = some 40
    · rw [if_pos h2, if_pos h2]; exact .inl rfl
    rw [if_neg h2, if_neg h2]
    exact lf_alk l
  | n + 1, l => by
    rw [rq, rq]
    by_cases h1 : l.head? = some 33
    · rw [if_pos h1, if_pos h1]
      rcases rq_alk n l.tail with e | ⟨e, x, e2, bd⟩
      · rw [e]; exact .inl rfl
      · rw [e, e2]; exact .inr ⟨rfl, _, rfl, bd⟩
    rw [if_neg h1, if_neg h1]
    by_cases h2 : l.head? = some 40
    · rw [if_pos h2, if_pos h2]; exact .inl (brk_alk (rq_alk n) _)
    rw [if_neg h2, if_neg h2]
    exact lf_alk l
theorem all_same (n : Nat) (l : List Nat) : rAll tlL n l = rAll tkP n l := by
  unfold rAll
  rcases rq_alk n l with e | ⟨e, x, e2, bd⟩
  · rw [e]
  · rw [e, e2]
    refine (if_neg fun h => ?_).symm
    rw [h] at bd
    rcases bd with h | h <;> cases h
abbrev Sfx {α : Type} (g : List Nat → Option (α × List Nat)) : Prop := ∀ l x, g l = some x → x.2 <:+ l
theorem sfx_tk (p : Nat → Bool) (m : Nat) : Sfx (tk p m) := fun l x h => by
  unfold tk at h
  split at h
  · cases h; exact List.dropWhile_suffix _
  · cases h
theorem sfx_lst {α : Type} {g : List Nat → Option (α × List Nat)} (hg : Sfx g) (y : List Nat) : ∀ n acc l x, lstA y g n acc l = some x → x.2 <:+ l
  | 0, _, _, _, h => by cases h
  | n + 1, acc, l, x, h => by
    cases e : g l with
    | none => rw [lstA_none e] at h; cases h
    | some z =>
      have hz := hg l z e
      rw [lstA_some (a := z.1) (r := z.2) e] at h
      split at h
      · exact (sfx_lst hg y n _ _ x h).trans ((List.drop_suffix _ _).trans hz)
      · cases h; exact hz
theorem sfx_ws (c : Nat) : Sfx (rWs c) := fun l x h => by
  unfold rWs at h
  cases e : lstA [32] (tk wC 40) 401 [] l with
  | none => rw [e] at h; cases h
  | some z =>
    have hz := sfx_lst (sfx_tk wC 40) _ _ _ _ z e
    rw [e] at h
    have h' : (if z.1.length ≤ 6 ∧ z.2.head? = some c then some (z.1, z.2.tail) else none) = some x := h
    split at h'
    · cases h'; exact (List.tail_suffix _).trans hz
    · cases h'
theorem sfx_tl : Sfx tlL := fun l x h => by
  unfold tlL at h
  split at h
  · cases h; exact List.dropWhile_suffix _
  · cases h
theorem sfx_nc (b : Bool) (u l : List Nat) (x : Lf × List Nat) (h : rNc b u l = some x) : x.2 <:+ l := by
  unfold rNc at h
  cases e : widO u with
  | none => rw [e] at h; cases h
  | some m =>
    rw [e] at h
    cases e2 : rWs (cl1 b) l with
    | none => rw [e2] at h; cases h
    | some z => rw [e2] at h; cases h; exact sfx_ws _ l z e2
theorem sfx_ak {tl : List Nat → Option (Str × List Nat)} (ht : Sfx tl) : Sfx (rAk tl) := fun l x h => by
  unfold rAk at h
  split at h
  · cases e : rWs 34 l.tail with
    | none => rw [e] at h; cases h
    | some z => rw [e] at h; cases h; exact (sfx_ws _ _ z e).trans (List.tail_suffix _)
  split at h
  · cases e : tl l.tail with
    | none => rw [e] at h; cases h
    | some z => rw [e] at h; cases h; exact (ht _ z e).trans (List.tail_suffix _)
  split at h
  · exact (sfx_nc _ _ _ x h).trans ((List.tail_suffix _).trans (List.dropWhile_suffix _))
  split at h
  · exact (sfx_nc _ _ _ x h).trans ((List.tail_suffix _).trans (List.dropWhile_suffix _))
  split at h
  · cases h; exact List.dropWhile_suffix _
  · cases h
theorem sfx_fd : Sfx rFd := fun l x h => by
  unfold rFd at h
  split at h
  · cases h; exact List.tail_suffix _
  · exact sfx_tk _ _ _ _ h
theorem sfx_lf {tl : List Nat → Option (Str × List Nat)} (ht : Sfx tl) : Sfx (rLf tl) := fun l x h => by
  unfold rLf at h
  cases e : rFd l with
  | none => rw [e] at h; cases h
  | some z =>
    have hz := sfx_fd l z e
    rw [e] at h
    have h' : (if z.2.head? = some 58 then (match rAk tl z.2.tail with | none => none | some y => some (Qn.lf z.1 y.1, y.2)) else none) = some x := h
    split at h'
    · cases e2 : rAk tl z.2.tail with
      | none => rw [e2] at h'; cases h'
      | some y => rw [e2] at h'; cases h'; exact (sfx_ak ht _ y e2).trans ((List.tail_suffix _).trans hz)
    · cases h'
theorem sfx_one {rec : List Nat → Option (Qn × List Nat)} (hr : Sfx rec) (b : Bool) : Sfx (rOne rec b) := fun l x h => by
  unfold rOne at h
  split at h
  · cases h; exact List.tail_suffix _
  split at h
  · cases e : rec l.tail with
    | none => rw [e] at h; cases h
    | some z =>
      rw [e] at h
      have h' : (if z.2.head? = some 41 then some (Qn.bo b [z.1], z.2.tail) else none) = some x := h
      split at h'
      · cases h'; exact (List.tail_suffix _).trans ((hr _ z e).trans (List.tail_suffix _))
      · cases h'
  · cases h
theorem sfx_two {rec : List Nat → Option (Qn × List Nat)} (hr : Sfx rec) (q : Qn) (b : Bool) : Sfx (rTwo rec q b) := fun l x h => by
  unfold rTwo at h
  split at h
  · cases e : lstA [32, sg b, 32] rec 401 [] (l.drop 3) with
    | none => rw [e] at h; cases h
    | some z =>
      rw [e] at h
      have h' : (if z.2.head? = some 41 then some (Qn.bo b (q :: z.1), z.2.tail) else none) = some x := h
      split at h'
      · cases h'; exact (List.tail_suffix _).trans ((sfx_lst hr _ _ _ _ z e).trans (List.drop_suffix _ _))
      · cases h'
  · cases h
theorem sfx_brk {rec : List Nat → Option (Qn × List Nat)} (hr : Sfx rec) : Sfx (rBrk rec) := fun l x h => by
  unfold rBrk at h
  split at h
  · exact (sfx_one hr _ _ x h).trans (List.tail_suffix _)
  split at h
  · exact (sfx_one hr _ _ x h).trans (List.tail_suffix _)
  cases e : rec l with
  | none => rw [e] at h; cases h
  | some z => rw [e] at h; exact (sfx_two hr _ _ _ x h).trans (hr _ z e)
theorem sfx_rq {tl : List Nat → Option (Str × List Nat)} (ht : Sfx tl) : ∀ n, Sfx (rq tl n)
  | 0 => fun l x h => by
    rw [rq] at h
    split at h
    · cases h
    split at h
    · cases h
    · exact sfx_lf ht l x h
  | n + 1 => fun l x h => by
    rw [rq] at h
    split at h
    · cases e : rq tl n l.tail with
      | none => rw [e] at h; cases h
      | some z => rw [e] at h; cases h; exact (sfx_rq ht n _ z e).trans (List.tail_suffix _)
    split at h
    · exact (sfx_brk (sfx_rq ht n) _ x h).trans (List.tail_suffix _)
    · exact sfx_lf ht l x h
theorem cnt_sfx {a b : List Nat} (h : a <:+ b) : cnt a ≤ cnt b := List.Sublist.countP_le h.sublist
def RP (g : List Nat → Option (Qn × List Nat)) (z : Str) (H : Hp) (Q : VK) : Prop := (∀ (q : Qn) (r : Str), r.length ≤ z.length → g (cs z) = some (q, cs r) → ∀ (p : Addr) (x : V) H', Same H H' → H p = none → H' p = some (.tup [x, .str r]) → DeepT (nw H H') (dvQ q) x → Q (.ref p) H') ∧ (g (cs z) = none → ∀ H', Same H H' → Q .non H')
def spLR (n : Nat) : Sp := fun vs H Q _ => ∃ z : Str, vs = [.str z] ∧ z.length ≤ 400 ∧ cnt (cs z) ≤ n ∧ RP (rq tlL n) z H Q
def spLP (n : Nat) : Sp := fun vs H Q _ => ∃ z : Str, vs = [.str z] ∧ z.length ≤ 400 ∧ cnt (cs z) ≤ n ∧ RP (rBrk (rq tlL n)) z H Q
theorem cnt_le {l : List Nat} {n : Nat} (j : Nat) (h : cnt l ≤ n) : cnt (l.drop j) ≤ n := Nat.le_trans (List.Sublist.countP_le (List.drop_sublist _ _)) h
theorem hd_l {l : List Nat} {y : Str} {k : Nat} (h : cs y = [k]) : decide ((st (l.take 1)) = y) = decide (l.head? = some k) := by
  have := hd_is (z := st l) h
  rwa [show (⟨(cutL (st l).cps.toList none (some 1)).toArray⟩ : Str) = st (l.take 1) from by rw [cut_to (by decide)]; rfl] at this
section
variable {P : Program} {w : World} {K : PySem.W.Frag} {mg : Str → Option Value} {base : Heap} {f : Addr} {fd : FuncData}
theorem scLR : FnScope ["_law_line", "_law_found", "_law_many"] ["_law_line"] (defScope sLR) := ⟨rfl, rfl, rfl, by decide +kernel, rfl, by decide +kernel, by decide +kernel⟩
set_option maxHeartbeats 4000000 in
theorem ok_lr1 {g ga gp : Addr} {gd da dp : FuncData} {n k : Nat} {SQ SB : Sp} (F : Fun K "_law_read" "_law_read" sLR f fd) (T : Txt mg) (GRu : FnOk P w K mg base CX0 1 g gd ["_law_line", "_law_signs"] spRun) (bRu : Binds K gd ["_law_line", "_law_signs"] []) (kRu : PySem.W.keepIn K (.ref g) = true) (mRu : mg "_law_run" = some (.ref g))
    (GLA : FnOk P w K mg base CX0 3 ga da ["_law_field_here", "_law_line"] spLA) (bLA : Binds K da ["_law_field_here", "_law_line"] []) (kLA : PySem.W.keepIn K (.ref ga) = true) (mLA : mg "_law_asked" = some (.ref ga))
    (GLR : FnOk P w K mg base CX0 (k + 2) f fd ["_law_line"] SQ) (bLR : Binds K fd ["_law_line"] []) (mLR : mg "_law_read" = some (.ref f))
    (GLP : FnOk P w K mg base CX0 (k + 3) gp dp ["_law_line"] SB) (bLP : Binds K dp ["_law_line"] []) (kLP : PySem.W.keepIn K (.ref gp) = true) (mLP : mg "_law_put" = some (.ref gp))
    (hS : ∀ m, n = m + 1 → SQ = spLR m ∧ SB = spLP m) : FnOk P w K mg base CX0 (k + 4) f fd ["_law_line"] (spLR n) := by
  have kLR := F.kp
  refine F.ok scLR (fun vs H Q E h => ?_) (fun cdv A outer s H vs Q E hr h => ?_)
  · obtain ⟨z, rfl, _⟩ := h
    rfl
  obtain ⟨z, rfl, hz, hcn, q1, q2⟩ := h
  have hr1 : Room 1 _ := hr.mono (by omega)
  have hr3 : Room 3 _ := hr.mono (by omega)
  have hrq : Room (k + 2) _ := hr.mono (by omega)
  have sm : ∀ y : Str, y.length ≤ 400 → y.length ≤ sizeLine := fun y h => small (by omega)
  have ht : (st (cs z).tail).length ≤ z.length := by rw [ln_st, List.length_tail, slen]; omega
  refine ⟨_, (@pss_cons _ _ _ _ _ (@ps_if _ _ _ _ _ _ _ _ (@pt_cmpR _ _ _ _ _ _ _ _ op_eq (@pe_slice _ _ _ _ _ _ _ _ _ _ sl_str (pv 0) po_none (po_some pe_int)) pe_str (nomark _)) (@pss_cons _ _ _ _ _ (ps_set (i := 1) scLR.nd rfl (Or.inl rfl) (pe_call GLR hrq rfl mLR kLR bLR .nil pass0 (@pa_cons _ _ _ _ _ (@pe_slice _ _ _ _ _ _ _ _ _ _ sl_str (pv 0) (po_some pe_int) po_none) pa_nil star_S)))
    (@pss_cons _ _ _ _ _ (@ps_if _ _ _ _ _ _ _ _ (@pt_cmpR _ _ _ _ _ _ _ _ op_isN (pv 1) pe_non (nomark _)) (@pss_one _ _ _ (@ps_ret _ _ _ _ pe_non)) pss_nil)
    (@pss_one _ _ _ (@ps_ret _ _ _ _ (@pe_tup _ _ _ _ _ (@pa_cons _ _ _ _ _ (@pe_tup _ _ _ _ _ (@pa_cons _ _ _ _ _ pe_str (@pa_cons _ _ _ _ _ (pe_ix (ixT K) (pv 1) pe_int (fun _ _ => rfl)) pa_nil star_S) star_K)) (@pa_cons _ _ _ _ _ (pe_ix (ixT K) (pv 1) pe_int (fun _ _ => rfl)) pa_nil star_S) star_T)))))) pss_nil)
    (@pss_cons _ _ _ _ _ (@ps_if _ _ _ _ _ _ _ _ (@pt_cmpR _ _ _ _ _ _ _ _ op_eq (@pe_slice _ _ _ _ _ _ _ _ _ _ sl_str (pv 0) po_none (po_some pe_int)) pe_str (nomark _)) (@pss_one _ _ _ (@ps_ret _ _ _ _ (pe_call GLP hr rfl mLP kLP bLP .nil pass0 (@pa_cons _ _ _ _ _ (@pe_slice _ _ _ _ _ _ _ _ _ _ sl_str (pv 0) (po_some pe_int) po_none) pa_nil star_S)))) pss_nil)
    (@pss_cons _ _ _ _ _ (ps_set (i := 2) scLR.nd rfl (Or.inl rfl) pe_int)
    (@pss_cons _ _ _ _ _ (@ps_if _ _ _ _ _ _ _ _ (@pt_cmpR _ _ _ _ _ _ _ _ op_ne (@pe_slice _ _ _ _ _ _ _ _ _ _ sl_str (pv 0) po_none (po_some pe_int)) pe_str (nomark _)) (@pss_one _ _ _ (ps_set (i := 2) scLR.nd rfl (Or.inl rfl) (pe_call GRu hr1 rfl mRu kRu bRu .nil pass0 (@pa_cons _ _ _ _ _ (pv 0) (@pa_cons _ _ _ _ _ pe_str pa_nil star_K) star_N)))) pss_nil)
    (@pss_cons _ _ _ _ _ (@ps_if _ _ _ _ _ _ _ _ (@PW.pt _ _ _ (@pw_or _ _ _ _ _ _ _ (@pt_cmpR _ _ _ _ _ _ _ _ op_eq (pv 2) pe_int (nomark _)) (@pw_or _ _ _ _ _ _ _ (@pt_cmpR _ _ _ _ _ _ _ _ op_gt (pv 2) pe_int (nomark _)) (@pw_or1 _ _ _ _ (@pt_cmpR _ _ _ _ _ _ _ _ op_ne (@pe_slice _ _ _ _ _ _ _ _ _ _ sl_str (pv 0) (po_some (pv 2)) (po_some (pe_op op_add (pv 2) pe_int))) pe_str (nomark _)))))) (@pss_one _ _ _ (@ps_ret _ _ _ _ pe_non)) pss_nil)
    (@pss_one _ _ _ (@ps_ret _ _ _ _ (pe_call GLA hr3 rfl mLA kLA bLA .nil pass0 (@pa_cons _ _ _ _ _ (@pe_slice _ _ _ _ _ _ _ _ _ _ sl_str (pv 0) po_none (po_some (pv 2))) (@pa_cons _ _ _ _ _ (@pe_slice _ _ _ _ _ _ _ _ _ _ sl_str (pv 0) (po_some (pe_op op_add (pv 2) pe_int)) po_none) pa_nil star_S) star_S))))))))), ?_⟩
  refine seq_inv (fun σ L => σ = [some (.str z), none, none] ∧ L = H ∧ (cs z).head? ≠ some 33) ?_ (fun N hN => ?_)
  rotate_left
  · simpa only [and_self]
    rw [hd_is csE, cut1]
    refine ⟨sm z hz, ite2 (fun c => ⟨sm z hz, ?_⟩) (fun c => hN _ _ ⟨rfl, rfl, of_decide_eq_false (Bool.eq_false_iff.mpr c)⟩)⟩
    have c' := of_decide_eq_true c
    cases n with
    | zero => exact (cnt_zero c' (.inl rfl) hcn).elim
    | succ m =>
      rw [(hS m rfl).1]
      have hR : rq tlL (m + 1) (cs z) = match rq tlL m (cs z).tail with | none => none | some x => some (.nt x.1, x.2) := by
        rw [rq, if_pos c']
        all_goals (cases rq tlL m (cs z).tail <;> rfl)
      refine ⟨st (cs z).tail, rfl, by omega, cnt_tail c' (.inl rfl) hcn, fun q r hrl hw p x H1 s1 hp h1 dx => ?_, fun hn H1 s1 => ?_⟩
      · rw [cs_st] at hw
        refine ite2 (fun h => by simp at h) fun _ => ⟨p, rfl, _, SqT.of h1, _, rfl, by decide, fun p1 hp1 => ⟨p, rfl, _, SqT.of (by rw [upd_ne fun e => by rw [e, hp1] at h1; cases h1]; exact h1), _, rfl, by decide, fun p2 hp2 => ?_⟩⟩
        obtain ⟨g1, g2, g3⟩ := fin2 (ds := [.str "not", dvQ q]) (y := .str r) s1 hp1 (dc (dS _) (DeepTs.one dx)) hp2
        exact q1 (.nt q) r (by omega) (by rw [hR, hw]) p2 _ _ g1 g2 upd_same (by rw [dvQ]; exact g3)
      · rw [cs_st] at hn
        rw [if_pos (by simp)]
        exact q2 (by rw [hR, hn]) _ s1
  rintro σ L ⟨rfl, rfl, n33⟩
  refine seq_inv (fun σ M => σ = [some (.str z), none, none] ∧ M = L ∧ (cs z).head? ≠ some 40) ?_ (fun N hN => ?_)
  rotate_left
  · simpa only [and_self]
    rw [hd_is csL, cut1]
    refine ⟨sm z hz, ite2 (fun c => ⟨sm z hz, ?_⟩) (fun c => hN _ _ ⟨rfl, rfl, of_decide_eq_false (Bool.eq_false_iff.mpr c)⟩)⟩
    have c' := of_decide_eq_true c
    cases n with
    | zero => exact (cnt_zero c' (.inr rfl) hcn).elim
    | succ m =>
      rw [(hS m rfl).2]
      have hR : rq tlL (m + 1) (cs z) = rBrk (rq tlL m) (cs z).tail := by rw [rq, if_neg n33, if_pos c']
      exact ⟨st (cs z).tail, rfl, by omega, cnt_tail c' (.inr rfl) hcn, fun q r hrl hw p x H1 s1 hp h1 dx => q1 q r (by omega) (by rw [hR]; exact hw) p x H1 s1 hp h1 dx, fun hn H1 s1 => q2 (by rw [hR]; exact hn) H1 s1⟩
  rintro σ M ⟨rfl, rfl, n40⟩
  have hR : rq tlL n (cs z) = rLf tlL (cs z) := by
    cases n with
    | zero => rw [rq, if_neg n33, if_neg n40]
    | succ m => rw [rq, if_neg n33, if_neg n40]
  rw [hR] at q1 q2
  clear hR
  refine seq_inv (fun σ X => σ = [some (.str z), none, some (.int 1)] ∧ X = M) ?_ (fun N hN => ?_)
  rotate_left
  · simpa only [and_self]
    exact hN _ _ ⟨rfl, rfl⟩
  rintro σ X ⟨rfl, rfl⟩
  refine seq_inv (fun σ Y => ∃ m : Nat, σ = [some (.str z), none, some (.int (m : Int))] ∧ Y = X ∧ m ≤ z.length + 1 ∧ (rFd (cs z) = if 1 ≤ m ∧ m ≤ 12 then some (st ((cs z).take m), (cs z).drop m) else none)) ?_ (fun N hN => ?_)
  rotate_left
  · simpa only [and_self]
    rw [hd_is csst]
    refine ⟨sm z hz, ite2 (fun c => ?_) (fun c => ?_)⟩
    · have c' := nb_t c
      have hdec := tw_dw lowC (cs z)
      refine ⟨z, _, rfl, hz, ?_⟩
      rw [mem_low]
      refine hN _ _ ⟨_, rfl, rfl, ?_, ?_⟩
      · have := congrArg List.length hdec
        rw [List.length_append, slen] at this
        omega
      · unfold rFd tk
        rw [if_neg c']
        have e1 : (cs z).take ((cs z).takeWhile lowC).length = (cs z).takeWhile lowC := by
          have := congrArg (List.take ((cs z).takeWhile lowC).length) hdec
          rwa [List.take_left] at this
        have e2 : (cs z).drop ((cs z).takeWhile lowC).length = (cs z).dropWhile lowC := by
          have := congrArg (List.drop ((cs z).takeWhile lowC).length) hdec
          rwa [List.drop_left] at this
        rw [e1, e2]
    · have c' := nb_f c
      refine hN _ _ ⟨1, rfl, rfl, by omega, ?_⟩
      unfold rFd
      rw [if_pos c', if_pos (by omega)]
      cases hz' : cs z with
      | nil => rw [hz'] at c'; cases c'
      | cons a m =>
        rw [hz'] at c'
        have : a = 42 := Option.some.inj c'
        subst this
        rfl
  rintro σ Y ⟨m, rfl, rfl, hm, hF⟩
  simpa only [and_self]
  have bad : ∀ h : rFd (cs z) = none, Q .non Y := fun h => q2 (by unfold rLf; rw [h]) _ (Same.refl _)
  refine ite2 (fun c => bad (by rw [hF, if_neg (by have := of_decide_eq_true c; omega)])) (fun c => ite2 (fun c2 => bad (by rw [hF, if_neg (by have := of_decide_eq_true c2; omega)])) (fun c2 => ⟨sm z hz, ?_⟩))
  have d1 := of_decide_eq_false (Bool.eq_false_iff.mpr c)
  have d2 := of_decide_eq_false (Bool.eq_false_iff.mpr c2)
  rw [if_pos (by omega)] at hF
  have hL : rLf tlL (cs z) = if ((cs z).drop m).head? = some 58 then (match rAk tlL ((cs z).drop (m + 1)) with | none => none | some y => some (.lf (st ((cs z).take m)) y.1, y.2)) else none := by
    unfold rLf
    rw [hF, tail_at]
    all_goals (by_cases h : ((cs z).drop m).head? = some 58 <;> first | (rw [if_pos h]; exact if_pos h) | (rw [if_neg h]; exact if_neg h))
  have e1 : cutL (cs z) (some (m : Int)) (some ((m : Int) + 1)) = ((cs z).drop m).take 1 := by
    rw [show (m : Int) + 1 = ((m + 1 : Nat) : Int) by omega, cutL_nat _ (Nat.le_succ _), show m.succ - m = 1 by omega]
  have e2 : cutL (cs z) none (some (m : Int)) = (cs z).take m := by rw [cut_to (by omega), Int.toNat_natCast]
  have e3 : cutL (cs z) (some ((m : Int) + 1)) none = (cs z).drop (m + 1) := by rw [cut_from (by omega), show ((m : Int) + 1).toNat = m + 1 by omega]
  rw [e1, e2, e3, hd_l csCo]
  refine ite2 (fun c3 => ?_) (fun c3 => ⟨sm z hz, sm z hz, ?_⟩)
  · exact q2 (by rw [hL, if_neg (nb_t c3)]) _ (Same.refl _)
  rw [if_pos (nb_f c3)] at hL
  have hdl : ((cs z).drop (m + 1)).length ≤ z.length := by rw [List.length_drop, slen]; omega
  refine ⟨st ((cs z).take m), st ((cs z).drop (m + 1)), rfl, by rw [ln_st]; omega, fun a r hrl hw p x H1 s1 hp h1 dx => ?_, fun hn H1 s1 => ?_⟩
  · rw [cs_st] at hw
    rw [ln_st ((cs z).drop (m + 1))] at hrl
    exact q1 (.lf (st ((cs z).take m)) a) r (by omega) (by rw [hL, hw]) p x H1 s1 hp h1 (by rw [dvQ]; exact dx)
  · rw [cs_st] at hn
    exact q2 (by rw [hL, hn]) H1 s1
end
theorem csAmp : cs ("&" : Str) = [38] := by decide +kernel
theorem csBar : cs ("|" : Str) = [124] := by decide +kernel
theorem inSetL {l : List Nat} {a b : Str} {k m : Nat} (ha : cs a = [k]) (hb : cs b = [m]) : inV (.str (st (l.take 1))) [.str a, .str b] = (decide (l.head? = some k) || decide (l.head? = some m)) := by
  have := inSet (z := st l) ha hb
  rwa [show (⟨(cutL (st l).cps.toList none (some 1)).toArray⟩ : Str) = st (l.take 1) from by rw [cut_to (by decide)]; rfl] at this
def kvP : List (Key × V) := [(.inr "&", .str "both"), (.inr "|", .str "one")]
theorem kvP_at (b : Bool) : valV (mergeK [] kvP) (.inr (sgS b)) = some (.str (boN b)) := by cases b <;> rfl
theorem take_sg {l : List Nat} {b : Bool} (h : l.head? = some (sg b)) : st (l.take 1) = sgS b := by
  cases l with
  | nil => cases h
  | cons a m =>
    have : a = sg b := Option.some.inj h
    subst this
    exact sExt (cs_sg b).symm
theorem cut12 (z : Str) : cutL z.cps.toList (some 1) (some 2) = (cs z).tail.take 1 := by
  have := cutL_nat (cs z) (show 1 ≤ 2 by decide)
  rw [show (2 - 1 : Nat) = 1 from rfl, List.drop_one] at this
  exact this
theorem drop2 (l : List Nat) : l.drop 2 = l.tail.tail := by
  cases l with
  | nil => rfl
  | cons a m => exact List.drop_one
theorem cut2 (z : Str) : cutL z.cps.toList (some 2) none = (cs z).tail.tail := by rw [cut_from (by decide)]; exact drop2 _
theorem finB {H M : Hp} {p2 p3 p4 : Addr} {b : Bool} {qs : List Qn} {xs : List V} {y : V} (s : Same H M) (h2 : H p2 = none) (e2 : M p2 = some (.lst xs)) (d : DeepTs (fun b' => if b' = p2 then none else nw H M b') (qs.map dvQ) xs) (h3 : M p3 = none) (h4 : upd M p3 (.tup [.str (boN b), .ref p2]) p4 = none) :
    Same H (upd (upd M p3 (.tup [.str (boN b), .ref p2])) p4 (.tup [.ref p3, y])) ∧ H p4 = none ∧ DeepT (nw H (upd (upd M p3 (.tup [.str (boN b), .ref p2])) p4 (.tup [.ref p3, y]))) (dvQ (.bo b qs)) (.ref p3) := by
  rw [dvQ]
  refine fin2 s h3 (dc (dS _) (DeepTs.one ?_)) h4
  rw [DeepT]
  refine ⟨p2, xs, rfl, by rw [nw_at h2]; exact e2, ?_⟩
  rw [dvQs_map]
  refine DeepTs.same (fun b' o e => ?_) _ _ d
  by_cases c : b' = p2
  · rw [if_pos c] at e; cases e
  · rw [if_neg c] at e; exact e
theorem pfx {b : Bool} {r : List Nat} : ([32, sg b, 32] : List Nat).isPrefixOf r = true ↔ r.take 3 = [32, sg b, 32] := by
  rw [List.isPrefixOf_iff_prefix, List.prefix_iff_eq_take]
  exact eq_comm
theorem pfx_no {b : Bool} {r : List Nat} (h : r.take 3 ≠ [32, sg b, 32]) : ([32, sg b, 32] : List Nat).isPrefixOf r = false := Bool.eq_false_iff.mpr fun e => h (pfx.mp e)
theorem pre_amp {r : List Nat} : pre " & " r = ([32, sg true, 32] : List Nat).isPrefixOf r := by unfold pre; rw [csA]; rfl
theorem cut3 (z : Str) : cutL z.cps.toList none (some 3) = (cs z).take 3 := cut_to (by decide)
theorem cut3' (z : Str) : cutL z.cps.toList (some 3) none = (cs z).drop 3 := cut_from (by decide)
theorem csBr : cs (" | " : Str) = [32, 124, 32] := by decide +kernel
theorem eqb_cs {a : Str} {t l : List Nat} (h : cs a = l) : (a == st t) = decide (t = l) := by
  by_cases q : t = l
  · rw [decide_eq_true q]
    have : a = st t := sExt (by rw [show a.cps.toList = cs a from rfl, h, q])
    rw [this]; simp
  · rw [decide_eq_false q]
    refine beq_false_of_ne fun e => q ?_
    rw [← h, e]
theorem in3 (t : List Nat) : inV (.str (st t)) [.str " & ", .str " | "] = (decide (t = [32, 38, 32]) || decide (t = [32, 124, 32])) := by
  show ((" & " == st t) || ((" | " == st t) || false)) = _
  rw [Bool.or_false, eqb_cs csA, eqb_cs csBr]
theorem sgS_inj {a b : Bool} (h : sgS a = sgS b) : a = b := by
  have := congrArg cs h
  rw [cs_sg, cs_sg] at this
  cases a <;> cases b <;> first | rfl | exact absurd this (by decide)
theorem sgS_ne (b : Bool) : sgS b ≠ "" := fun h => by
  have := congrArg cs h
  rw [cs_sg, show cs ("" : Str) = [] from by decide +kernel] at this
  cases this
def finQ (b : Bool) (q : Qn) (x : Option (List Qn × List Nat)) : Option (Qn × List Nat) := match x with
  | none => none
  | some y => if y.2.head? = some 41 then some (.bo b (q :: y.1), y.2.tail) else none
theorem two_fin {rec : List Nat → Option (Qn × List Nat)} {q : Qn} {b : Bool} {l : List Nat} (h : ([32, sg b, 32] : List Nat).isPrefixOf l = true) : rTwo rec q b l = finQ b q (lstA [32, sg b, 32] rec 401 [] (l.drop 3)) := by
  unfold rTwo
  rw [if_pos h]
  rfl
theorem brk_two {rec : List Nat → Option (Qn × List Nat)} {l : List Nat} (h1 : l.head? ≠ some 38) (h2 : l.head? ≠ some 124) : rBrk rec l = match rec l with | none => none | some x => rTwo rec x.1 (pre " & " x.2) x.2 := by
  unfold rBrk
  rw [if_neg h1, if_neg h2]
  all_goals (cases rec l <;> rfl)
def wLP (rec : List Nat → Option (Qn × List Nat)) (n : Nat) (L : Hp) (p0 : Addr) (z : Str) (m : Nat) (σ : St) (M : Hp) : Prop := ∃ (l sgn : Str) (acc : List Qn) (xs : List V) (v3 : Option V), m = l.length ∧ acc.length + l.length ≤ 400 ∧ l.length ≤ z.length ∧ cnt (cs l) ≤ n ∧ σ = [some (.str l), some (.str sgn), some (.ref p0), v3] ∧ M p0 = some (.lst xs) ∧ Same L M ∧ DeepTs (fun b => if b = p0 then none else nw L M b) (acc.map dvQ) xs ∧
  ((acc = [] ∧ sgn = "" ∧ l = z) ∨ ∃ (b : Bool) (q : Qn) (acc' : List Qn) (nn : Nat), acc = q :: acc' ∧ sgn = sgS b ∧ nn + acc'.length = 401 ∧ rBrk rec (cs z) = finQ b q (lstA [32, sg b, 32] rec nn acc' (cs l)))
section
variable {P : Program} {w : World} {K : PySem.W.Frag} {mg : Str → Option Value} {base : Heap} {f : Addr} {fd : FuncData}
theorem scLP : FnScope ["_law_line", "_law_sign", "_law_found", "_law_one"] ["_law_line"] (defScope sLP) := ⟨rfl, rfl, rfl, by decide +kernel, rfl, by decide +kernel, by decide +kernel⟩
set_option maxHeartbeats 4000000 in
theorem ok_lp {g : Addr} {gd : FuncData} {n k : Nat} (F : Fun K "_law_put" "_law_put" sLP f fd) (T : Txt mg)
    (GLR : FnOk P w K mg base CX0 (k + 4) g gd ["_law_line"] (spLR n)) (bLR : Binds K gd ["_law_line"] []) (kLR : PySem.W.keepIn K (.ref g) = true) (mLR : mg "_law_read" = some (.ref g)) : FnOk P w K mg base CX0 (k + 5) f fd ["_law_line"] (spLP n) := by
  refine F.ok scLP (fun vs H Q E h => ?_) (fun cdv A outer s H vs Q E hr h => ?_)
  · obtain ⟨z, rfl, _⟩ := h
    rfl
  obtain ⟨z, rfl, hz, hcn, q1, q2⟩ := h
  have sm : ∀ y : Str, y.length ≤ 400 → y.length ≤ sizeLine := fun y h => small (by omega)
  refine ⟨_, (@pss_cons _ _ _ _ _ (ps_set (i := 1) scLP.nd rfl (Or.inl rfl) (@pe_slice _ _ _ _ _ _ _ _ _ _ sl_str (pv 0) po_none (po_some pe_int)))
    (@pss_cons _ _ _ _ _ (ps_set (i := 2) scLP.nd rfl (Or.inl rfl) (@pe_lst _ _ _ _ pa_nil))
    (@pss_cons _ _ _ _ _ (@ps_if _ _ _ _ _ _ _ _ (@PW.pt _ _ _ (@pw_and _ _ _ _ _ _ _ (@pt_cmpR _ _ _ _ _ _ _ _ op_in_seq (pv 1) (@pe_lst _ _ _ _ (@pa_cons _ _ _ _ _ pe_str (@pa_cons _ _ _ _ _ pe_str pa_nil star_K) star_K)) rfl) (@pw_and1 _ _ _ _ (@pt_cmpR _ _ _ _ _ _ _ _ op_eq (@pe_slice _ _ _ _ _ _ _ _ _ _ sl_str (pv 0) (po_some pe_int) (po_some pe_int)) pe_str (nomark _))))) (@pss_one _ _ _ (@ps_ret _ _ _ _ (@pe_tup _ _ _ _ _ (@pa_cons _ _ _ _ _ (@pe_tup _ _ _ _ _ (@pa_cons _ _ _ _ _ (@pe_dget _ _ _ _ _ _ (hu_of hr) (@pe_disp _ _ _ _ _ (@pps_cons _ _ _ _ _ _ _ _ _ pe_str pe_str (@pps_cons _ _ _ _ _ _ _ _ _ pe_str pe_str pps_nil)) rfl rfl (by decide) (by decide)) (pv 1) (fun _ _ => rfl)) (@pa_cons _ _ _ _ _ (@pe_lst _ _ _ _ pa_nil) pa_nil star_L) star_S)) (@pa_cons _ _ _ _ _ (@pe_slice _ _ _ _ _ _ _ _ _ _ sl_str (pv 0) (po_some pe_int) po_none) pa_nil star_S) star_T)))) pss_nil)
    (@pss_cons _ _ _ _ _ (@ps_if _ _ _ _ _ _ _ _ (@pt_cmpR _ _ _ _ _ _ _ _ op_in_seq (pv 1) (@pe_lst _ _ _ _ (@pa_cons _ _ _ _ _ pe_str (@pa_cons _ _ _ _ _ pe_str pa_nil star_K) star_K)) rfl) (@pss_cons _ _ _ _ _ (ps_set (i := 3) scLP.nd rfl (Or.inl rfl) pe_non)
    (@pss_cons _ _ _ _ _ (@ps_if _ _ _ _ _ _ _ _ (@pt_cmpR _ _ _ _ _ _ _ _ op_eq (@pe_slice _ _ _ _ _ _ _ _ _ _ sl_str (pv 0) (po_some pe_int) (po_some pe_int)) pe_str (nomark _)) (@pss_one _ _ _ (ps_set (i := 3) scLP.nd rfl (Or.inl rfl) (pe_call GLR hr rfl mLR kLR bLR .nil pass0 (@pa_cons _ _ _ _ _ (@pe_slice _ _ _ _ _ _ _ _ _ _ sl_str (pv 0) (po_some pe_int) po_none) pa_nil star_S)))) pss_nil)
    (@pss_cons _ _ _ _ _ (@ps_if _ _ _ _ _ _ _ _ (@PW.pt _ _ _ (@pw_or _ _ _ _ _ _ _ (@pt_cmpR _ _ _ _ _ _ _ _ op_isN (pv 3) pe_non (nomark _)) (@pw_or1 _ _ _ _ (@pt_cmpR _ _ _ _ _ _ _ _ op_ne (@pe_slice _ _ _ _ _ _ _ _ _ _ sl_str (pe_ix (ixT K) (pv 3) pe_int (fun _ _ => rfl)) po_none (po_some pe_int)) pe_str (nomark _))))) (@pss_one _ _ _ (@ps_ret _ _ _ _ pe_non)) pss_nil)
    (@pss_one _ _ _ (@ps_ret _ _ _ _ (@pe_tup _ _ _ _ _ (@pa_cons _ _ _ _ _ (@pe_tup _ _ _ _ _ (@pa_cons _ _ _ _ _ (@pe_dget _ _ _ _ _ _ (hu_of hr) (@pe_disp _ _ _ _ _ (@pps_cons _ _ _ _ _ _ _ _ _ pe_str pe_str (@pps_cons _ _ _ _ _ _ _ _ _ pe_str pe_str pps_nil)) rfl rfl (by decide) (by decide)) (pv 1) (fun _ _ => rfl)) (@pa_cons _ _ _ _ _ (@pe_lst _ _ _ _ (@pa_cons _ _ _ _ _ (pe_ix (ixT K) (pv 3) pe_int (fun _ _ => rfl)) pa_nil star_S)) pa_nil star_L) star_S)) (@pa_cons _ _ _ _ _ (@pe_slice _ _ _ _ _ _ _ _ _ _ sl_str (pe_ix (ixT K) (pv 3) pe_int (fun _ _ => rfl)) (po_some pe_int) po_none) pa_nil star_S) star_T))))))) pss_nil)
    (@pss_cons _ _ _ _ _ (ps_set (i := 1) scLP.nd rfl (Or.inl rfl) pe_str)
    (@pss_one _ _ _ (@ps_while _ _ _ _ _ _ PassesOwn.never (pt_val pe_bl)
      (@pss_cons _ _ _ _ _ (ps_set (i := 3) scLP.nd rfl (Or.inl rfl) (pe_call GLR hr rfl mLR kLR bLR .nil pass0 (@pa_cons _ _ _ _ _ (pv 0) pa_nil star_N)))
    (@pss_cons _ _ _ _ _ (@ps_if _ _ _ _ _ _ _ _ (@pt_cmpR _ _ _ _ _ _ _ _ op_isN (pv 3) pe_non (nomark _)) (@pss_one _ _ _ (@ps_ret _ _ _ _ pe_non)) pss_nil)
    (@pss_cons _ _ _ _ _ (ps_expr (bmK K PySem.F.plainAttrs_list PySem.F.slot_list_append PySem.F.type_list_append mt_append (pv 2) (@pa_cons _ _ _ _ _ (pe_ix (ixT K) (pv 3) pe_int (fun _ _ => rfl)) pa_nil star_S)))
    (@pss_cons _ _ _ _ _ (ps_set (i := 0) scLP.nd rfl (Or.inl rfl) (pe_ix (ixT K) (pv 3) pe_int (fun _ _ => rfl)))
    (@pss_cons _ _ _ _ _ (@ps_if _ _ _ _ _ _ _ _ (@PW.pt _ _ _ (@pw_and _ _ _ _ _ _ _ (@pt_cmpR _ _ _ _ _ _ _ _ op_eq (@pe_slice _ _ _ _ _ _ _ _ _ _ sl_str (pv 0) po_none (po_some pe_int)) pe_str (nomark _)) (@pw_and1 _ _ _ _ (@pt_cmpR _ _ _ _ _ _ _ _ op_gt (pe_callB (lenK K) rfl T.len PySem.boot_len (@pa_cons _ _ _ _ _ (pv 2) pa_nil star_N)) pe_int (nomark _))))) (@pss_one _ _ _ (@ps_ret _ _ _ _ (@pe_tup _ _ _ _ _ (@pa_cons _ _ _ _ _ (@pe_tup _ _ _ _ _ (@pa_cons _ _ _ _ _ (@pe_dget _ _ _ _ _ _ (hu_of hr) (@pe_disp _ _ _ _ _ (@pps_cons _ _ _ _ _ _ _ _ _ pe_str pe_str (@pps_cons _ _ _ _ _ _ _ _ _ pe_str pe_str pps_nil)) rfl rfl (by decide) (by decide)) (pv 1) (fun _ _ => rfl)) (@pa_cons _ _ _ _ _ (pv 2) pa_nil star_N) star_S)) (@pa_cons _ _ _ _ _ (@pe_slice _ _ _ _ _ _ _ _ _ _ sl_str (pv 0) (po_some pe_int) po_none) pa_nil star_S) star_T)))) pss_nil)
    (@pss_cons _ _ _ _ _ (@ps_if _ _ _ _ _ _ _ _ (@PW.pt _ _ _ (@pw_or _ _ _ _ _ _ _ (@pt_cmpR _ _ _ _ _ _ _ _ op_notIn_seq (@pe_slice _ _ _ _ _ _ _ _ _ _ sl_str (pv 0) po_none (po_some pe_int)) (@pe_lst _ _ _ _ (@pa_cons _ _ _ _ _ pe_str (@pa_cons _ _ _ _ _ pe_str pa_nil star_K) star_K)) rfl) (@pw_or1 _ _ _ _ (@pt_cmpR _ _ _ _ _ _ _ _ op_notIn_seq (pv 1) (@pe_lst _ _ _ _ (@pa_cons _ _ _ _ _ pe_str (@pa_cons _ _ _ _ _ (pe_ix ix_str (pv 0) pe_int (fun _ _ => rfl)) pa_nil star_S) star_K)) rfl)))) (@pss_one _ _ _ (@ps_ret _ _ _ _ pe_non)) pss_nil)
    (@pss_cons _ _ _ _ _ (ps_set (i := 1) scLP.nd rfl (Or.inl rfl) (pe_ix ix_str (pv 0) pe_int (fun _ _ => rfl)))
    (@pss_one _ _ _ (ps_set (i := 0) scLP.nd rfl (Or.inl rfl) (@pe_slice _ _ _ _ _ _ _ _ _ _ sl_str (pv 0) (po_some pe_int) po_none))))))))))))))))), ?_⟩
  refine seq_inv (fun σ L => σ = [some (.str z), some (.str (st ((cs z).take 1))), none, none] ∧ L = H) ?_ (fun N hN => ?_)
  rotate_left
  · simpa only [and_self]
    exact ⟨sm z hz, hN _ _ ⟨by rw [cut_to (by decide)]; rfl, rfl⟩⟩
  rintro σ L ⟨rfl, rfl⟩
  refine seq_inv (fun σ M => ∃ p0, σ = [some (.str z), some (.str (st ((cs z).take 1))), some (.ref p0), none] ∧ L p0 = none ∧ M = upd L p0 (.lst [])) ?_ (fun N hN => ?_)
  rotate_left
  · simpa only [and_self]
    exact ⟨by decide, fun p0 hp0 => hN _ _ ⟨p0, rfl, hp0, rfl⟩⟩
  rintro σ M ⟨p0, rfl, hp0, rfl⟩
  refine seq_inv (fun σ X => σ = [some (.str z), some (.str (st ((cs z).take 1))), some (.ref p0), none] ∧ Same (upd L p0 (.lst [])) X ∧ (((cs z).head? = some 38 ∨ (cs z).head? = some 124) → (cs z).tail.head? ≠ some 41)) ?_ (fun N hN => ?_)
  rotate_left
  · simpa only [tDGet, tDisp, tPairs, rIn]
    refine ⟨by decide, fun p hp => ⟨_, .inl (SqL.of upd_same), rfl, rfl, ?_⟩⟩
    have s0 : Same (upd L p0 (.lst [])) (upd (upd L p0 (.lst [])) p (.lst [V.str "&", V.str "|"])) := same_new hp _
    rw [inSetL csAmp csBar, cut12, hd_l csR]
    refine ite2 (fun c => ⟨sm z hz, ite2 (fun c2 pd hpd => ?_) (fun c2 => ?_)⟩) (fun c => ?_)
    · obtain ⟨b, hh⟩ : ∃ b, (cs z).head? = some (sg b) := by
        rw [Bool.or_eq_true] at c
        rcases c with c | c
        · exact ⟨true, of_decide_eq_true c⟩
        · exact ⟨false, of_decide_eq_true c⟩
      have c2' := of_decide_eq_true c2
      have hR : rBrk (rq tlL n) (cs z) = some (.bo b [], (cs z).tail.tail) := by
        rw [rBrk_sg hh]
        unfold rOne
        rw [if_pos c2']
      rw [take_sg hh, cut2]
      refine ⟨upd_same, kvP, rfl, by decide, _, (kvP_at b) ▸ DGet.k (k := .inr (sgS b)) upd_same, by decide, fun p2 hp2 => ⟨by decide, fun p3 hp3 => ⟨sm z hz, by decide, fun p4 hp4 => ?_⟩⟩⟩
      have sD : Same L (upd (upd (upd (upd L p0 (.lst [])) p (.lst [V.str "&", V.str "|"])) pd (.dK [])) pd (.dK (mergeK [] kvP))) := fun b' o h => by
        have h0 := s0 b' o (same_new hp0 _ b' o h)
        have n := ne_of_none h0 hpd
        rw [upd_ne n, upd_ne n]; exact h0
      generalize upd (upd (upd (upd L p0 (.lst [])) p (.lst [V.str "&", V.str "|"])) pd (.dK [])) pd (.dK (mergeK [] kvP)) = D at sD hp2 hp3 hp4
      have hp2' : L p2 = none := by
        cases h : L p2 with
        | none => rfl
        | some o => rw [sD p2 o h] at hp2; cases hp2
      obtain ⟨g1, g2, g3⟩ := finB (b := b) (qs := []) (y := .str (st (cs z).tail.tail)) (sD.trans (same_new hp2 _)) hp2' upd_same DeepTs.nil hp3 hp4
      exact q1 (.bo b []) (st (cs z).tail.tail) (by rw [ln_st, List.length_tail, List.length_tail, slen]; omega) hR p4 _ _ g1 g2 upd_same g3
    · exact hN _ _ ⟨rfl, s0, fun _ => of_decide_eq_false (Bool.eq_false_iff.mpr c2)⟩
    · refine hN _ _ ⟨rfl, s0, fun h => ?_⟩
      have c' := Bool.eq_false_iff.mpr c
      rw [Bool.or_eq_false_iff] at c'
      rcases h with h | h
      · exact absurd h (of_decide_eq_false c'.1)
      · exact absurd h (of_decide_eq_false c'.2)
  rintro σ X ⟨rfl, sX, n41⟩
  refine seq_inv (fun σ Y => ∃ v3, σ = [some (.str z), some (.str (st ((cs z).take 1))), some (.ref p0), v3] ∧ Same (upd L p0 (.lst [])) Y ∧ (cs z).head? ≠ some 38 ∧ (cs z).head? ≠ some 124) ?_ (fun N hN => ?_)
  rotate_left
  · simpa only [tDGet, tDisp, tPairs, rIn]
    refine ⟨by decide, fun p hp => ⟨_, .inl (SqL.of upd_same), rfl, rfl, ?_⟩⟩
    have s0 : Same (upd L p0 (.lst [])) (upd X p (.lst [V.str "&", V.str "|"])) := sX.trans (same_new hp _)
    have sLX : Same L (upd X p (.lst [V.str "&", V.str "|"])) := (same_new hp0 _).trans s0
    rw [inSetL csAmp csBar, cut12, hd_l csb, cut2]
    refine ite2 (fun c => ⟨sm z hz, ?_⟩) (fun c => ?_)
    rotate_left
    · have c' := Bool.eq_false_iff.mpr c
      rw [Bool.or_eq_false_iff] at c'
      exact hN _ _ ⟨_, rfl, s0, of_decide_eq_false c'.1, of_decide_eq_false c'.2⟩
    obtain ⟨b, hh⟩ : ∃ b, (cs z).head? = some (sg b) := by
      rw [Bool.or_eq_true] at c
      rcases c with c | c
      · exact ⟨true, of_decide_eq_true c⟩
      · exact ⟨false, of_decide_eq_true c⟩
    have m41 : (cs z).tail.head? ≠ some 41 := n41 (by
      rw [Bool.or_eq_true] at c
      rcases c with c | c
      · exact .inl (of_decide_eq_true c)
      · exact .inr (of_decide_eq_true c))
    rw [take_sg hh]
    refine ite2 (fun c2 => ⟨sm z hz, ?_⟩) (fun c2 => ?_)
    rotate_left
    · simp only [decide_true, if_true]
      refine q2 ?_ _ sLX
      rw [rBrk_sg hh]
      unfold rOne
      rw [if_neg m41, if_neg (of_decide_eq_false (Bool.eq_false_iff.mpr c2))]
    have hR : rBrk (rq tlL n) (cs z) = match rq tlL n (cs z).tail.tail with | none => none | some x => if x.2.head? = some 41 then some (.bo b [x.1], x.2.tail) else none := by
      rw [rBrk_sg hh]
      unfold rOne
      rw [if_neg m41, if_pos (of_decide_eq_true c2)]
      all_goals (cases rq tlL n (cs z).tail.tail <;> rfl)
    have hl2 : (cs z).tail.tail.length ≤ z.length := by rw [List.length_tail, List.length_tail, slen]; omega
    refine ⟨st (cs z).tail.tail, rfl, by rw [ln_st]; omega, ?_, fun q r hrl hw po x H1 s1 hpo h1 dx => ?_, fun hn H1 s1 => ?_⟩
    · have := cnt_le 2 hcn
      rwa [drop2] at this
    rotate_left
    · rw [cs_st] at hn
      rw [if_pos (by simp)]
      exact q2 (by rw [hR, hn]) _ (sLX.trans s1)
    rw [cs_st] at hw
    rw [ln_st (cs z).tail.tail] at hrl
    rw [hw] at hR
    refine ite2 (fun h => by simp at h) fun _ => ⟨po, rfl, _, SqT.of h1, _, rfl, r, rfl, sm r (by omega), ?_⟩
    rw [hd_is csR]
    refine ite2 (fun c3 => ?_) (fun c3 pd hpd => ?_)
    · exact q2 (by rw [hR]; exact if_neg (nb_t c3)) _ (sLX.trans s1)
    have c3' := nb_f c3
    have hR2 : rBrk (rq tlL n) (cs z) = some (.bo b [q], (cs r).tail) := by rw [hR]; exact if_pos c3'
    have npd : pd ≠ po := fun e => by rw [e, h1] at hpd; cases hpd
    have h1d : upd (upd H1 pd (.dK [])) pd (.dK (mergeK [] kvP)) po = some (.tup [x, .str r]) := by rw [upd_ne npd.symm, upd_ne npd.symm]; exact h1
    have sD : Same H1 (upd (upd H1 pd (.dK [])) pd (.dK (mergeK [] kvP))) := fun b' o h => by
      have n := ne_of_none h hpd
      rw [upd_ne n, upd_ne n]; exact h
    refine ⟨upd_same, kvP, rfl, by decide, _, (kvP_at b) ▸ DGet.k (k := .inr (sgS b)) upd_same, po, rfl, _, SqT.of h1d, _, rfl, by decide, fun p2 hp2 => ⟨by decide, fun p3 hp3 => ?_⟩⟩
    generalize upd (upd H1 pd (.dK [])) pd (.dK (mergeK [] kvP)) = D at sD h1d hp2 hp3
    have hn2 : p2 ≠ po := fun e => by rw [e, h1d] at hp2; cases hp2
    have hn3 : p3 ≠ po := fun e => by rw [e, upd_ne hn2.symm, h1d] at hp3; cases hp3
    refine ⟨po, rfl, _, SqT.of (by rw [upd_ne hn3.symm, upd_ne hn2.symm]; exact h1d), _, rfl, r, rfl, sm r (by omega), by decide, fun p5 hp5 => ?_⟩
    have sLD : Same L D := (sLX.trans s1).trans sD
    have hnL : ∀ b', D b' = none → L b' = none := fun b' e => by
      cases h : L b' with
      | none => rfl
      | some o => rw [sLD b' o h] at e; cases e
    rw [cut1]
    obtain ⟨g1, g2, g3⟩ := finB (b := b) (qs := [q]) (xs := [x]) (y := .str (st (cs r).tail)) (sLD.trans (same_new hp2 _)) (hnL _ hp2) upd_same (DeepTs.one (DeepT.same (fun b' o e => by
      obtain ⟨e1, e2⟩ := nw_some e
      have n2 : b' ≠ p2 := ne_of_none (sD b' o e2) hp2
      have eL : L b' = none := by
        cases h : L b' with
        | none => rfl
        | some u => rw [sLX b' u h] at e1; cases e1
      rw [if_neg n2, nw_at eL, upd_ne n2]
      exact sD b' o e2) _ _ dx)) hp3 hp5
    exact q1 (.bo b [q]) (st (cs r).tail) (by rw [ln_st, List.length_tail, slen]; omega) hR2 p5 _ _ g1 g2 upd_same g3
  rintro σ Y ⟨v3, rfl, sY, n38, n124⟩
  refine seq_inv (fun σ X => σ = [some (.str z), some (.str ""), some (.ref p0), v3] ∧ X = Y) ?_ (fun N hN => ?_)
  rotate_left
  · simpa only [and_self]
    exact hN _ _ ⟨rfl, rfl⟩
  rintro σ X ⟨rfl, rfl⟩
  simp only [tIfS, tAnd, tOr, tNot, tB, tVar, tTest, tOp, tC, tUn, tCB, tCons, tNil, rI0, rI, rU, rNe, rEq, scal, rAppend, tBM, tDrop, tAsg, gName, tRet, tNext, List.set_cons_zero, List.set_cons_succ, List.getElem?_cons_zero, List.getElem?_cons_succ, Option.some.injEq, V.int.injEq, V.bl.injEq, V.ref.injEq, V.str.injEq, exists_eq_left', exists_eq_left, exists_and_left, List.cons.injEq, and_true, true_and, and_assoc, exists_const, L2.start, List.map_cons, List.map_nil, List.length_cons, List.length_nil, List.replicate_succ, List.replicate_zero, List.cons_append, List.nil_append, List.append_nil, Nat.reduceAdd, Nat.reduceSub, tFor_eq, tComp_eq, tWhile_eq, tChain, tAug, ipI, rIxS, rSlS, rLower, rIndex, rPop, rCat, tBM0, gSub, rSetL, tSl, tPart, tNoPart, rSlL, tCall, tLst, tTup, iRng1, iRng2, iRng3, iList, iEnum, gTup, gCons, gNil, rIxL, rIxT, tYes, tAndV, tOrV, tNotV, tIf, tTest, exists_eq', List.ne_cons_self, reduceCtorEq, if_true, if_false, and_false, false_and]
  have hX0 : X p0 = some (.lst []) := sY p0 _ upd_same
  have sLX : Same L X := (same_new hp0 _).trans sY
  refine ⟨wLP (rq tlL n) n L p0 z, ⟨_, z, "", [], [], _, rfl, by simpa using hz, Nat.le_refl _, hcn, rfl, hX0, sLX, DeepTs.nil, .inl ⟨rfl, rfl, rfl⟩⟩, ?_⟩
  rintro m σ M ⟨l, sgn, acc, xs, v3', rfl, hal, hlz, hcl, rfl, hMp, sM, dM, hst⟩
  simp only [tIfS, tAnd, tOr, tNot, tB, tVar, tTest, tOp, tC, tUn, tCB, tCons, tNil, rI0, rI, rU, rNe, rEq, scal, rAppend, tBM, tDrop, tAsg, gName, tRet, tNext, List.set_cons_zero, List.set_cons_succ, List.getElem?_cons_zero, List.getElem?_cons_succ, Option.some.injEq, V.int.injEq, V.bl.injEq, V.ref.injEq, V.str.injEq, exists_eq_left', exists_eq_left, exists_and_left, List.cons.injEq, and_true, true_and, and_assoc, exists_const, L2.start, List.map_cons, List.map_nil, List.length_cons, List.length_nil, List.replicate_succ, List.replicate_zero, List.cons_append, List.nil_append, List.append_nil, Nat.reduceAdd, Nat.reduceSub, tFor_eq, tComp_eq, tWhile_eq, tChain, tAug, ipI, rIxS, rSlS, rLower, rIndex, rPop, rCat, tBM0, gSub, rSetL, tSl, tPart, tNoPart, rSlL, tCall, tLst, tTup, iRng1, iRng2, iRng3, iList, iEnum, gTup, gCons, gNil, rIxL, rIxT, tYes, tAndV, tOrV, tNotV, tIf, tTest, exists_eq', List.ne_cons_self, reduceCtorEq, if_true, if_false, and_false, false_and]
  refine ⟨_, fun _ _ h => h, ?_⟩
  refine seq_inv (fun σ H1 => (∃ (q : Qn) (r : Str) (po : Addr) (x : V), σ = [some (.str l), some (.str sgn), some (.ref p0), some (.ref po)] ∧ rq tlL n (cs l) = some (q, cs r) ∧ r.length ≤ l.length ∧ Same M H1 ∧ H1 po = some (.tup [x, .str r]) ∧ M po = none ∧ DeepT (nw M H1) (dvQ q) x) ∨ (σ = [some (.str l), some (.str sgn), some (.ref p0), some .non] ∧ rq tlL n (cs l) = none ∧ Same M H1)) ?_ (fun N hN => ?_)
  rotate_left
  · simpa only [and_self]
    exact ⟨l, rfl, by omega, hcl, fun q r hrl hw po x H1 s1 hpo h1 dx => hN _ _ (.inl ⟨q, r, po, x, rfl, hw, hrl, s1, h1, hpo, dx⟩), fun hn H1 s1 => hN _ _ (.inr ⟨rfl, hn, s1⟩)⟩
  rintro σ H1 h
  refine seq_inv (fun σ Y => ∃ (q : Qn) (r : Str) (po : Addr) (x : V), σ = [some (.str l), some (.str sgn), some (.ref p0), some (.ref po)] ∧ rq tlL n (cs l) = some (q, cs r) ∧ r.length ≤ l.length ∧ Same M Y ∧ Y po = some (.tup [x, .str r]) ∧ M po = none ∧ DeepT (nw M Y) (dvQ q) x) ?_ (fun N hN => ?_)
  rotate_left
  · rcases h with ⟨q, r, po, x, rfl, h⟩ | ⟨rfl, hn, s1⟩
    · simpa only [and_self]
      exact ite2 (fun h => by simp at h) fun _ => hN _ _ ⟨q, r, po, x, rfl, h⟩
    · simpa only [decide_true, if_true]
      refine q2 ?_ _ (sM.trans s1)
      rcases hst with ⟨_, _, rfl⟩ | ⟨b, q, acc', nn, _, _, _, hR⟩
      · rw [brk_two n38 n124, hn]
      · rw [hR, lstA_none hn]; rfl
  clear h H1 σ
  rintro σ H1 ⟨q, r, po, x, rfl, hw, hrl, s1, h1, hpo, dx⟩
  have hp01 : H1 p0 = some (.lst xs) := s1 _ _ hMp
  have npo : po ≠ p0 := fun e => by rw [e, hMp] at hpo; cases hpo
  have hxl : xs.length = acc.length := by rw [DeepTs.length dM, List.length_map]
  refine seq_inv (fun σ Y => σ = [some (.str l), some (.str sgn), some (.ref p0), some (.ref po)] ∧ Y = upd H1 p0 (.lst (xs ++ [x]))) ?_ (fun N hN => ?_)
  rotate_left
  · simpa only [and_self]
    refine ⟨.inl ⟨rfl, _, SqL.of hp01⟩, _, SqT.of h1, _, rfl, _, hp01, small (by omega), hN _ _ ⟨rfl, rfl⟩⟩
  rintro σ Y ⟨rfl, hY⟩
  have hYo : Y po = some (.tup [x, .str r]) := by rw [hY, upd_ne npo]; exact h1
  have hYp : Y p0 = some (.lst (xs ++ [x])) := by rw [hY, upd_same]
  have sY2 : Same L Y := fun b' o h => by
    rw [hY, upd_ne (ne_of_none h hp0)]; exact s1 _ _ (sM b' o h)
  have dY : DeepTs (fun b => if b = p0 then none else nw L Y b) ((acc ++ [q]).map dvQ) (xs ++ [x]) := by
    rw [List.map_append]
    refine deeps_snoc (DeepTs.same (fun b' o e => ?_) _ _ dM) (DeepT.same (fun b' o e => ?_) _ _ dx)
    · by_cases c : b' = p0
      · rw [if_pos c] at e; cases e
      · rw [if_neg c] at e ⊢
        obtain ⟨e1, e2⟩ := nw_some e
        rw [nw_at e1, hY, upd_ne c]
        exact s1 _ _ e2
    · obtain ⟨e1, e2⟩ := nw_some e
      have c : b' ≠ p0 := fun q => by rw [q, hMp] at e1; cases e1
      have eL : L b' = none := by
        cases h : L b' with
        | none => rfl
        | some u => rw [sM b' u h] at e1; cases e1
      rw [if_neg c, nw_at eL, hY, upd_ne c]
      exact e2
  refine seq_inv (fun σ Z => σ = [some (.str r), some (.str sgn), some (.ref p0), some (.ref po)] ∧ Z = Y) ?_ (fun N hN => ?_)
  rotate_left
  · simpa only [and_self]
    exact ⟨_, SqT.of hYo, _, rfl, hN _ _ ⟨rfl, rfl⟩⟩
  clear hYo
  rintro σ Z ⟨rfl, rfl⟩
  refine seq_inv (fun σ X => σ = [some (.str r), some (.str sgn), some (.ref p0), some (.ref po)] ∧ X = Z ∧ (acc ≠ [] → (cs r).head? ≠ some 41)) ?_ (fun N hN => ?_)
  rotate_left
  · simpa only [tDGet, tDisp, tPairs]
    rw [hd_is csR, cut1]
    refine ⟨sm r (by omega), ite2 (fun c => ⟨_, .inl (SqL.of hYp), ite2 (fun c2 pd hpd => ?_) (fun c2 => hN _ _ ⟨rfl, rfl, fun hne => ?_⟩)⟩) (fun c => hN _ _ ⟨rfl, rfl, fun _ => of_decide_eq_false (Bool.eq_false_iff.mpr c)⟩)⟩
    rotate_left
    · exfalso
      have c2' := of_decide_eq_false (Bool.eq_false_iff.mpr c2)
      rw [List.length_append, hxl] at c2'
      have := List.length_pos_iff.mpr hne
      simp at c2'
      omega
    have c' := of_decide_eq_true c
    have c2' := of_decide_eq_true c2
    rw [List.length_append, hxl] at c2'
    rcases hst with ⟨rfl, _, _⟩ | ⟨b, q0, acc', nn, rfl, rfl, hnn, hR⟩
    · simp at c2'
    rw [List.length_cons] at hal
    obtain ⟨n', rfl⟩ : ∃ n', nn = n' + 1 := ⟨nn - 1, by omega⟩
    have n32 : (cs r).take 3 ≠ [32, sg b, 32] := fun e => by
      cases hr' : cs r with
      | nil => rw [hr'] at c'; cases c'
      | cons a m =>
        rw [hr'] at c' e
        have h1 : a = 41 := Option.some.inj c'
        have h2 : a = 32 := (List.cons.inj e).1
        omega
    have hR2 : rBrk (rq tlL n) (cs z) = some (.bo b (q0 :: (acc' ++ [q])), (cs r).tail) := by
      rw [hR, lstA_some hw, if_neg (by rw [pfx_no n32]; exact Bool.false_ne_true)]
      exact if_pos c'
    have npd : pd ≠ p0 := fun e => by rw [e, hYp] at hpd; cases hpd
    have sD : Same Z (upd (upd Z pd (.dK [])) pd (.dK (mergeK [] kvP))) := fun b' o h => by
      have n := ne_of_none h hpd
      rw [upd_ne n, upd_ne n]; exact h
    have dD : DeepTs (fun b => if b = p0 then none else nw L (upd (upd Z pd (.dK [])) pd (.dK (mergeK [] kvP))) b) ((q0 :: acc' ++ [q]).map dvQ) (xs ++ [x]) := DeepTs.same (fun b' o e => by
      by_cases c : b' = p0
      · rw [if_pos c] at e; cases e
      · rw [if_neg c] at e ⊢
        obtain ⟨e1, e2⟩ := nw_some e
        rw [nw_at e1]
        exact sD _ _ e2) _ _ dY
    refine ⟨upd_same, kvP, rfl, by decide, _, (kvP_at b) ▸ DGet.k (k := .inr (sgS b)) upd_same, by decide, fun p3 hp3 => ⟨sm r (by omega), by decide, fun p4 hp4 => ?_⟩⟩
    have hDp := sD _ _ hYp
    generalize upd (upd Z pd (.dK [])) pd (.dK (mergeK [] kvP)) = D at sD dD hp3 hp4 hDp
    obtain ⟨g1, g2, g3⟩ := finB (b := b) (qs := q0 :: acc' ++ [q]) (y := .str (st (cs r).tail)) (sY2.trans sD) hp0 hDp dD hp3 hp4
    exact q1 (.bo b (q0 :: (acc' ++ [q]))) (st (cs r).tail) (by rw [ln_st, List.length_tail, slen]; omega) hR2 p4 _ _ g1 g2 upd_same g3
  rintro σ X ⟨rfl, rfl, hno⟩
  refine seq_inv (fun σ Y => ∃ b, σ = [some (.str r), some (.str sgn), some (.ref p0), some (.ref po)] ∧ Same X Y ∧ (cs r).take 3 = [32, sg b, 32] ∧ (sgn = "" ∨ sgn = sgS b)) ?_ (fun N hN => ?_)
  rotate_left
  · simpa only [rIn]
    have none_ : (∀ b, (cs r).take 3 = [32, sg b, 32] → ∃ b0, sgn = sgS b0 ∧ b0 ≠ b) → ∀ H', Same L H' → Q .non H' := fun hb => q2 (by
      rcases hst with ⟨rfl, rfl, rfl⟩ | ⟨b, q0, acc', nn, rfl, rfl, hnn, hR⟩
      · have no : ∀ b, (cs r).take 3 ≠ [32, sg b, 32] := fun b e => by
          obtain ⟨b0, h, _⟩ := hb b e
          exact sgS_ne b0 h.symm
        rw [brk_two n38 n124, hw]
        show rTwo _ q (pre " & " (cs r)) (cs r) = none
        unfold rTwo
        rw [pfx_no (no _), if_neg Bool.false_ne_true]
      · rw [List.length_cons] at hal
        obtain ⟨n', rfl⟩ : ∃ n', nn = n' + 1 := ⟨nn - 1, by omega⟩
        have no : (cs r).take 3 ≠ [32, sg b, 32] := fun e => by
          obtain ⟨b0, h, hn⟩ := hb b e
          exact hn (sgS_inj h).symm
        rw [hR, lstA_some hw, if_neg (by rw [pfx_no no]; exact Bool.false_ne_true)]
        exact if_neg (hno (List.cons_ne_nil _ _)))
    refine ⟨sm r (by omega), by decide, fun p hp => ⟨_, .inl (SqL.of upd_same), rfl, rfl, ?_⟩⟩
    have s0 : Same X (upd X p (.lst [V.str " & ", V.str " | "])) := same_new hp _
    rw [cut3, in3]
    refine ite2 (fun c => ?_) (fun c => ?_)
    · refine none_ (fun b e => ?_) _ (sY2.trans s0)
      exfalso
      rw [e] at c
      cases b <;> exact absurd c (by decide)
    obtain ⟨b, ht⟩ : ∃ b, (cs r).take 3 = [32, sg b, 32] := by
      have c' : (decide ((cs r).take 3 = [32, 38, 32]) || decide ((cs r).take 3 = [32, 124, 32])) = true := by
        cases h : (decide ((cs r).take 3 = [32, 38, 32]) || decide ((cs r).take 3 = [32, 124, 32])) with
        | true => rfl
        | false => rw [h] at c; exact absurd rfl c
      rw [Bool.or_eq_true] at c'
      rcases c' with h | h
      · exact ⟨true, of_decide_eq_true h⟩
      · exact ⟨false, of_decide_eq_true h⟩
    have hat : atI (cs r) 1 = some (sg b) := by
      have : (cs r)[1]? = some (sg b) := by
        have h2 : ((cs r).take 3)[1]? = some (sg b) := by rw [ht]; rfl
        rwa [List.getElem?_take_of_lt (by decide)] at h2
      exact atI_nat this
    refine ⟨sm r (by omega), sg b, hat, by decide, fun p1 hp1 => ⟨_, .inl (SqL.of upd_same), rfl, rfl, ?_⟩⟩
    have s1' := s0.trans (same_new hp1 (.lst [V.str "", V.str ⟨#[sg b]⟩]))
    have eS : (⟨#[sg b]⟩ : Str) = sgS b := sExt (cs_sg b).symm
    refine ite2 (fun c2 => ?_) (fun c2 => ?_)
    · refine none_ (fun b' e => ?_) _ (sY2.trans s1')
      have hbb : b' = b := by
        rw [ht] at e
        have := (List.cons.inj (List.cons.inj e).2).1
        cases b <;> cases b' <;> first | rfl | exact absurd this (by decide)
      subst hbb
      have c3 : (("" == sgn) || ((⟨#[sg b']⟩ == sgn) || false)) = false := by
        have : inV (.str sgn) [V.str "", V.str ⟨#[sg b']⟩] = (("" == sgn) || ((⟨#[sg b']⟩ == sgn) || false)) := rfl
        rw [← this]
        cases h : inV (.str sgn) [V.str "", V.str ⟨#[sg b']⟩] with
        | false => rfl
        | true => rw [h] at c2; cases c2
      rw [Bool.or_false, Bool.or_eq_false_iff] at c3
      rcases hst with ⟨rfl, rfl, rfl⟩ | ⟨b0, q0, acc', nn, rfl, rfl, hnn, hR⟩
      · exact absurd c3.1 (by decide +kernel)
      · refine ⟨b0, rfl, fun e => ?_⟩
        rw [e, eS] at c3
        exact absurd c3.2 (by simp)
    · refine hN _ _ ⟨b, rfl, s1', ht, ?_⟩
      have c3 : inV (.str sgn) [V.str "", V.str ⟨#[sg b]⟩] = true := by
        cases h : inV (.str sgn) [V.str "", V.str ⟨#[sg b]⟩] with
        | true => rfl
        | false => rw [h] at c2; exact absurd rfl c2
      have c4 : (("" == sgn) || ((⟨#[sg b]⟩ == sgn) || false)) = true := c3
      rw [Bool.or_false, Bool.or_eq_true] at c4
      rcases c4 with h | h
      · exact .inl (beq_iff_eq.mp h).symm
      · exact .inr (by rw [← eS]; exact (beq_iff_eq.mp h).symm)
  rintro σ Y ⟨b, rfl, sXY, ht, hsg⟩
  simpa only [and_self]
  have hat : atI (cs r) 1 = some (sg b) := by
    have : (cs r)[1]? = some (sg b) := by
      have h2 : ((cs r).take 3)[1]? = some (sg b) := by rw [ht]; rfl
      rwa [List.getElem?_take_of_lt (by decide)] at h2
    exact atI_nat this
  have hr3 : 3 ≤ r.length := by
    have := congrArg List.length ht
    rw [List.length_take, slen] at this
    simp at this
    omega
  have eS : (⟨#[sg b]⟩ : Str) = sgS b := sExt (cs_sg b).symm
  rw [cut3']
  have hl3 : (st ((cs r).drop 3)).length = r.length - 3 := by rw [ln_st, List.length_drop, slen]
  have hpf := pfx.mpr ht
  refine ⟨sm r (by omega), sg b, hat, sm r (by omega), (st ((cs r).drop 3)).length, by omega, st ((cs r).drop 3), ⟨#[sg b]⟩, acc ++ [q], xs ++ [x], _, rfl, by rw [List.length_append]; simp only [List.length_cons, List.length_nil]; omega, by omega, ?_, rfl, sXY _ _ hYp, sY2.trans sXY, ?_, .inr ?_⟩
  · exact Nat.le_trans (cnt_sfx ((List.drop_suffix _ _).trans (sfx_rq sfx_tl n _ _ hw))) hcl
  · refine DeepTs.same (fun b' o e => ?_) _ _ dY
    by_cases c : b' = p0
    · rw [if_pos c] at e; cases e
    · rw [if_neg c] at e ⊢
      obtain ⟨e1, e2⟩ := nw_some e
      rw [nw_at e1]
      exact sXY _ _ e2
  · rcases hst with ⟨rfl, rfl, rfl⟩ | ⟨b0, q0, acc', nn, rfl, rfl, hnn, hR⟩
    · refine ⟨b, q, [], 401, rfl, eS, rfl, ?_⟩
      have hpre : pre " & " (cs r) = b := by
        rw [pre_amp]
        cases b with
        | true => exact hpf
        | false => exact pfx_no (fun e => by rw [ht] at e; exact absurd e (by decide))
      rw [brk_two n38 n124, hw]
      show rTwo _ q (pre " & " (cs r)) (cs r) = _
      rw [hpre, two_fin hpf]
    · have hbb : b0 = b := by
        rcases hsg with h | h
        · exact absurd h (sgS_ne b0)
        · exact sgS_inj h
      subst hbb
      rw [List.length_cons] at hal
      obtain ⟨n', rfl⟩ : ∃ n', nn = n' + 1 := ⟨nn - 1, by omega⟩
      refine ⟨b0, q0, acc' ++ [q], n', rfl, eS, by rw [List.length_append]; simp only [List.length_cons, List.length_nil]; omega, ?_⟩
      rw [hR, lstA_some hw, if_pos hpf]
      rfl
theorem ok_lrs {g ga gp : Addr} {gd da dp : FuncData} (F : Fun K "_law_read" "_law_read" sLR f fd) (T : Txt mg) (bLR : Binds K fd ["_law_line"] []) (mLR : mg "_law_read" = some (.ref f)) (GRu : FnOk P w K mg base CX0 1 g gd ["_law_line", "_law_signs"] spRun) (bRu : Binds K gd ["_law_line", "_law_signs"] []) (kRu : PySem.W.keepIn K (.ref g) = true) (mRu : mg "_law_run" = some (.ref g))
    (GLA : FnOk P w K mg base CX0 3 ga da ["_law_field_here", "_law_line"] spLA) (bLA : Binds K da ["_law_field_here", "_law_line"] []) (kLA : PySem.W.keepIn K (.ref ga) = true) (mLA : mg "_law_asked" = some (.ref ga))
    (FP : Fun K "_law_put" "_law_put" sLP gp dp) (bLP : Binds K dp ["_law_line"] []) (mLP : mg "_law_put" = some (.ref gp)) : ∀ n, FnOk P w K mg base CX0 (2 * n + 4) f fd ["_law_line"] (spLR n)
  | 0 => ok_lr1 (k := 0) (n := 0) F T GRu bRu kRu mRu GLA bLA kLA mLA (SQ := fun _ _ _ _ => False) (SB := fun _ _ _ _ => False) fn_false bLR mLR (gp := gp) fn_false bLP FP.kp mLP (fun m e => by cases e)
  | n + 1 => by
    have ih := ok_lrs F T bLR mLR GRu bRu kRu mRu GLA bLA kLA mLA FP bLP mLP n
    have LP := ok_lp (k := 2 * n) FP T ih bLR F.kp mLR
    exact ok_lr1 (k := 2 * n + 2) (n := n + 1) F T GRu bRu kRu mRu GLA bLA kLA mLA ih bLR mLR LP bLP FP.kp mLP (fun m e => by cases e; exact ⟨rfl, rfl⟩)
end
def bnd : Nat → Nat
  | 0 => 4
  | 1 => 9
  | 2 => 18
  | _ => 27
def Stp (l l' : List Nat) : Prop := l'.length ≤ l.length + 9 ∧ cnt l' ≤ cnt l + 9 ∧ cnt l' ≤ 2 * cnt l + 1
theorem cnt_app (a b : List Nat) : cnt (a ++ b) = cnt a + cnt b := List.countP_append
theorem cnt_len (a : List Nat) : cnt a ≤ a.length := List.countP_le_length
theorem cnt_split (l : List Nat) (a : Nat) : cnt (l.take a) + cnt (l.drop a) = cnt l := by rw [← cnt_app, List.take_append_drop]
theorem stp_0 (l : List Nat) (a : Nat) : Stp l (l.take a ++ l.drop (a + 1)) := by
  have h1 := cnt_split l a
  have h2 := cnt_drop (l := l) a (a + 1) (by omega)
  refine ⟨?_, ?_, ?_⟩
  · rw [List.length_append, List.length_take, List.length_drop]; omega
  · rw [cnt_app]; omega
  · rw [cnt_app]; omega
theorem stp_1 (l : List Nat) (a c : Nat) : Stp l (l.take a ++ [c] ++ l.drop a) := by
  have h1 := cnt_split l a
  have h2 := cnt_len [c]
  rw [List.length_singleton] at h2
  refine ⟨?_, ?_, ?_⟩
  · rw [List.length_append, List.length_append, List.length_take, List.length_drop, List.length_singleton]; omega
  · rw [cnt_app, cnt_app]; omega
  · rw [cnt_app, cnt_app]; omega
theorem stp_2 (l : List Nat) (a c : Nat) : Stp l (l.take a ++ [c] ++ l.drop (a + 1)) := by
  have h1 := cnt_split l a
  have h2 := cnt_len [c]
  have h3 := cnt_drop (l := l) a (a + 1) (by omega)
  rw [List.length_singleton] at h2
  refine ⟨?_, ?_, ?_⟩
  · rw [List.length_append, List.length_append, List.length_take, List.length_drop, List.length_singleton]; omega
  · rw [cnt_app, cnt_app]; omega
  · rw [cnt_app, cnt_app]; omega
theorem stp_3 (l : List Nat) (a k : Nat) (hk : k ≤ 9) : Stp l (l.take a ++ (l.drop a).take k ++ l.drop a) := by
  have h1 := cnt_split l a
  have h2 := cnt_len ((l.drop a).take k)
  have h3 := cnt_split (l.drop a) k
  rw [List.length_take] at h2
  refine ⟨?_, ?_, ?_⟩
  · rw [List.length_append, List.length_append, List.length_take, List.length_take, List.length_drop]; omega
  · rw [cnt_app, cnt_app]; omega
  · rw [cnt_app, cnt_app]; omega
abbrev sgT : Str := "~:!&|()<>[]\"*? abz059X"
theorem sgT_len : sgT.length = 22 := by decide +kernel
def spSpo : Sp := fun vs H Q _ => ∃ (z : Str) (d : Addr) (ns : List Int), vs = [.str z, .ref d] ∧ H d = some (.lst (ns.map V.int)) ∧ z.length ≤ 5000 ∧ cnt (cs z) ≤ 4 ∧ ∀ (z' : Str) H', SameX d H H' → z'.length ≤ 400 → cnt (cs z') ≤ 27 → Q (.str z') H'
section
variable {P : Program} {w : World} {K : PySem.W.Frag} {mg : Str → Option Value} {base : Heap} {f : Addr} {fd : FuncData}
theorem scSpo : FnScope ["_law_line", "_law_draws_here", "_law_signs", "_law_k", "_law_number", "_law_at", "_law_sign", "_law_kind", "_law_more"] ["_law_line", "_law_draws_here"] (defScope sSpo) := ⟨rfl, rfl, rfl, by decide +kernel, rfl, by decide +kernel, by decide +kernel⟩
set_option maxHeartbeats 4000000 in
theorem ok_spo {gp : Addr} {dp : FuncData} (F : Fun K "_law_spoilt" "_law_spoilt" sSpo f fd) (T : Txt mg) (GP : FnOk P w K mg base CX0 1 gp dp ["_law_draws_here"] spPop) (bP : Binds K dp ["_law_draws_here"] []) (kP : PySem.W.keepIn K (.ref gp) = true) (mP : mg "_law_pop" = some (.ref gp)) : FnOk P w K mg base CX0 2 f fd ["_law_line", "_law_draws_here"] spSpo := by
  refine F.ok scSpo (fun vs H Q E h => ?_) (fun cdv A outer s H vs Q E hr h => ?_)
  · obtain ⟨z, d, ns, rfl, _⟩ := h
    rfl
  obtain ⟨z, d, ns, rfl, hd, hz, hc, q⟩ := h
  refine ⟨_, (@pss_cons _ _ _ _ _ (ps_set (i := 2) scSpo.nd rfl (Or.inl rfl) pe_str)
    (@pss_cons _ _ _ _ _ (ps_for PassesOwn.never rfl (pi_range1 rfl T.range (pa_cons (pe_op op_mod (pe_call GP hr rfl mP kP bP .nil pass0 (pa_cons (pv 1) pa_nil)) pe_int) pa_nil)) (pg_name (i := 3) scSpo.nd rfl (Or.inl rfl))
      (@pss_cons _ _ _ _ _ (ps_set (i := 4) scSpo.nd rfl (Or.inl rfl) (pe_call GP hr rfl mP kP bP .nil pass0 (pa_cons (pv 1) pa_nil)))
    (@pss_cons _ _ _ _ _ (ps_set (i := 5) scSpo.nd rfl (Or.inl rfl) (pe_op op_mod (pv 4) (pe_op op_add (pe_callB call_len_str rfl T.len PySem.boot_len (pa_cons (pv 0) pa_nil)) pe_int)))
    (@pss_cons _ _ _ _ _ (ps_set (i := 6) scSpo.nd rfl (Or.inl rfl) (pe_ix ix_str (pv 2) (pe_op op_mod (pe_op op_fdiv (pv 4) pe_int) (pe_callB call_len_str rfl T.len PySem.boot_len (pa_cons (pv 2) pa_nil))) (fun _ _ => rfl)))
    (@pss_cons _ _ _ _ _ (ps_set (i := 7) scSpo.nd rfl (Or.inl rfl) (pe_op op_mod (pe_op op_fdiv (pv 4) pe_int) pe_int))
    (@pss_cons _ _ _ _ _ (@ps_if _ _ _ _ _ _ _ _ (@pt_cmpR _ _ _ _ _ _ _ _ op_eq (pv 7) pe_int (nomark _)) (@pss_one _ _ _ (ps_set (i := 0) scSpo.nd rfl (Or.inl rfl) (pe_op op_add_str (@pe_slice _ _ _ _ _ _ _ _ _ _ sl_str (pv 0) po_none (po_some (pv 5))) (@pe_slice _ _ _ _ _ _ _ _ _ _ sl_str (pv 0) (po_some (pe_op op_add (pv 5) pe_int)) po_none)))) pss_nil)
    (@pss_cons _ _ _ _ _ (@ps_if _ _ _ _ _ _ _ _ (@pt_cmpR _ _ _ _ _ _ _ _ op_eq (pv 7) pe_int (nomark _)) (@pss_one _ _ _ (ps_set (i := 0) scSpo.nd rfl (Or.inl rfl) (pe_op op_add_str (pe_op op_add_str (@pe_slice _ _ _ _ _ _ _ _ _ _ sl_str (pv 0) po_none (po_some (pv 5))) (pv 6)) (@pe_slice _ _ _ _ _ _ _ _ _ _ sl_str (pv 0) (po_some (pv 5)) po_none)))) pss_nil)
    (@pss_cons _ _ _ _ _ (@ps_if _ _ _ _ _ _ _ _ (@pt_cmpR _ _ _ _ _ _ _ _ op_eq (pv 7) pe_int (nomark _)) (@pss_one _ _ _ (ps_set (i := 0) scSpo.nd rfl (Or.inl rfl) (pe_op op_add_str (pe_op op_add_str (@pe_slice _ _ _ _ _ _ _ _ _ _ sl_str (pv 0) po_none (po_some (pv 5))) (pv 6)) (@pe_slice _ _ _ _ _ _ _ _ _ _ sl_str (pv 0) (po_some (pe_op op_add (pv 5) pe_int)) po_none)))) pss_nil)
    (@pss_one _ _ _ (@ps_if _ _ _ _ _ _ _ _ (@pt_cmpR _ _ _ _ _ _ _ _ op_eq (pv 7) pe_int (nomark _)) (@pss_cons _ _ _ _ _ (ps_set (i := 8) scSpo.nd rfl (Or.inl rfl) (@pe_slice _ _ _ _ _ _ _ _ _ _ sl_str (pv 0) (po_some (pv 5)) (po_some (pe_op op_add (pe_op op_add (pv 5) pe_int) (pe_op op_mod (pe_op op_fdiv (pv 4) pe_int) pe_int)))))
    (@pss_one _ _ _ (ps_set (i := 0) scSpo.nd rfl (Or.inl rfl) (pe_op op_add_str (pe_op op_add_str (@pe_slice _ _ _ _ _ _ _ _ _ _ sl_str (pv 0) po_none (po_some (pv 5))) (pv 8)) (@pe_slice _ _ _ _ _ _ _ _ _ _ sl_str (pv 0) (po_some (pv 5)) po_none))))) pss_nil))))))))))
    (@pss_one _ _ _ (@ps_ret _ _ _ _ (@pe_slice _ _ _ _ _ _ _ _ _ _ sl_str (pv 0) po_none (po_some pe_int)))))), ?_⟩
  refine seq_inv (fun σ L => σ = [some (.str z), some (.ref d), some (.str "~:!&|()<>[]\"*? abz059X"), none, none, none, none, none, none] ∧ L = H) ?_ (fun N hN => ?_)
  rotate_left
  · simpa only [and_self]
    exact hN _ _ ⟨rfl, rfl⟩
  rintro σ L ⟨rfl, rfl⟩
  refine seq_inv (fun σ X => ∃ (l : Str) (v3 v4 v5 v6 v7 v8 : Option V), σ = [some (.str l), some (.ref d), some (.str "~:!&|()<>[]\"*? abz059X"), v3, v4, v5, v6, v7, v8] ∧ SameX d L X ∧ l.length ≤ 6000 ∧ cnt (cs l) ≤ 27) ?_ (fun N hN => ?_)
  rotate_left
  · simpa only [and_self]
    refine ⟨d, ns, rfl, hd, fun H1 s1 e1 => ⟨_, rfl, by decide, by omega, by omega, ?_⟩⟩
    have hm4 : (lst0 ns % 4).toNat ≤ 3 := by omega
    refine forW_range (lo := 0) (fun i σ M => ∃ (l : Str) (ns' : List Int) (v3 v4 v5 v6 v7 v8 : Option V), σ = [some (.str l), some (.ref d), some (.str sgT), v3, v4, v5, v6, v7, v8] ∧ SameX d L M ∧ M d = some (.lst (ns'.map V.int)) ∧ l.length ≤ 5000 + 9 * i ∧ cnt (cs l) ≤ bnd i) ⟨z, _, _, _, _, _, _, _, rfl, s1, e1, by omega, hc⟩ ?_ ?_
    · rintro i σ M hi ⟨l, ns', v3, v4, v5, v6, v7, v8, rfl, sM, hM, hl, hcl⟩
      simp only [tIfS, tAnd, tOr, tNot, tB, tVar, tTest, tOp, tC, tUn, tCB, tCons, tNil, rI0, rI, rU, rNe, rEq, scal, rAppend, tBM, tDrop, tAsg, gName, tRet, tNext, List.set_cons_zero, List.set_cons_succ, List.getElem?_cons_zero, List.getElem?_cons_succ, Option.some.injEq, V.int.injEq, V.bl.injEq, V.ref.injEq, V.str.injEq, exists_eq_left', exists_eq_left, exists_and_left, List.cons.injEq, and_true, true_and, and_assoc, exists_const, L2.start, List.map_cons, List.map_nil, List.length_cons, List.length_nil, List.replicate_succ, List.replicate_zero, List.cons_append, List.nil_append, List.append_nil, Nat.reduceAdd, Nat.reduceSub, tFor_eq, tComp_eq, tWhile_eq, tChain, tAug, ipI, rIxS, rSlS, rLower, rIndex, rPop, rCat, tBM0, gSub, rSetL, tSl, tPart, tNoPart, rSlL, tCall, tLst, tTup, iRng1, iRng2, iRng3, iList, iEnum, gTup, gCons, gNil, rIxL, rIxT, tYes, tAndV, tOrV, tNotV, tIf, tTest, exists_eq', List.ne_cons_self, reduceCtorEq, if_true, if_false, and_false, false_and]
      have hi3 : i ≤ 2 := by omega
      have ll : l.length ≤ sizeLine := le_line (by omega)
      refine seq_inv (fun σ X => ∃ num : Int, σ = [some (.str l), some (.ref d), some (.str sgT), some (.int (0 + (i : Int))), some (.int num), v5, v6, v7, v8] ∧ SameX d L X ∧ X d = some (.lst (ns'.dropLast.map V.int))) ?_ (fun N hN => ?_)
      rotate_left
      · simpa only [and_self]
        exact ⟨d, ns', rfl, hM, fun H2 s2 e2 => hN _ _ ⟨_, rfl, sM.trans s2, e2⟩⟩
      rintro σ X ⟨num, rfl, sX, hX⟩
      refine seq_inv (fun σ Y => ∃ a : Nat, σ = [some (.str l), some (.ref d), some (.str sgT), some (.int (0 + (i : Int))), some (.int num), some (.int (a : Int)), v6, v7, v8] ∧ Y = X ∧ a ≤ l.length) ?_ (fun N hN => ?_)
      rotate_left
      · simpa only [and_self]
        have h0 := Int.emod_nonneg num (show ((l.length : Int) + 1) ≠ 0 by omega)
        have h1 := Int.emod_lt_of_pos num (show (0 : Int) < (l.length : Int) + 1 by omega)
        refine ⟨ll, by omega, hN _ _ ⟨(num % ((l.length : Int) + 1)).toNat, ?_, rfl, by omega⟩⟩
        rw [Int.toNat_of_nonneg h0]
      rintro σ Y ⟨a, rfl, rfl, ha⟩
      refine seq_inv (fun σ X => ∃ c : Nat, σ = [some (.str l), some (.ref d), some (.str sgT), some (.int (0 + (i : Int))), some (.int num), some (.int (a : Int)), some (.str ⟨#[c]⟩), v7, v8] ∧ X = Y) ?_ (fun N hN => ?_)
      rotate_left
      · simpa only [and_self]
        have h0 := Int.emod_nonneg (num / 400) (show ((22 : Nat) : Int) ≠ 0 by decide)
        have h1 := Int.emod_lt_of_pos (num / 400) (show (0 : Int) < ((22 : Nat) : Int) by decide)
        refine ⟨⟨by decide, by decide⟩, le_line (by rw [sgT_len]; decide), by rw [sgT_len]; decide, le_line (by rw [sgT_len]; decide), ?_⟩
        rw [sgT_len]
        have hx : ∃ c, (cs sgT)[(num / 400 % ((22 : Nat) : Int)).toNat]? = some c := by
          refine ⟨_, List.getElem?_eq_getElem (by rw [show (cs sgT).length = sgT.length from slen _, sgT_len]; omega)⟩
        obtain ⟨c, hc'⟩ := hx
        refine ⟨c, ?_, hN _ _ ⟨c, rfl, rfl⟩⟩
        have := atI_nat hc'
        rwa [Int.toNat_of_nonneg h0] at this
      rintro σ X ⟨c, rfl, rfl⟩
      refine seq_inv (fun σ Y => ∃ kd : Nat, σ = [some (.str l), some (.ref d), some (.str sgT), some (.int (0 + (i : Int))), some (.int num), some (.int (a : Int)), some (.str ⟨#[c]⟩), some (.int (kd : Int)), v8] ∧ Y = X ∧ kd < 4) ?_ (fun N hN => ?_)
      rotate_left
      · simpa only [and_self]
        refine ⟨⟨by decide, by decide⟩, by decide, hN _ _ ⟨(num / 10000 % 4).toNat, ?_, rfl, by omega⟩⟩
        rw [Int.toNat_of_nonneg (by omega)]
      rintro σ Y ⟨kd, rfl, rfl, hkd⟩
      have e1 : cutL (cs l) none (some (a : Int)) = (cs l).take a := by rw [cut_to (by omega), Int.toNat_natCast]
      have e2 : cutL (cs l) (some (a : Int)) none = (cs l).drop a := by rw [cut_from (by omega), Int.toNat_natCast]
      have e3 : cutL (cs l) (some ((a : Int) + 1)) none = (cs l).drop (a + 1) := by rw [cut_from (by omega), show ((a : Int) + 1).toNat = a + 1 by omega]
      have lt : (st ((cs l).take a)).length ≤ 6000 := by rw [ln_st, List.length_take, slen]; omega
      have ld : ∀ k, (st ((cs l).drop k)).length ≤ 6000 := fun k => by rw [ln_st, List.length_drop, slen]; omega
      refine seq_inv (fun σ X => ∃ l1 : Str, σ = [some (.str l1), some (.ref d), some (.str sgT), some (.int (0 + (i : Int))), some (.int num), some (.int (a : Int)), some (.str ⟨#[c]⟩), some (.int (kd : Int)), v8] ∧ X = Y ∧ (kd ≤ 0 → Stp (cs l) (cs l1)) ∧ (0 < kd → l1 = l)) ?_ (fun N hN => ?_)
      rotate_left
      · simpa only [and_self]
        rw [e1, e3]
        refine ite2 (fun c0 => ⟨ll, ll, le_line (Nat.le_trans (Nat.add_le_add lt (ld (a + 1))) (by decide)), hN _ _ ⟨_, rfl, rfl, fun _ => ?_, fun h => by have := of_decide_eq_true c0; omega⟩⟩) (fun c0 => hN _ _ ⟨l, rfl, rfl, fun h => absurd (decide_eq_true (by omega)) c0, fun _ => rfl⟩)
        rw [cs_app]
        exact stp_0 (cs l) a
      rintro σ X ⟨l1, rfl, rfl, hs1, hk1⟩
      have lc : (⟨#[c]⟩ : Str).length = 1 := rfl
      have sz1 : (st ((cs l).take a)).length + (⟨#[c]⟩ : Str).length ≤ sizeLine := le_line (Nat.le_trans (Nat.add_le_add lt (Nat.le_of_eq lc)) (by decide))
      have sz2 : ∀ k, (st ((cs l).take a) ++ (⟨#[c]⟩ : Str)).length + (st ((cs l).drop k)).length ≤ sizeLine := fun k => by
        rw [len_app]
        exact le_line (Nat.le_trans (Nat.add_le_add (Nat.add_le_add lt (Nat.le_of_eq lc)) (ld k)) (by decide))
      refine seq_inv (fun σ Y => ∃ l2 : Str, σ = [some (.str l2), some (.ref d), some (.str sgT), some (.int (0 + (i : Int))), some (.int num), some (.int (a : Int)), some (.str ⟨#[c]⟩), some (.int (kd : Int)), v8] ∧ Y = X ∧ (kd ≤ 1 → Stp (cs l) (cs l2)) ∧ (1 < kd → l2 = l)) ?_ (fun N hN => ?_)
      rotate_left
      · simpa only [and_self]
        refine ite2 (fun c0 => ?_) (fun c0 => hN _ _ ⟨l1, rfl, rfl, fun h => hs1 (by have : ¬ (kd : Int) = 1 := fun e => c0 (decide_eq_true e); omega), fun h => hk1 (by omega)⟩)
        have k1 := of_decide_eq_true c0
        rw [hk1 (by omega), e1, e2]
        refine ⟨ll, sz1, ll, sz2 a, hN _ _ ⟨_, rfl, rfl, fun _ => ?_, fun h => by omega⟩⟩
        rw [cs_app, cs_app]
        exact stp_1 (cs l) a c
      rintro σ Y ⟨l2, rfl, rfl, hs2, hk2⟩
      refine seq_inv (fun σ X => ∃ l3 : Str, σ = [some (.str l3), some (.ref d), some (.str sgT), some (.int (0 + (i : Int))), some (.int num), some (.int (a : Int)), some (.str ⟨#[c]⟩), some (.int (kd : Int)), v8] ∧ X = Y ∧ (kd ≤ 2 → Stp (cs l) (cs l3)) ∧ (2 < kd → l3 = l)) ?_ (fun N hN => ?_)
      rotate_left
      · simpa only [and_self]
        refine ite2 (fun c0 => ?_) (fun c0 => hN _ _ ⟨l2, rfl, rfl, fun h => hs2 (by have : ¬ (kd : Int) = 2 := fun e => c0 (decide_eq_true e); omega), fun h => hk2 (by omega)⟩)
        have k1 := of_decide_eq_true c0
        rw [hk2 (by omega), e1, e3]
        refine ⟨ll, sz1, ll, sz2 (a + 1), hN _ _ ⟨_, rfl, rfl, fun _ => ?_, fun h => by omega⟩⟩
        rw [cs_app, cs_app]
        exact stp_2 (cs l) a c
      rintro σ X ⟨l3, rfl, rfl, hs3, hk3⟩
      have fin : ∀ l4 : Str, Stp (cs l) (cs l4) → l4.length ≤ 5000 + 9 * (i + 1) ∧ cnt (cs l4) ≤ bnd (i + 1) := fun l4 ⟨h1, h2, h3⟩ => by
        rw [slen, slen] at h1
        refine ⟨by omega, ?_⟩
        match i, hi3, hcl with
        | 0, _, h => have : cnt (cs l) ≤ 4 := h; show _ ≤ 9; omega
        | 1, _, h => have : cnt (cs l) ≤ 9 := h; show _ ≤ 18; omega
        | 2, _, h => have : cnt (cs l) ≤ 18 := h; show _ ≤ 27; omega
      simpa only [and_self]
      refine ite2 (fun c0 => ?_) (fun c0 => ?_)
      · have k1 := of_decide_eq_true c0
        rw [hk3 (by omega)]
        have hk := Int.emod_nonneg (num / 40000) (show (9 : Int) ≠ 0 by decide)
        have hk' := Int.emod_lt_of_pos (num / 40000) (show (0 : Int) < 9 by decide)
        have e4 : cutL (cs l) (some (a : Int)) (some ((a : Int) + 1 + num / 40000 % 9)) = ((cs l).drop a).take (1 + (num / 40000 % 9).toNat) := by
          rw [show (a : Int) + 1 + num / 40000 % 9 = ((a + (1 + (num / 40000 % 9).toNat) : Nat) : Int) by omega, cutL_nat _ (Nat.le_add_right _ _), Nat.add_sub_cancel_left]
        rw [e1, e2, e4]
        have lm : (st (((cs l).drop a).take (1 + (num / 40000 % 9).toNat))).length ≤ 6000 := by rw [ln_st, List.length_take, List.length_drop, slen]; omega
        have hS : Stp (cs l) (cs (st ((cs l).take a) ++ st (((cs l).drop a).take (1 + (num / 40000 % 9).toNat)) ++ st ((cs l).drop a))) := by
          rw [cs_app, cs_app]
          exact stp_3 (cs l) a _ (by omega)
        obtain ⟨f1, f2⟩ := fin _ hS
        refine ⟨⟨by decide, by decide⟩, by decide, ll, ll, le_line (Nat.le_trans (Nat.add_le_add lt lm) (by decide)), ll, ?_, sX, _, hX, f1, f2⟩
        rw [len_app]
        exact le_line (Nat.le_trans (Nat.add_le_add (Nat.add_le_add lt lm) (ld a)) (by decide))
      · have hk : kd ≤ 2 := by have : ¬ (kd : Int) = 3 := fun e => c0 (decide_eq_true e); omega
        obtain ⟨f1, f2⟩ := fin l3 (hs3 hk)
        exact ⟨sX, _, hX, f1, f2⟩
    · rintro σ M ⟨l, ns', v3, v4, v5, v6, v7, v8, rfl, sM, hM, hl, hcl⟩
      refine hN _ _ ⟨l, _, _, _, _, _, _, rfl, sM, by omega, ?_⟩
      generalize (lst0 ns % 4).toNat = i at hm4 hcl
      match i, hm4, hcl with
      | 0, _, h => exact Nat.le_trans h (by decide)
      | 1, _, h => exact Nat.le_trans h (by decide)
      | 2, _, h => exact Nat.le_trans h (by decide)
      | 3, _, h => exact h
  rintro σ X ⟨l, v3, v4, v5, v6, v7, v8, rfl, sX, hl, hcl⟩
  simpa only [and_self]
  refine ⟨le_line (by omega), q _ _ sX ?_ ?_⟩
  · rw [cut_to (by decide)]
    show (st ((cs l).take 400)).length ≤ 400
    rw [ln_st, List.length_take]
    omega
  · rw [cut_to (by decide)]
    exact Nat.le_trans (List.Sublist.countP_le (List.take_sublist _ _)) hcl
end
theorem cnt0 {l : List Nat} (h : ∀ c ∈ l, c ≠ 33 ∧ c ≠ 40) : cnt l = 0 := List.countP_eq_zero.mpr fun c m => by
  have := h c m
  simp [this.1, this.2]
theorem wC_no {c : Nat} (h : wC c = true) : c ≠ 33 ∧ c ≠ 40 := ⟨fun e => by rw [e] at h; exact absurd h (by decide), fun e => by rw [e] at h; exact absurd h (by decide)⟩
theorem isP_no {c : Nat} (h : isP c = true) : c ≠ 33 ∧ c ≠ 40 := ⟨fun e => by rw [e] at h; exact absurd h (by decide), fun e => by rw [e] at h; exact absurd h (by decide)⟩
theorem cnt_jn {y : List Nat} (hy : cnt y = 0) : ∀ {ls : List (List Nat)}, (∀ l ∈ ls, cnt l = 0) → cnt (jn y ls) = 0
  | [], _ => rfl
  | [l], h => h l (by simp)
  | l :: m :: r, h => by
    rw [jn, cnt_app, cnt_app, h l (by simp), hy, cnt_jn hy fun x hx => h x (List.mem_cons_of_mem _ hx)]
theorem cnt_wj {ws : List Str} (h : okWs ws) : cnt (wj ws) = 0 := by
  refine cnt_jn (by decide) fun l m => ?_
  obtain ⟨u, hu, rfl⟩ := List.mem_map.mp m
  exact cnt0 fun c hc => wC_no ((okWd_all (h.2.2 u hu).1).2 c hc)
theorem cnt_lf {f : Str} {a : Lf} (hf : okF f) (ha : a.ok) : cnt (lfT f a) = 0 := by
  have h1 : cnt (cs f) = 0 := by
    rcases hf with rfl | hf
    · decide +kernel
    · exact cnt0 fun c hc => by
        have := (okNm_len hf).2 c hc
        exact wC_no (by unfold wC; rw [this]; rfl)
  unfold lfT
  rw [cnt_app, h1, Nat.zero_add]
  show cnt ([58] ++ a.txt) = 0
  rw [cnt_app]
  have h58 : cnt [58] = 0 := by decide
  rw [h58, Nat.zero_add]
  cases a with
  | word z => exact cnt0 fun c hc => wC_no ((okWd_all ha.1).2 c hc)
  | like z =>
    show cnt ((if bare z then [126] else []) ++ cs z) = 0
    rw [cnt_app, cnt0 (l := cs z) fun c hc => isP_no (ha.1 c hc)]
    split <;> decide
  | row ws =>
    show cnt ([34] ++ (wj ws ++ [34])) = 0
    rw [cnt_app, cnt_app, cnt_wj ha]
    decide
  | nc b n ws =>
    show cnt (cs (fg n) ++ ([op1 b] ++ (wj ws ++ [cl1 b]))) = 0
    obtain ⟨h1, h2, h3⟩ := ha
    rw [cnt_app, cnt_app, cnt_app, cnt_wj h3, cnt0 (l := cs (fg n)) fun c hc => by
      have := List.all_eq_true.mp (fg_fig n (by omega) h1).1 c hc
      exact wC_no (by unfold wC; rw [this]; simp)]
    cases b <;> decide
theorem cnt_inn {b : Bool} {B : Nat} : ∀ {ls : List (List Nat)}, (∀ l ∈ ls, cnt l ≤ B) → ls.length ≤ 3 → cnt (inn b ls) ≤ 3 * B
  | [], _, _ => by cases b <;> exact Nat.zero_le _
  | [x], h, _ => by
    have h1 := h x (by simp)
    show cnt ([sg b, 32] ++ x) ≤ _
    rw [cnt_app]
    have : cnt [sg b, 32] = 0 := by cases b <;> decide
    omega
  | [x, y], h, _ => by
    have h1 := h x (by simp)
    have h2 := h y (by simp)
    show cnt (x ++ ([32, sg b, 32] ++ y)) ≤ _
    rw [cnt_app, cnt_app]
    have : cnt [32, sg b, 32] = 0 := by cases b <;> decide
    omega
  | [x, y, z], h, _ => by
    have h1 := h x (by simp)
    have h2 := h y (by simp)
    have h3 := h z (by simp)
    show cnt (x ++ ([32, sg b, 32] ++ (y ++ ([32, sg b, 32] ++ z)))) ≤ _
    rw [cnt_app, cnt_app, cnt_app, cnt_app]
    have : cnt [32, sg b, 32] = 0 := by cases b <;> decide
    omega
  | _ :: _ :: _ :: _ :: _, _, h => by simp at h
def cB : Nat → Nat
  | 0 => 0
  | d + 1 => 3 * cB d + 1
theorem cnt_q {ws : List Str} (h : okPl ws) : ∀ d ns, cnt (shown (qF ws d ns).1) ≤ cB d
  | 0, ns => by
    rw [qF]
    obtain ⟨f, a, e, h1, h2, h3⟩ := lf_ok h (lst0 ns) (lst0 ns % 9 % 5) ns.dropLast
    rw [e, shown, cnt_lf h1 h2]
    exact Nat.zero_le _
  | d + 1, ns => by
    have ih := cnt_q h d
    rw [qF]
    split
    · obtain ⟨f, a, e, h1, h2, h3⟩ := lf_ok h (lst0 ns) (lst0 ns % 9) ns.dropLast
      rw [e, shown, cnt_lf h1 h2]
      exact Nat.zero_le _
    split
    · have := ih ns.dropLast
      rw [shown]
      show cnt ([33] ++ _) ≤ _
      rw [cnt_app]
      have : cnt [33] = 1 := by decide
      unfold cB
      omega
    · obtain ⟨l1, l2⟩ := qs_ok (p := fun q => cnt (shown q) ≤ cB d) ih ns.dropLast (lst0 ns / 9 % 4).toNat
      rw [shown, showns_map]
      show cnt ([40] ++ (inn _ _ ++ [41])) ≤ _
      rw [cnt_app, cnt_app]
      have h1 : cnt [40] = 1 := by decide
      have h2 : cnt [41] = 0 := by decide
      have := cnt_inn (b := decide (lst0 ns % 9 % 2 = 0)) (B := cB d) (ls := (qsF (qF ws d) (lst0 ns / 9 % 4).toNat ns.dropLast).1.map shown) (fun l m => by
        obtain ⟨q, m1, rfl⟩ := List.mem_map.mp m
        exact l2 q m1) (by rw [List.length_map]; omega)
      unfold cB
      omega
theorem lst_in {g : List Nat → Option (Qn × List Nat)} {p : Qn → Prop} (hg : ∀ l x, g l = some x → p x.1) (y : List Nat) : ∀ n acc l x, (∀ q ∈ acc, p q) → acc.length + n ≤ 401 → lstA y g n acc l = some x → (∀ q ∈ x.1, p q) ∧ x.1.length ≤ 401
  | 0, _, _, _, _, _, h => by cases h
  | n + 1, acc, l, x, ha, hn, h => by
    cases e : g l with
    | none => rw [lstA_none e] at h; cases h
    | some z =>
      have hz := hg l z e
      have hb : ∀ q ∈ acc ++ [z.1], p q := fun q m => by
        rcases List.mem_append.mp m with m | m
        · exact ha q m
        · rw [List.mem_singleton.mp m]; exact hz
      have hl : (acc ++ [z.1]).length = acc.length + 1 := by rw [List.length_append]; rfl
      rw [lstA_some (a := z.1) (r := z.2) e] at h
      split at h
      · exact lst_in hg y n _ _ x hb (by rw [hl]; omega) h
      · cases h; exact ⟨hb, by rw [hl]; omega⟩
def Nst : Nat → Qn → Prop
  | _, .lf _ _ => True
  | 0, _ => False
  | n + 1, .nt q => Nst n q
  | n + 1, .bo _ qs => qs.length ≤ 900 ∧ ∀ q ∈ qs, Nst n q
theorem nst_lf (n : Nat) (f : Str) (a : Lf) : Nst n (.lf f a) := by cases n <;> trivial
theorem lf_lf {tl : List Nat → Option (Str × List Nat)} {l : List Nat} {x : Qn × List Nat} (h : rLf tl l = some x) : ∃ f a, x.1 = .lf f a := by
  unfold rLf at h
  cases e : rFd l with
  | none => rw [e] at h; cases h
  | some z =>
    rw [e] at h
    have h' : (if z.2.head? = some 58 then (match rAk tl z.2.tail with | none => none | some y => some (Qn.lf z.1 y.1, y.2)) else none) = some x := h
    split at h'
    · cases e2 : rAk tl z.2.tail with
      | none => rw [e2] at h'; cases h'
      | some y => rw [e2] at h'; cases h'; exact ⟨_, _, rfl⟩
    · cases h'
theorem nst_brk {n : Nat} {rec : List Nat → Option (Qn × List Nat)} (hr : ∀ l x, rec l = some x → Nst n x.1) {l : List Nat} {x : Qn × List Nat} (h : rBrk rec l = some x) : Nst (n + 1) x.1 := by
  have one : ∀ b l x, rOne rec b l = some x → Nst (n + 1) x.1 := fun b l x h => by
    unfold rOne at h
    split at h
    · cases h; exact ⟨Nat.zero_le _, fun q m => by cases m⟩
    split at h
    · cases e : rec l.tail with
      | none => rw [e] at h; cases h
      | some z =>
        rw [e] at h
        have h' : (if z.2.head? = some 41 then some (Qn.bo b [z.1], z.2.tail) else none) = some x := h
        split at h'
        · cases h'; exact ⟨(by simp), fun q m => by rw [List.mem_singleton.mp m]; exact hr _ z e⟩
        · cases h'
    · cases h
  unfold rBrk at h
  split at h
  · exact one _ _ x h
  split at h
  · exact one _ _ x h
  cases e : rec l with
  | none => rw [e] at h; cases h
  | some z =>
    rw [e] at h
    have h0 : rTwo rec z.1 (pre " & " z.2) z.2 = some x := h
    unfold rTwo at h0
    split at h0
    · cases e2 : lstA [32, sg (pre " & " z.2), 32] rec 401 [] (z.2.drop 3) with
      | none => rw [e2] at h0; cases h0
      | some y =>
        obtain ⟨g1, g2⟩ := lst_in hr _ _ _ _ y (fun q m => by cases m) (by decide) e2
        rw [e2] at h0
        have h' : (if y.2.head? = some 41 then some (Qn.bo (pre " & " z.2) (z.1 :: y.1), y.2.tail) else none) = some x := h0
        split at h'
        · cases h'
          refine ⟨by rw [List.length_cons]; omega, fun q m => ?_⟩
          rcases List.mem_cons.mp m with rfl | m
          · exact hr _ z e
          · exact g1 q m
        · cases h'
    · cases h0
theorem nst_rq {tl : List Nat → Option (Str × List Nat)} : ∀ n l x, rq tl n l = some x → Nst n x.1
  | 0, l, x, h => by
    rw [rq] at h
    split at h
    · cases h
    split at h
    · cases h
    · obtain ⟨f, a, e⟩ := lf_lf h; rw [e]; exact nst_lf _ _ _
  | n + 1, l, x, h => by
    rw [rq] at h
    split at h
    · cases e : rq tl n l.tail with
      | none => rw [e] at h; cases h
      | some z => rw [e] at h; cases h; exact nst_rq n _ z e
    split at h
    · exact nst_brk (nst_rq n) h
    · obtain ⟨f, a, e⟩ := lf_lf h; rw [e]; exact nst_lf _ _ _
theorem dep_n : ∀ (n : Nat) (q : Qn), Nst n q → dep (dvQ q) ≤ 2 * n + 2
  | n, .lf f a, _ => by
    have e : ∀ ws : List Str, deps (ws.map DV.str) = 0 := fun ws => Nat.le_zero.mp (deps_le fun d hd => by
      obtain ⟨u, _, rfl⟩ := List.mem_map.mp hd
      exact Nat.le_refl _)
    rw [dvQ]
    cases a with
    | word z => simp [Lf.dv, dep, deps]
    | like z => simp [Lf.dv, dep, deps]
    | row ws => simp [Lf.dv, dep, deps, e]
    | nc b n ws => simp [Lf.dv, dep, deps, e]
  | 0, .nt _, h => h.elim
  | 0, .bo _ _, h => h.elim
  | n + 1, .nt q, h => by
    have := dep_n n q h
    rw [dvQ]
    simp [dep, deps]
    omega
  | n + 1, .bo b qs, h => by
    have : deps (dvQs qs) ≤ 2 * n + 2 := by
      rw [dvQs_map]
      refine deps_le fun d hd => ?_
      obtain ⟨q, m, rfl⟩ := List.mem_map.mp hd
      exact dep_n n q (h.2 q m)
    rw [dvQ]
    simp [dep, deps]
    omega
def spSz (n : Nat) : Sp := fun vs H Q _ => ∃ (v : V) (q : Qn) (d : Int), vs = [v, .int d] ∧ Nst n q ∧ DeepT H (dvQ q) v ∧ ∀ (p : Addr) (a b : Int) H', Same H H' → H' p = some (.tup [.int a, .int b]) → Q (.ref p) H'
theorem deeps_at {H : Hp} : ∀ {qs : List Qn} {us : List V} {i : Nat} {x : V}, DeepTs H (qs.map dvQ) us → us[i]? = some x → ∃ q ∈ qs, DeepT H (dvQ q) x
  | [], us, i, x, h, e => by rw [deeps_n h] at e; cases e
  | q :: qs, us, i, x, h, e => by
    obtain ⟨y, ys, rfl, h1, h2⟩ := deeps_c h
    cases i with
    | zero => cases e; exact ⟨q, List.mem_cons_self .., h1⟩
    | succ i =>
      obtain ⟨q', m, h'⟩ := deeps_at h2 e
      exact ⟨q', List.mem_cons_of_mem _ m, h'⟩
def Prs (L : Hp) (ys : List V) : Prop := ∀ y ∈ ys, ∃ (a : Addr) (m n : Int), y = .ref a ∧ L a = some (.tup [.int m, .int n])
theorem Prs.same {L M : Hp} {ys : List V} (h : Prs L ys) (s : Same L M) : Prs M ys := fun y m => by
  obtain ⟨a, p, q, e, g⟩ := h y m
  exact ⟨a, p, q, e, s _ _ g⟩
theorem bo_in (b : Bool) : inV (.str (boN b)) [.str "both", .str "one"] = true := by cases b <;> decide +kernel
theorem lf_in {k : Str} (h : k = "word" ∨ k = "like" ∨ k = "row" ∨ k = "near" ∨ k = "chain") : inV (.str k) [.str "both", .str "one"] = false ∧ k ≠ "not" := by
  rcases h with rfl | rfl | rfl | rfl | rfl <;> decide +kernel
section
variable {P : Program} {w : World} {K : PySem.W.Frag} {mg : Str → Option Value} {base : Heap} {f : Addr} {fd : FuncData}
theorem scSz : FnScope ["_law_question_here", "_law_deep", "_law_sizes", "_law_most", "_law_many"] ["_law_question_here", "_law_deep"] (defScope sSz) := ⟨rfl, rfl, rfl, by decide +kernel, rfl, by decide +kernel, by decide +kernel⟩
set_option maxHeartbeats 4000000 in
theorem ok_sz1 {n k : Nat} {SQ : Sp} (F : Fun K "_law_size" "_law_size" sSz f fd) (T : Txt mg) (GSz : FnOk P w K mg base CX0 (k + 1) f fd ["_law_question_here", "_law_deep"] SQ) (bSz : Binds K fd ["_law_question_here", "_law_deep"] []) (mSz : mg "_law_size" = some (.ref f)) (hS : ∀ m, n = m + 1 → SQ = spSz m) : FnOk P w K mg base CX0 (k + 2) f fd ["_law_question_here", "_law_deep"] (spSz n) := by
  have kSz := F.kp
  refine F.ok scSz (fun vs H Q E h => ?_) (fun cdv A outer s H vs Q E hr h => ?_)
  · obtain ⟨v, q, d, rfl, _⟩ := h
    rfl
  obtain ⟨v, q, d, rfl, hn, hd, hq⟩ := h
  refine ⟨_, (@pss_cons _ _ _ _ _ (@ps_if _ _ _ _ _ _ _ _ (@pt_cmpR _ _ _ _ _ _ _ _ op_in_seq (pe_ix (ixT K) (pv 0) pe_int (fun _ _ => rfl)) (@pe_lst _ _ _ _ (@pa_cons _ _ _ _ _ pe_str (@pa_cons _ _ _ _ _ pe_str pa_nil star_K) star_K)) rfl) (@pss_cons _ _ _ _ _ (ps_setC (i := 2) scSz.nd rfl rfl (N := ["_law_one", "_law_deep"]) (pick := [none, some 1]) (NX := ["_law_question_here", "_law_deep", "_law_sizes", "_law_most", "_law_many"]) (sX := defScope sSz) (by decide +kernel) rfl rfl rfl (pi_listK K (pe_ix (ixT K) (pv 0) pe_int (fun _ _ => rfl)))
        (fun _ _ _ _ => (pg_name (i := 0) (by decide +kernel : (["_law_one", "_law_deep"] : List Str).Nodup) rfl (Or.inl rfl))) (fun _ _ _ _ => pifs_nil) (fun _ _ _ _ => (pe_call GSz hr rfl mSz kSz bSz .nil pass0 (@pa_cons _ _ _ _ _ (pv 0) (@pa_cons _ _ _ _ _ (pe_op op_add (pv 1) pe_int) pa_nil star_B) star_N))))
    (@pss_cons _ _ _ _ _ (ps_set (i := 3) scSz.nd rfl (Or.inl rfl) (pe_maxD rfl (pe_comp (N := ["_law_size_here"]) (pick := [none]) (NX := ["_law_question_here", "_law_deep", "_law_sizes", "_law_most", "_law_many"]) (sX := defScope sSz) (by decide +kernel) rfl rfl rfl (pi_listK K (pv 2))
        (fun _ _ _ _ => (pg_name (i := 0) (by decide +kernel : (["_law_size_here"] : List Str).Nodup) rfl (Or.inl rfl))) (fun _ _ _ _ => pifs_nil) (fun _ _ _ _ => (pe_ix (ixT K) (pv 0) pe_int (fun _ _ => rfl)))) (pv 1) rfl T.max))
    (@pss_one _ _ _ (@ps_ret _ _ _ _ (@pe_tup _ _ _ _ _ (@pa_cons _ _ _ _ _ (pe_op op_add pe_int (pe_callB (call_sum K rfl) rfl T.sum (by decide +kernel) (pa_cons (pe_comp (N := ["_law_size_here"]) (pick := [none]) (NX := ["_law_question_here", "_law_deep", "_law_sizes", "_law_most", "_law_many"]) (sX := defScope sSz) (by decide +kernel) rfl rfl rfl (pi_listK K (pv 2))
        (fun _ _ _ _ => (pg_name (i := 0) (by decide +kernel : (["_law_size_here"] : List Str).Nodup) rfl (Or.inl rfl))) (fun _ _ _ _ => pifs_nil) (fun _ _ _ _ => (pe_ix (ixT K) (pv 0) pe_int (fun _ _ => rfl)))) pa_nil))) (@pa_cons _ _ _ _ _ (pv 3) pa_nil star_N) star_B)))))) pss_nil)
    (@pss_cons _ _ _ _ _ (@ps_if _ _ _ _ _ _ _ _ (@pt_cmpR _ _ _ _ _ _ _ _ op_eq (pe_ix (ixT K) (pv 0) pe_int (fun _ _ => rfl)) pe_str (nomark _)) (@pss_cons _ _ _ _ _ (ps_asg (pe_call GSz hr rfl mSz kSz bSz .nil pass0 (@pa_cons _ _ _ _ _ (pe_ix (ixT K) (pv 0) pe_int (fun _ _ => rfl)) (@pa_cons _ _ _ _ _ (pe_op op_add (pv 1) pe_int) pa_nil star_B) star_S)) (pgT K (n := 2) rfl (pgs_cons (pg_name (i := 4) scSz.nd rfl (Or.inl rfl)) (pgs_cons (pg_name (i := 3) scSz.nd rfl (Or.inl rfl)) pgs_nil))))
    (@pss_one _ _ _ (@ps_ret _ _ _ _ (@pe_tup _ _ _ _ _ (@pa_cons _ _ _ _ _ (pe_op op_add pe_int (pv 4)) (@pa_cons _ _ _ _ _ (pv 3) pa_nil star_N) star_B))))) pss_nil)
    (@pss_one _ _ _ (@ps_ret _ _ _ _ (@pe_tup _ _ _ _ _ (@pa_cons _ _ _ _ _ pe_int (@pa_cons _ _ _ _ _ (pv 1) pa_nil star_N) star_K)))))), ?_⟩
  have hq0 : (∃ f a, q = .lf f a) ∨ (∃ q', q = .nt q') ∨ ∃ b qs, q = .bo b qs := by
    cases q with
    | lf f a => exact .inl ⟨f, a, rfl⟩
    | nt q' => exact .inr (.inl ⟨q', rfl⟩)
    | bo b qs => exact .inr (.inr ⟨b, qs, rfl⟩)
  refine seq_inv (fun σ L => σ = [some v, some (.int d), none, none, none] ∧ Same H L ∧ ∀ b qs, q ≠ .bo b qs) ?_ (fun N hN => ?_)
  rotate_left
  · simpa only [rIn, tMaxD]
    rcases hq0 with ⟨f', a, rfl⟩ | ⟨q', rfl⟩ | ⟨b, qs, rfl⟩
    · obtain ⟨k', ds, e, hk⟩ := lf_two f' a
      rw [dvQ, e] at hd
      obtain ⟨p0, ys, rfl, hp0⟩ := tn hd
      refine ⟨p0, rfl, _, SqT.of hp0, .str k', atI_nat (show (V.str k' :: V.str f' :: ys)[0]? = some (V.str k') from rfl), by decide, fun p hp => ⟨_, .inl (SqL.of upd_same), rfl, rfl, ?_⟩⟩
      rw [(lf_in hk).1, if_neg Bool.false_ne_true]
      exact hN _ _ ⟨rfl, same_new hp _, fun b qs h => by cases h⟩
    · rw [dvQ] at hd
      obtain ⟨p0, y, rfl, hp0, h3⟩ := t2 hd
      refine ⟨p0, rfl, _, SqT.of hp0, _, rfl, by decide, fun p hp => ⟨_, .inl (SqL.of upd_same), rfl, rfl, ?_⟩⟩
      rw [if_neg (by decide +kernel)]
      exact hN _ _ ⟨rfl, same_new hp _, fun b qs h => by cases h⟩
    cases n with
    | zero => exact hn.elim
    | succ m =>
      rw [hS m rfl]
      rw [dvQ] at hd
      obtain ⟨p0, y, rfl, hp0, h3⟩ := t2 hd
      obtain ⟨p2, us, rfl, hp2, h4⟩ := deep_l h3
      rw [dvQs_map] at h4
      have hul : us.length = qs.length := by rw [DeepTs.length h4, List.length_map]
      have hq9 := hn.1
      refine ⟨p0, rfl, _, SqT.of hp0, _, rfl, by decide, fun p hp => ⟨_, .inl (SqL.of upd_same), rfl, rfl, ?_⟩⟩
      rw [bo_in, if_pos rfl]
      have s0 : Same H (upd H p (.lst [V.str "both", V.str "one"])) := same_new hp _
      refine ⟨p0, rfl, _, SqT.of (s0 _ _ hp0), _, rfl, p2, rfl, ⟨us, SqL.of (s0 _ _ hp2)⟩, ?_⟩
      refine compW_list us (fun i ys σ L => ys.length = i ∧ Prs L ys ∧ Same H L ∧ ∃ v0 : Option V, σ = [v0, some (.int d)]) ⟨rfl, (fun y m => by cases m), s0, _, rfl⟩ ?_ ?_ ?_
      · rintro i ys σ L hi ⟨rfl, _, sL, _⟩
        exact ⟨SqL.of (sL _ _ hp2), small (by omega)⟩
      · rintro i x ys σ L hx ⟨rfl, hP, sL, v0, rfl⟩
        simpa only [and_self]
        obtain ⟨q', mq, dq⟩ := deeps_at h4 hx
        refine ⟨x, q', d + 1, rfl, hn.2 q' mq, DeepT.same sL _ _ dq, fun pt a b' L' sL' e' => ?_⟩
        refine ⟨by simp, fun y my => ?_, sL.trans sL'⟩
        rcases List.mem_append.mp my with my | my
        · exact hP.same sL' y my
        · rw [List.mem_singleton.mp my]; exact ⟨pt, a, b', rfl, e'⟩
      · rintro ys σ L ⟨hyl, hP, sL, v0, rfl⟩ p3 hp3
        refine ⟨p3, rfl, ⟨_, SqL.of upd_same⟩, ?_⟩
        have sL3 : Same L (upd L p3 (.lst ys)) := same_new hp3 _
        have hP3 := hP.same sL3
        refine compW_list ys (fun i zs σ M => (∃ ns : List Int, zs = ns.map V.int ∧ ns.length = i) ∧ M = upd L p3 (.lst ys) ∧ ∃ v0 : Option V, σ = [v0]) ⟨⟨[], rfl, rfl⟩, rfl, _, rfl⟩ ?_ ?_ ?_
        · rintro i zs σ M hi ⟨⟨ns, rfl, rfl⟩, rfl, _⟩
          exact ⟨SqL.of upd_same, by rw [List.length_map]; exact small (by omega)⟩
        · rintro i x zs σ M hx ⟨⟨ns, rfl, rfl⟩, rfl, v1, rfl⟩
          obtain ⟨a, m1, m2, rfl, ha⟩ := hP3 x (List.mem_of_getElem? hx)
          simpa only [and_self]
          refine ⟨_, SqT.of ha, .int m2, rfl, ?_⟩
          first | exact ⟨⟨ns ++ [m2], by rw [List.map_append]; rfl, by simp⟩, rfl⟩ | exact ⟨ns ++ [m2], by rw [List.map_append]; rfl, by simp⟩ | exact ⟨⟨ns ++ [m2], by rw [List.map_append]; rfl, by simp⟩, rfl, _, rfl⟩
        · rintro zs σ M ⟨⟨ns, rfl, hnl⟩, rfl, v1, rfl⟩ p4 hp4
          refine ⟨p4, rfl, ns, SqL.of upd_same, fun M' => ?_⟩
          have s4 : Same (upd L p3 (.lst ys)) (upd (upd L p3 (.lst ys)) p4 (.lst (ns.map V.int))) := same_new hp4 _
          have h34 := s4 _ _ upd_same
          have hP4 := hP3.same s4
          have sL4 : Same H (upd (upd L p3 (.lst ys)) p4 (.lst (ns.map V.int))) := (sL.trans sL3).trans s4
          generalize upd (upd L p3 (.lst ys)) p4 (.lst (ns.map V.int)) = R at h34 hP4 sL4
          refine ⟨p3, rfl, ⟨_, SqL.of h34⟩, ?_⟩
          refine compW_list ys (fun i zs σ M => (∃ ns : List Int, zs = ns.map V.int ∧ ns.length = i) ∧ M = R ∧ ∃ v0 : Option V, σ = [v0]) ⟨⟨[], rfl, rfl⟩, rfl, _, rfl⟩ ?_ ?_ ?_
          · rintro i zs σ M hi ⟨⟨ns, rfl, rfl⟩, rfl, _⟩
            exact ⟨SqL.of h34, by rw [List.length_map]; exact small (by omega)⟩
          · rintro i x zs σ M hx ⟨⟨ns, rfl, rfl⟩, rfl, v1, rfl⟩
            obtain ⟨a, m1, m2, rfl, ha⟩ := hP4 x (List.mem_of_getElem? hx)
            simpa only [and_self]
            refine ⟨_, SqT.of ha, .int m1, rfl, ?_⟩
            first | exact ⟨⟨ns ++ [m1], by rw [List.map_append]; rfl, by simp⟩, rfl⟩ | exact ⟨ns ++ [m1], by rw [List.map_append]; rfl, by simp⟩ | exact ⟨⟨ns ++ [m1], by rw [List.map_append]; rfl, by simp⟩, rfl, _, rfl⟩
          · rintro zs σ M ⟨⟨ns2, rfl, _⟩, rfl, v1, rfl⟩ p5 hp5
            refine ⟨p5, rfl, ns2, SqL.of upd_same, by decide, fun p6 hp6 => ?_⟩
            exact hq p6 _ _ _ ((sL4.trans (same_new hp5 _)).trans (same_new hp6 _)) upd_same
  rintro σ L ⟨rfl, sL, hnb⟩
  simpa only [and_self]
  rcases hq0 with ⟨f', a, rfl⟩ | ⟨q', rfl⟩ | ⟨b, qs, rfl⟩
  · obtain ⟨k', ds, e, hk⟩ := lf_two f' a
    rw [dvQ, e] at hd
    obtain ⟨p0, ys, rfl, hp0⟩ := tn hd
    refine ⟨p0, rfl, _, SqT.of (sL _ _ hp0), .str k', atI_nat (show (V.str k' :: V.str f' :: ys)[0]? = some (V.str k') from rfl), rfl, ?_⟩
    rw [if_neg (by simpa using (lf_in hk).2)]
    exact ⟨by decide, fun p hp => hq p _ _ _ (sL.trans (same_new hp _)) upd_same⟩
  · cases n with
    | zero => exact hn.elim
    | succ m =>
      rw [hS m rfl]
      rw [dvQ] at hd
      obtain ⟨p0, y, rfl, hp0, h3⟩ := t2 hd
      refine ⟨p0, rfl, _, SqT.of (sL _ _ hp0), _, rfl, rfl, ?_⟩
      rw [if_pos (by simp)]
      refine ⟨p0, rfl, _, SqT.of (sL _ _ hp0), _, rfl, y, q', d + 1, rfl, hn, DeepT.same sL _ _ h3, fun pt a b' L' sL' e' => ?_⟩
      exact ⟨pt, rfl, _, SqT.of e', rfl, _, _, rfl, _, _, rfl, rfl, _, rfl, by decide, fun p hp => hq p _ _ _ ((sL.trans sL').trans (same_new hp _)) upd_same⟩
  · exact absurd rfl (hnb b qs)
theorem ok_szs (F : Fun K "_law_size" "_law_size" sSz f fd) (T : Txt mg) (bSz : Binds K fd ["_law_question_here", "_law_deep"] []) (mSz : mg "_law_size" = some (.ref f)) : ∀ n, FnOk P w K mg base CX0 (n + 2) f fd ["_law_question_here", "_law_deep"] (spSz n)
  | 0 => ok_sz1 (k := 0) (SQ := fun _ _ _ _ => False) F T fn_false bSz mSz (fun m e => by cases e)
  | n + 1 => ok_sz1 (k := n + 1) F T (ok_szs F T bSz mSz n) bSz mSz (fun m e => by cases e; rfl)
end
structure XOn (K : PySem.W.Frag) (FE NF NM NB ND NS NQ NP NL NT : Addr) : Prop where
  nf : PySem.W.kitOne K (.ref NT) (.ref NF) = some false
  nm : PySem.W.kitOne K (.ref NT) (.ref NM) = some false
  nb : PySem.W.kitOne K (.ref NT) (.ref NB) = some false
  nd : PySem.W.kitOne K (.ref NT) (.ref ND) = some false
  ns : PySem.W.kitOne K (.ref NT) (.ref NS) = some false
  nq : PySem.W.kitOne K (.ref NT) (.ref NQ) = some false
  np : PySem.W.kitOne K (.ref NT) (.ref NP) = some false
  nl : PySem.W.kitOne K (.ref NT) (.ref NL) = some false
  nt : PySem.W.kitOne K (.ref NT) (.ref NT) = some true
  fe : PySem.W.kitOne K (.ref NT) (.ref FE) = some true
  ve : PySem.W.kitOne K (.ref NT) (.type "ValueError") = some true
structure XMg (mg : Str → Option Value) (FE NF NM NB ND NS NQ NP NL NT : Addr) : Prop where
  fe : mg "FindError" = some (.ref FE)
  nf : mg "NoField" = some (.ref NF)
  nm : mg "NoMake" = some (.ref NM)
  nb : mg "NoBytes" = some (.ref NB)
  nd : mg "NoDocument" = some (.ref ND)
  ns : mg "NoStamp" = some (.ref NS)
  nq : mg "NoPiece" = some (.ref NQ)
  np : mg "NoPattern" = some (.ref NP)
  nl : mg "NoLine" = some (.ref NL)
  nt : mg "NoText" = some (.ref NT)
def spOn (NT : Addr) : Sp := fun vs H Q _ => ∃ e : Addr, vs = [.ref e] ∧ H e = some (XO e (.ref NT) none) ∧ ∀ H', Same H H' → Q (.bl true) H'
section
variable {P : Program} {w : World} {K : PySem.W.Frag} {mg : Str → Option Value} {base : Heap} {f : Addr} {fd : FuncData} {FE NF NM NB ND NS NQ NP NL NT : Addr}
theorem scOn : FnScope ["_law_error", "_law_found"] ["_law_error"] (defScope sOn) := ⟨rfl, rfl, rfl, by decide +kernel, rfl, by decide +kernel, by decide +kernel⟩
set_option maxHeartbeats 4000000 in
theorem ok_on (F : Fun K "_law_only" "_law_only" sOn f fd) (T : Txt mg) (xn : XMg mg FE NF NM NB ND NS NQ NP NL NT) (x1 : XOn K FE NF NM NB ND NS NQ NP NL NT) (xa : XAttr K NT) : FnOk P w K mg base CX0 1 f fd ["_law_error"] (spOn NT) := by
  obtain ⟨mFE, mNF, mNM, mNB, mND, mNS, mNQ, mNP, mNL, mNT⟩ := xn
  refine F.ok scOn (fun vs H Q E h => ?_) (fun cdv A outer s H vs Q E hr h => ?_)
  · obtain ⟨e, rfl, _⟩ := h
    rfl
  obtain ⟨e, rfl, he, q⟩ := h
  have t : ∀ L, Same H L → TyX K L (V.ref e) (.ref NT) := fun L sL => .inr ⟨e, NT, none, rfl, rfl, sL _ _ he, (fun a z => by cases z), xa⟩
  refine ⟨_, (@pss_cons _ _ _ _ _ (ps_set (i := 1) scOn.nd rfl (Or.inl rfl) (@pe_lst _ _ _ _ (pa_cons (pe_callB (call_isiX K) rfl T.isinstance (by decide +kernel) (pa_cons (pv 0) (pa_cons (pe_gref rfl mNF) pa_nil))) (pa_cons (pe_callB (call_isiX K) rfl T.isinstance (by decide +kernel) (pa_cons (pv 0) (pa_cons (pe_gref rfl mNM) pa_nil))) (pa_cons (pe_callB (call_isiX K) rfl T.isinstance (by decide +kernel) (pa_cons (pv 0) (pa_cons (pe_gref rfl mNB) pa_nil))) pa_nil)))))
    (@pss_cons _ _ _ _ _ (ps_set (i := 1) scOn.nd rfl (Or.inl rfl) (pe_op op_cat (pv 1) (@pe_lst _ _ _ _ (pa_cons (pe_callB (call_isiX K) rfl T.isinstance (by decide +kernel) (pa_cons (pv 0) (pa_cons (pe_gref rfl mNS) pa_nil))) (pa_cons (pe_callB (call_isiX K) rfl T.isinstance (by decide +kernel) (pa_cons (pv 0) (pa_cons (pe_gref rfl mNQ) pa_nil))) (pa_cons (pe_callB (call_isiX K) rfl T.isinstance (by decide +kernel) (pa_cons (pv 0) (pa_cons (pe_gref rfl mNP) pa_nil))) pa_nil))))))
    (@pss_cons _ _ _ _ _ (ps_set (i := 1) scOn.nd rfl (Or.inl rfl) (pe_op op_cat (pv 1) (@pe_lst _ _ _ _ (pa_cons (pe_callB (call_isiX K) rfl T.isinstance (by decide +kernel) (pa_cons (pv 0) (pa_cons (pe_gref rfl mNL) pa_nil))) (pa_cons (pe_callB (call_isiX K) rfl T.isinstance (by decide +kernel) (pa_cons (pv 0) (pa_cons (pe_gref rfl mND) pa_nil))) pa_nil)))))
    (@pss_one _ _ _ (@ps_ret _ _ _ _ (pe_and (pe_cmpR op_notIn_seq pe_bl (pv 1) rfl) (pe_and (pe_callB (call_isiX K) rfl T.isinstance (by decide +kernel) (pa_cons (pv 0) (pa_cons (pe_gref rfl mNT) pa_nil))) (pe_one (pe_callB (call_isiX K) rfl T.isinstance (by decide +kernel) (pa_cons (pv 0) (pa_cons (pe_gref rfl mFE) pa_nil))))))))))), ?_⟩
  refine seq_inv (fun σ L => ∃ p, σ = [some (.ref e), some (.ref p)] ∧ Same H L ∧ L p = some (.lst [.bl false, .bl false, .bl false])) ?_ (fun N hN => ?_)
  rotate_left
  · simpa only [and_self]
    have t0 := t H (Same.refl _)
    exact ⟨_, t0, false, .inl x1.nf, _, t0, false, .inl x1.nm, _, t0, false, .inl x1.nb, by decide, fun p hp => hN _ _ ⟨p, rfl, same_new hp _, upd_same⟩⟩
  rintro σ L ⟨p, rfl, sL, hp⟩
  refine seq_inv (fun σ M => ∃ p, σ = [some (.ref e), some (.ref p)] ∧ Same H M ∧ M p = some (.lst [.bl false, .bl false, .bl false, .bl false, .bl false, .bl false])) ?_ (fun N hN => ?_)
  rotate_left
  · simpa only [and_self]
    have t0 := t L sL
    refine ⟨_, t0, false, .inl x1.ns, _, t0, false, .inl x1.nq, _, t0, false, .inl x1.np, by decide, fun p1 hp1 => ⟨_, (by rw [upd_ne fun e => by rw [e, hp1] at hp; cases hp]; exact hp), _, upd_same, by decide, fun p2 hp2 => hN _ _ ⟨p2, rfl, (sL.trans (same_new hp1 _)).trans (same_new hp2 _), upd_same⟩⟩⟩
  rintro σ M ⟨p', rfl, sM, hp'⟩
  refine seq_inv (fun σ M => ∃ p, σ = [some (.ref e), some (.ref p)] ∧ Same H M ∧ M p = some (.lst [.bl false, .bl false, .bl false, .bl false, .bl false, .bl false, .bl false, .bl false])) ?_ (fun N hN => ?_)
  rotate_left
  · simpa only [and_self]
    have t0 := t M sM
    refine ⟨_, t0, false, .inl x1.nl, _, t0, false, .inl x1.nd, by decide, fun p1 hp1 => ⟨_, (by rw [upd_ne fun e => by rw [e, hp1] at hp'; cases hp']; exact hp'), _, upd_same, by decide, fun p2 hp2 => hN _ _ ⟨p2, rfl, (sM.trans (same_new hp1 _)).trans (same_new hp2 _), upd_same⟩⟩⟩
  rintro σ X ⟨p2, rfl, sX, hp2⟩
  simpa only [rIn]
  refine ⟨_, .inl (SqL.of hp2), rfl, rfl, ?_⟩
  rw [if_pos (by rfl)]
  refine ⟨_, t X sX, true, .inl x1.nt, ?_⟩
  rw [if_pos rfl]
  exact ⟨_, t X sX, true, .inl x1.fe, q _ sX⟩
end
def spLaw (K : PySem.W.Frag) (T : Addr) : Sp := fun vs H Q _ => ∃ (a : Addr) (ns : List Int), vs = [.ref a] ∧ SqL K H a (ns.map V.int) ∧ ns.length ≤ 63 ∧ LT T H ∧ ∀ H', Q (.bl true) H'
def Kp (T : Addr) (H H' : Hp) : Prop := ∀ b o, H b = some o → b ≠ T → H' b = some o
theorem Kp.trans {T : Addr} {H H1 H2 : Hp} (a : Kp T H H1) (b : Kp T H1 H2) : Kp T H H2 := fun c o h n => b c o (a c o h n) n
theorem Kp.of {T : Addr} {H H1 : Hp} (a : Same H H1) : Kp T H H1 := fun c o h _ => a c o h
theorem lt_same {T : Addr} {H H' : Hp} (h : LT T H) (s : Same H H') : LT T H' := (lt_tb T).st _ _ h (fun b ps e => s b _ e) fun b ob e => s b _ e
theorem Kp.seqs {T : Addr} {H H' : Hp} (s : Kp T H H') (h : LT T H) : SameS H H' := by
  obtain ⟨ps, e⟩ := (lt_tb T).at_ _ h
  exact ⟨fun a xs g => s a _ g fun q => (by rw [q, e] at g; cases g), fun a xs g => s a _ g fun q => by rw [q, e] at g; cases g⟩
theorem dv_tup (q : Qn) : ∃ ds, dvQ q = .tup ds := by
  cases q with
  | lf f a => rw [dvQ]; cases a <;> exact ⟨_, rfl⟩
  | nt q => rw [dvQ]; exact ⟨_, rfl⟩
  | bo b qs => rw [dvQ]; exact ⟨_, rfl⟩
def Due (L : Hp) (l : List Nat) (v : V) : Prop := (∃ (q : Qn) (p : Addr) (x y : V), v = .ref p ∧ rAll tlL 27 l = some q ∧ L p = some (.tup [x, y]) ∧ DeepT L (dvQ q) x ∧ Nst 27 q) ∨ v = .non ∧ rAll tlL 27 l = none
theorem Due.same {L M : Hp} {l : List Nat} {v : V} (h : Due L l v) (s : Same L M) : Due M l v := by
  rcases h with ⟨q, p, x, y, e, hr, hp, d, n⟩ | h
  · exact .inl ⟨q, p, x, y, e, hr, s _ _ hp, DeepT.same s _ _ d, n⟩
  · exact .inr h
theorem Due.kp {T : Addr} {L M : Hp} {l : List Nat} {v : V} (h : Due L l v) (k : Kp T L M) (hT : LT T L) : Due M l v := by
  obtain ⟨ps, eT⟩ := (lt_tb T).at_ _ hT
  rcases h with ⟨q, p, x, y, e, hr, hp, d, n⟩ | h
  · exact .inl ⟨q, p, x, y, e, hr, k _ _ hp (fun z => by rw [z, eT] at hp; cases hp), DeepT.seqs (k.seqs hT) _ _ d, n⟩
  · exact .inr h
theorem XO_inj {e : Addr} {C C' : Value} {dx dx' : Option Addr} (h : XO e C dx = XO e C' dx') : C = C' ∧ dx = dx' := by
  unfold XO at h
  injection h with h
  have h0 : XP e C dx (({ objs := Array.replicate e default } : Heap).push { cls := C, dict := dx, data := .fields #[.none, .none] }) := by
    refine ⟨{ cls := C, dict := dx, data := .fields #[.none, .none] }, _, ?_, rfl, rfl, rfl, by decide⟩
    have := Heap.get?_push_size (o := { cls := C, dict := dx, data := .fields #[.none, .none] }) ({ objs := Array.replicate e default } : Heap) rfl
    simpa using this
  rw [h] at h0
  obtain ⟨oe, vs, h1, h2, h3, _⟩ := h0
  have h4 : (({ objs := Array.replicate e default } : Heap).push { cls := C, dict := dx, data := .fields #[.none, .none] }).get? e = some { cls := C, dict := dx, data := .fields #[.none, .none] } := by
    have := Heap.get?_push_size (o := { cls := C, dict := dx, data := .fields #[.none, .none] }) ({ objs := Array.replicate e default } : Heap) rfl
    simpa using this
  rw [h4] at h1
  cases h1
  exact ⟨h2, h3⟩
section
variable {P : Program} {w : World} {K : PySem.W.Frag} {mg : Str → Option Value} {base : Heap} {f : Addr} {fd : FuncData} {FE NT : Addr}
theorem scLw : FnScope ["_law_script", "_law_pool_here", "_law_question_here", "_law_line", "_law_due", "_law_many", "_law_deep", "_law_kept", "_law_found", "e"] ["_law_script"] (defScope sLaw) := ⟨rfl, rfl, rfl, by decide +kernel, rfl, by decide +kernel, by decide +kernel⟩
set_option maxHeartbeats 4000000 in
theorem ok_law {gd gl gq gh gp gr gz go gs Tt : Addr} {dd dl dq dh dp dr dz dO ds : FuncData} (F : Fun K "law" "law" sLaw f fd) (T : Txt mg) (mFE : mg "FindError" = some (.ref FE)) (xFE : XCatch K FE) (hfe : PySem.W.mroIn K NT (.ref FE) = some true) (xa : XAttr K NT) (hve : PySem.W.kitOne K (.ref NT) (.type "ValueError") = some true) (i2 : PySem.W.kitOne K (.type "tuple") (.type "tuple") = some true)
    (GD : FnOk P w K mg base CX0 2 gd dd ["_law_script", "_law_turn", "_law_many"] (spDr K)) (bD : Binds K dd ["_law_script", "_law_turn", "_law_many"] []) (kD : PySem.W.keepIn K (.ref gd) = true) (mD : mg "_law_draws" = some (.ref gd))
    (GPo : FnOk P w K mg base CX0 2 gl dl ["_law_draws_here"] spPl) (bPo : Binds K dl ["_law_draws_here"] []) (kPo : PySem.W.keepIn K (.ref gl) = true) (mPo : mg "_law_pool" = some (.ref gl))
    (GQ : FnOk P w K mg base CX0 5 gq dq ["_law_draws_here", "_law_pool_here", "_law_deep"] (spQu 2)) (bQ : Binds K dq ["_law_draws_here", "_law_pool_here", "_law_deep"] []) (kQ : PySem.W.keepIn K (.ref gq) = true) (mQ : mg "_law_question" = some (.ref gq))
    (GSh : FnOk P w K mg base CX0 4 gh dh ["_law_question_here"] (spSh 2)) (bSh : Binds K dh ["_law_question_here"] []) (kSh : PySem.W.keepIn K (.ref gh) = true) (mSh : mg "_law_shown" = some (.ref gh))
    (GSpo : FnOk P w K mg base CX0 2 gp dp ["_law_line", "_law_draws_here"] spSpo) (bSpo : Binds K dp ["_law_line", "_law_draws_here"] []) (kSpo : PySem.W.keepIn K (.ref gp) = true) (mSpo : mg "_law_spoilt" = some (.ref gp))
    (GLR : FnOk P w K mg base CX0 58 gr dr ["_law_line"] (spLR 27)) (bLR : Binds K dr ["_law_line"] []) (kLR : PySem.W.keepIn K (.ref gr) = true) (mLR : mg "_law_read" = some (.ref gr))
    (GSz : FnOk P w K mg base CX0 29 gz dz ["_law_question_here", "_law_deep"] (spSz 27)) (bSz : Binds K dz ["_law_question_here", "_law_deep"] []) (kSz : PySem.W.keepIn K (.ref gz) = true) (mSz : mg "_law_size" = some (.ref gz))
    (GOn : FnOk P w K mg base CX0 1 go dO ["_law_error"] (spOn NT)) (bOn : Binds K dO ["_law_error"] []) (kOn : PySem.W.keepIn K (.ref go) = true) (mOn : mg "_law_only" = some (.ref go))
    (GRQ : FnOk P w K mg base (CXe P w) 124 gs ds ["line"] (spRQ NT Tt 27)) (bRQ : Binds K ds ["line"] []) (kRQ : PySem.W.keepIn K (.ref gs) = true) (mRQ : mg "read_question" = some (.ref gs)) : FnOk P w K mg base CX0 125 f fd ["_law_script"] (spLaw K Tt) := by
  refine F.ok scLw (fun vs H Q E h => ?_) (fun cdv A outer s H vs Q E hr h => ?_)
  · obtain ⟨a, ns, rfl, _⟩ := h
    rfl
  obtain ⟨a, ns, rfl, hS, hl, hT, hq⟩ := h
  have hr1 : Room 1 _ := hr.mono (by decide)
  have hr2 : Room 2 _ := hr.mono (by decide)
  have hr4 : Room 4 _ := hr.mono (by decide)
  have hr5 : Room 5 _ := hr.mono (by decide)
  have hr29 : Room 29 _ := hr.mono (by decide)
  have hr58 : Room 58 _ := hr.mono (by decide)
  refine ⟨_, (@pss_cons _ _ _ _ _ (ps_set (i := 1) scLw.nd rfl (Or.inl rfl) (pe_call GPo hr2 rfl mPo kPo bPo .nil pass0 (pa_cons (pe_call GD hr2 rfl mD kD bD .nil pass0 (pa_cons (pv 0) (pa_cons pe_int (pa_cons pe_int pa_nil)))) pa_nil)))
    (@pss_cons _ _ _ _ _ (ps_set (i := 2) scLw.nd rfl (Or.inl rfl) (pe_call GQ hr5 rfl mQ kQ bQ .nil pass0 (pa_cons (pe_call GD hr2 rfl mD kD bD .nil pass0 (pa_cons (pv 0) (pa_cons pe_int (pa_cons pe_int pa_nil)))) (pa_cons (pv 1) (pa_cons pe_int pa_nil)))))
    (@pss_cons _ _ _ _ _ (ps_set (i := 3) scLw.nd rfl (Or.inl rfl) (pe_call GSpo hr2 rfl mSpo kSpo bSpo .nil pass0 (pa_cons (pe_call GSh hr4 rfl mSh kSh bSh .nil pass0 (pa_cons (pv 2) pa_nil)) (pa_cons (pe_call GD hr2 rfl mD kD bD .nil pass0 (pa_cons (pv 0) (pa_cons pe_int (pa_cons pe_int pa_nil)))) pa_nil))))
    (@pss_cons _ _ _ _ _ (ps_set (i := 4) scLw.nd rfl (Or.inl rfl) (pe_call GLR hr58 rfl mLR kLR bLR .nil pass0 (pa_cons (pv 3) pa_nil)))
    (@pss_cons _ _ _ _ _ (@ps_if _ _ _ _ _ _ _ _ (@PW.pt _ _ _ (@pw_and _ _ _ _ _ _ _ (@pt_cmpR _ _ _ _ _ _ _ _ op_notN (pv 4) pe_non (nomark _)) (@pw_and1 _ _ _ _ (@pt_cmpR _ _ _ _ _ _ _ _ op_ne (pe_ix (ixT K) (pv 4) pe_int (fun _ _ => rfl)) pe_str (nomark _))))) (@pss_one _ _ _ (ps_set (i := 4) scLw.nd rfl (Or.inl rfl) pe_non)) pss_nil)
    (@pss_cons _ _ _ _ _ (@ps_if _ _ _ _ _ _ _ _ (@pt_cmpR _ _ _ _ _ _ _ _ op_notN (pv 4) pe_non (nomark _)) (@pss_cons _ _ _ _ _ (ps_asg (pe_call GSz hr29 rfl mSz kSz bSz .nil pass0 (pa_cons (pe_ix (ixT K) (pv 4) pe_int (fun _ _ => rfl)) (pa_cons pe_int pa_nil))) (pgT K (n := 2) rfl (pgs_cons (pg_name (i := 5) scLw.nd rfl (Or.inl rfl)) (pgs_cons (pg_name (i := 6) scLw.nd rfl (Or.inl rfl)) pgs_nil))))
    (@pss_one _ _ _ (@ps_if _ _ _ _ _ _ _ _ (@PW.pt _ _ _ (@pw_or _ _ _ _ _ _ _ (@pt_cmpR _ _ _ _ _ _ _ _ op_gt (pv 5) pe_int (nomark _)) (@pw_or1 _ _ _ _ (@pt_cmpR _ _ _ _ _ _ _ _ op_gt (pv 6) pe_int (nomark _))))) (@pss_one _ _ _ (@ps_ret _ _ _ _ pe_bl)) pss_nil))) pss_nil)
    (@pss_cons _ _ _ _ _ (ps_set (i := 7) scLw.nd rfl (Or.inl rfl) pe_non)
    (@pss_cons _ _ _ _ _ (ps_set (i := 8) scLw.nd rfl (Or.inl rfl) pe_non)
    (@pss_cons _ _ _ _ _ (ps_tryAs (i := 9) rfl rfl rfl mFE xFE scLw.nd rfl rfl (fun _ _ => pss_one (ps_set (i := 8) scLw.nd rfl (Or.inl rfl) (pe_callT GRQ hr rfl mRQ kRQ bRQ (pa_cons (pv 3) pa_nil)))) (fun _ => pss_one (ps_set (i := 7) scLw.nd rfl (Or.inl rfl) (pv 9))))
    (@pss_cons _ _ _ _ _ (@ps_if _ _ _ _ _ _ _ _ (@pt_cmpR _ _ _ _ _ _ _ _ op_isN (pv 4) pe_non (nomark _)) (@pss_one _ _ _ (@ps_ret _ _ _ _ (pe_and (pe_call GOn hr1 rfl mOn kOn bOn .nil pass0 (pa_cons (pv 7) pa_nil)) (pe_one (pe_callB (call_isiX K) rfl T.isinstance (by decide +kernel) (pa_cons (pv 7) (pa_cons (pe_bltn (v := .ty "ValueError") rfl T.valueError (by decide +kernel) rfl) pa_nil))))))) pss_nil)
    (@pss_one _ _ _ (@ps_ret _ _ _ _ (pe_and (pe_cmpR op_isN (pv 7) pe_non (nomark _)) (pe_and (pe_callB (call_isi K) rfl T.isinstance (by decide +kernel) (pa_cons (pv 8) (pa_cons (pe_bltn (v := .ty "tuple") rfl T.tuple (by decide +kernel) rfl) pa_nil))) (pe_one (pe_cmpR (op_eqDK K hr1) (pv 8) (pe_ix (ixT K) (pv 4) pe_int (fun _ _ => rfl)) (nomark _))))))))))))))))), ?_⟩
  refine seq_inv (fun σ L => ∃ (pp : Addr) (ws : List Str), σ = [some (.ref a), some (.ref pp), none, none, none, none, none, none, none, none] ∧ Same H L ∧ L pp = some (.lst (ws.map V.str)) ∧ okPl ws) ?_ (fun N hN => ?_)
  rotate_left
  · simpa only [and_self]
    exact ⟨a, ns, 1, 2, rfl, hS, hl, by decide, by decide, by decide, by decide, fun r1 H1 s1 n1 e1 => ⟨r1, _, rfl, e1, fun pp ws H2 s2 n2 e2 okw => hN _ _ ⟨pp, ws, rfl, SameX.out s1 n1 s2, e2, okw⟩⟩⟩
  rintro σ L ⟨pp, ws, rfl, sL, hpp, okw⟩
  refine seq_inv (fun σ M => ∃ (v : V) (q : Qn), σ = [some (.ref a), some (.ref pp), some v, none, none, none, none, none, none, none] ∧ Same H M ∧ OkQ 2 q ∧ (shown q).length ≤ 4800 ∧ cnt (shown q) ≤ 4 ∧ DeepT M (dvQ q) v) ?_ (fun N hN => ?_)
  rotate_left
  · simpa only [and_self]
    refine ⟨a, ns, 400, 40, rfl, sL.seq hS, hl, by decide, by decide, by decide, by decide, fun r3 H3 s3 n3 e3 => ⟨r3, pp, _, ws, rfl, okw, e3, s3 _ _ hpp, fun e => (by rw [e, hpp] at n3; cases n3), fun v H4 s4 e4 d4 => ?_⟩⟩
    obtain ⟨okq, lnq⟩ := q_ok okw 2 (drF ns 400 40)
    have cq := cnt_q okw 2 (drF ns 400 40)
    obtain ⟨QQ, hQQ⟩ : ∃ q, q = (qF ws 2 (drF ns 400 40)).1 := ⟨_, rfl⟩
    rw [← hQQ] at okq lnq d4 cq
    exact hN _ _ ⟨v, QQ, rfl, sL.trans (SameX.out s3 n3 s4), okq, lnq, cq, DeepT.same (hide_same _ _) _ _ d4⟩
  rintro σ M ⟨v, q0, rfl, sM, okq, lnq, cq, dv⟩
  refine seq_inv (fun σ X => ∃ z : Str, σ = [some (.ref a), some (.ref pp), some v, some (.str z), none, none, none, none, none, none] ∧ Same H X ∧ z.length ≤ 400 ∧ cnt (cs z) ≤ 27) ?_ (fun N hN => ?_)
  rotate_left
  · simpa only [and_self]
    refine ⟨v, q0, rfl, okq, by omega, dv, fun z H5 s5 hz => ?_⟩
    have lz : z.length ≤ 5000 := by have := congrArg List.length hz; rw [slen] at this; omega
    refine ⟨a, ns, 500, 8, rfl, (sM.trans s5).seq hS, hl, by decide, by decide, by decide, by decide, fun r6 H6 s6 n6 e6 => ⟨z, r6, _, rfl, e6, lz, by rw [show cs z = shown q0 from hz]; exact cq, fun z' H7 s7 h1 h2 => hN _ _ ⟨z', rfl, (sM.trans s5).trans (SameX.out s6 n6 s7), h1, h2⟩⟩⟩
  rintro σ X ⟨z, rfl, sX, hz, hc⟩
  refine seq_inv (fun σ Y => ∃ (d : V), σ = [some (.ref a), some (.ref pp), some v, some (.str z), some d, none, none, none, none, none] ∧ Same H Y ∧ ((∃ (q : Qn) (r : Str) (p : Addr) (x : V), d = .ref p ∧ rq tlL 27 (cs z) = some (q, cs r) ∧ Y p = some (.tup [x, .str r]) ∧ DeepT Y (dvQ q) x) ∨ d = .non ∧ rq tlL 27 (cs z) = none)) ?_ (fun N hN => ?_)
  rotate_left
  · simpa only [and_self]
    exact ⟨z, rfl, hz, hc, fun q r hrl hw p x H1 s1 hp h1 dx => hN _ _ ⟨_, rfl, sX.trans s1, .inl ⟨q, r, p, x, rfl, hw, h1, DeepT.same nw_sub _ _ dx⟩⟩, fun hn H1 s1 => hN _ _ ⟨_, rfl, sX.trans s1, .inr ⟨rfl, hn⟩⟩⟩
  rintro σ Y ⟨d, rfl, sY, hd⟩
  refine seq_inv (fun σ X => ∃ (d : V), σ = [some (.ref a), some (.ref pp), some v, some (.str z), some d, none, none, none, none, none] ∧ Same H X ∧ Due X (cs z) d) ?_ (fun N hN => ?_)
  rotate_left
  · rcases hd with ⟨q, r, p, x, rfl, hw, hp, dx⟩ | ⟨rfl, hn⟩
    · have hA : rAll tlL 27 (cs z) = if cs r = [] then some q else none := by unfold rAll; rw [hw]
      simpa only [and_self]
      rw [if_pos (by decide)]
      refine ⟨_, SqT.of hp, .str r, rfl, rfl, ite2 (fun c => ?_) (fun c => ?_)⟩
      · have c' := nb_t c
        refine hN _ _ ⟨.non, rfl, sY, .inr ⟨rfl, ?_⟩⟩
        rw [hA, if_neg fun e => c' ?_]
        rw [show r = "" from sExt (by rw [show r.cps.toList = cs r from rfl, e]; decide +kernel)]
      · have c' := nb_f c
        refine hN _ _ ⟨.ref p, rfl, sY, .inl ⟨q, p, x, .str r, rfl, ?_, hp, dx, nst_rq 27 _ _ hw⟩⟩
        have e : r = "" := V.str.inj c'
        rw [hA, if_pos (by rw [e]; decide +kernel)]
    · simpa only [and_self]
      rw [if_neg (by decide)]
      exact hN _ _ ⟨.non, rfl, sY, .inr ⟨rfl, by unfold rAll; rw [hn]⟩⟩
  clear hd d
  rintro σ X ⟨d, rfl, sX', hd⟩
  refine seq_inv (fun σ Y => ∃ (v5 v6 : Option V), σ = [some (.ref a), some (.ref pp), some v, some (.str z), some d, v5, v6, none, none, none] ∧ Same H Y ∧ Due Y (cs z) d) ?_ (fun N hN => ?_)
  rotate_left
  · rcases hd with ⟨q, p, x, y, rfl, hA, hp, dx, hn⟩ | ⟨rfl, hA⟩
    · simpa only [and_self]
      rw [if_pos (by decide)]
      exact ⟨_, SqT.of hp, x, rfl, x, q, 1, rfl, hn, dx, fun pt m1 m2 H1 s1 e1 => ⟨pt, rfl, _, SqT.of e1, rfl, _, _, rfl, _, _, rfl, rfl, m1, rfl, ite2 (fun c => hq _) (fun c => ⟨m2, rfl, ite2 (fun c2 => hq _) (fun c2 => hN _ _ ⟨_, _, rfl, sX'.trans s1, Due.same (.inl ⟨q, p, x, y, rfl, hA, hp, dx, hn⟩) s1⟩)⟩)⟩⟩
    · simpa only [and_self]
      rw [if_neg (by decide)]
      exact hN _ _ ⟨_, _, rfl, sX', .inr ⟨rfl, hA⟩⟩
  clear hd sX'
  rintro σ Y ⟨v5, v6, rfl, sY', hd⟩
  refine seq_inv (fun σ X => σ = [some (.ref a), some (.ref pp), some v, some (.str z), some d, v5, v6, some .non, none, none] ∧ X = Y) ?_ (fun N hN => ?_)
  rotate_left
  · simpa only [and_self]
    exact hN _ _ ⟨rfl, rfl⟩
  rintro σ X ⟨rfl, rfl⟩
  refine seq_inv (fun σ Y => σ = [some (.ref a), some (.ref pp), some v, some (.str z), some d, v5, v6, some .non, some .non, none] ∧ Y = X) ?_ (fun N hN => ?_)
  rotate_left
  · simpa only [and_self]
    exact hN _ _ ⟨rfl, rfl⟩
  rintro σ Y ⟨rfl, rfl⟩
  refine seq_inv (fun σ X => ∃ (kv fv : V), σ = [some (.ref a), some (.ref pp), some v, some (.str z), some d, v5, v6, some kv, some fv, none] ∧ Due X (cs z) d ∧ ((∃ q, rAll tkP 27 (cs z) = some q ∧ kv = .non ∧ DeepT X (dvQ q) fv) ∨ rAll tkP 27 (cs z) = none ∧ ∃ e, kv = .ref e ∧ X e = some (XO e (.ref NT) none))) ?_ (fun N hN => ?_)
  rotate_left
  · simpa only [tTry, tCallT]
    have hTY : LT Tt Y := lt_same hT sY'
    refine ⟨fun σ' e H' => σ' = [some (.ref a), some (.ref pp), some v, some (.str z), some d, v5, v6, some .non, some .non, none] ∧ rAll tkP 27 (cs z) = none ∧ Due H' (cs z) d ∧ H' e = some (XO e (.ref NT) none), ⟨fun v' _ H' => ∃ e, v' = .ref e ∧ rAll tkP 27 (cs z) = none ∧ Due H' (cs z) d ∧ H' e = some (XO e (.ref NT) none), ⟨z, rfl, hz, hc, by decide, hTY, fun q hA v' H' k lt dv' => hN _ _ ⟨_, _, rfl, hd.kp k hTY, .inl ⟨q, hA, rfl, DeepT.same nw_sub _ _ dv'⟩⟩, fun hA e H' k he hx => ⟨e, rfl, hA, hd.kp k hTY, hx⟩⟩, ?_⟩, ?_⟩
    · rintro e H' ⟨e', he', h⟩
      cases he'
      exact ⟨rfl, h⟩
    · rintro σ' e C dx H' ⟨rfl, hA, hdu, hx⟩ hC
      have hh := (XO_inj (Option.some.inj (hx.symm.trans hC))).1
      exact ⟨NT, hh.symm, hfe, .ref e, rfl, hN _ _ ⟨_, _, rfl, hdu, .inr ⟨hA, e, rfl, hx⟩⟩⟩
  rintro σ X ⟨kv, fv, rfl, hd', hx⟩
  simpa only [and_self]
  rw [← all_same] at hx
  rcases hd' with ⟨q, p, x, y, rfl, hA, hp, dx, hn⟩ | ⟨rfl, hA⟩
  · rcases hx with ⟨q', hA', rfl, dfv⟩ | ⟨hA', _⟩
    · rw [hA] at hA'
      cases hA'
      rw [if_neg (by simp), if_pos (by simp)]
      obtain ⟨ds, eds⟩ := dv_tup q
      have hdep : dep (.tup ds) ≤ 60 := by rw [← eds]; have := dep_n 27 _ hn; omega
      have d1 := dfv
      rw [eds] at d1 dx
      obtain ⟨pf, us, rfl, hpf, _⟩ := deep_t d1
      refine ⟨"tuple", rfl, _, TyOf.tup hpf, true, i2, ?_⟩
      rw [if_pos rfl]
      exact ⟨p, rfl, _, SqT.of hp, x, rfl, .tup ds, ds, .inr rfl, hdep, DeepT.deep _ _ d1, DeepT.deep _ _ dx, hq _⟩
    · rw [hA] at hA'; cases hA'
  · rcases hx with ⟨q', hA', _, _⟩ | ⟨hA', e, rfl, he⟩
    · rw [hA] at hA'; cases hA'
    · rw [if_pos (by simp)]
      refine ⟨e, rfl, he, fun H' s' => ⟨true, rfl, ?_⟩⟩
      rw [if_pos rfl]
      exact ⟨_, .inr ⟨e, NT, none, rfl, rfl, s' _ _ he, (fun a z => by cases z), xa⟩, true, .inr ⟨_, rfl, hve⟩, hq _⟩
end
theorem all_mk {l : PySem.W.OpenLaw} {w : World} {K : PySem.W.Frag} {h : Heap} {mg : Str → Option Value} {fa f1 f2 f3 f4 f5 f6 f7 f8 f9 f10 f11 f12 f13 f14 f15 f16 f17 f18 f19 f20 f21 f22 f23 f24 f25 f26 f27 f28 f29 f30 f31 f32 f33 f34 f35 fsSI fsSees fsPas fsPO fsWh fsEnd SC FE NF NM NB ND NS NQ NP NL NT aS aB cc Tt : Addr} (X : K.In h) (G : h.Ns mainGlobals mg) (hfa : mg "law" = some (.ref fa))
    {od1 an1 od2 an2 od3 an3 od4 an4 od5 an5 od6 an6 od7 an7 od8 an8 od9 an9 od10 an10 od11 an11 od12 an12 od13 an13 od14 an14 od15 an15 od16 an16 od17 an17 od18 an18 od19 an19 od20 an20 od21 an21 od22 an22 od23 an23 od24 an24 od25 an25 od26 an26 od27 an27 od28 an28 od29 an29 od30 an30 od31 an31 od32 an32 od33 an33 od34 an34 od35 an35 odsSI ansSI odsSees ansSees odsPas ansPas odsPO ansPO odsWh ansWh odsEnd ansEnd : Option Addr} {sl1 sl2 sl3 sl4 sl5 sl6 sl7 sl8 sl9 sl10 sl11 sl12 sl13 sl14 sl15 sl16 sl17 sl18 sl19 sl20 sl21 sl22 sl23 sl24 sl25 sl26 sl27 sl28 sl29 sl30 sl31 sl32 sl33 sl34 sl35 slsSI slsSees slsPas slsPO slsWh slsEnd : Array (Option Value)} {oc1 kV1 dc1 pm1 ct1 cd1 oc2 kV2 dc2 pm2 ct2 cd2 oc3 kV3 dc3 pm3 ct3 cd3 oc4 kV4 dc4 pm4 ct4 cd4 oc5 kV5 dc5 pm5 ct5 cd5 oc6 kV6 dc6 pm6 ct6 cd6 oc7 kV7 dc7 pm7 ct7 cd7 oc8 kV8 dc8 pm8 ct8 cd8 oc9 kV9 dc9 pm9 ct9 cd9 oc10 kV10 dc10 pm10 ct10 cd10 oc11 kV11 dc11 pm11 ct11 cd11 oc12 kV12 dc12 pm12 ct12 cd12 oc13 kV13 dc13 pm13 ct13 cd13 oc14 kV14 dc14 pm14 ct14 cd14 oc15 kV15 dc15 pm15 ct15 cd15 oc16 kV16 dc16 pm16 ct16 oc17 kV17 dc17 pm17 ct17 cd17 oc18 kV18 dc18 pm18 ct18 cd18 oc19 kV19 dc19 pm19 ct19 cd19 oc20 kV20 dc20 pm20 ct20 cd20 oc21 kV21 dc21 pm21 ct21 cd21 oc22 kV22 dc22 pm22 ct22 cd22 oc23 kV23 dc23 pm23 ct23 cd23 oc24 kV24 dc24 pm24 ct24 cd24 oc25 kV25 dc25 pm25 ct25 cd25 oc26 kV26 dc26 pm26 ct26 cd26 oc27 kV27 dc27 pm27 ct27 cd27 oc28 kV28 dc28 pm28 ct28 cd28 oc29 kV29 dc29 pm29 ct29 cd29 oc30 kV30 dc30 pm30 ct30 cd30 oc31 kV31 dc31 pm31 ct31 cd31 oc32 kV32 dc32 pm32 ct32 cd32 oc33 kV33 dc33 pm33 ct33 cd33 oc34 kV34 dc34 pm34 ct34 cd34 oc35 kV35 dc35 pm35 ct35 cd35 ocsSI kVsSI dcsSI pmsSI ctsSI cdsSI ocsSees kVsSees dcsSees pmsSees ctsSees cdsSees ocsPas kVsPas dcsPas pmsPas ctsPas cdsPas ocsPO kVsPO dcsPO pmsPO ctsPO cdsPO ocsWh kVsWh dcsWh pmsWh ctsWh cdsWh ocsEnd kVsEnd dcsEnd pmsEnd ctsEnd cdsEnd : Value} {tk0 tk1 tk2 tk3 tk4 tk5 tk6 tk7 : Tok}
    {tS1 tS2 tS3 tS4 tB1 tB2 tB3 tB4 : Tok} {eS eB : Nat}
    {oNT : Obj} {NsA NN : Addr} {ddE d1E d1N : Option Addr} {cdE : ClassData} {slE sl1E sl1N : Array (Option Value)} {c1E c1N : Value} {esE esN : Array DictEntry} {nE nN : Nat}
    (a1 : PySem.W.nsIn K mainGlobals "is_small_letter" = some (some (.ref f1)))
    (l1 : K.lookup f1 = some ⟨oc1, od1, .func (PySem.W.fnOf "is_small_letter" "is_small_letter" (defArgs sSmall) (defBody sSmall) (defScope sSmall) .none kV1 dc1 pm1 an1 cd1 ct1), sl1⟩)
    (c1 : PySem.W.codeIn K cd1 "is_small_letter" = true)
    (k1 : PySem.W.keepIn K (.ref f1) = true)
    (a2 : PySem.W.nsIn K mainGlobals "is_figure" = some (some (.ref f2)))
    (l2 : K.lookup f2 = some ⟨oc2, od2, .func (PySem.W.fnOf "is_figure" "is_figure" (defArgs sFig) (defBody sFig) (defScope sFig) .none kV2 dc2 pm2 an2 cd2 ct2), sl2⟩)
    (c2 : PySem.W.codeIn K cd2 "is_figure" = true)
    (k2 : PySem.W.keepIn K (.ref f2) = true)
    (a3 : PySem.W.nsIn K mainGlobals "is_word" = some (some (.ref f3)))
    (l3 : K.lookup f3 = some ⟨oc3, od3, .func (PySem.W.fnOf "is_word" "is_word" (defArgs sIW) (defBody sIW) (defScope sIW) .none kV3 dc3 pm3 an3 cd3 ct3), sl3⟩)
    (c3 : PySem.W.codeIn K cd3 "is_word" = true)
    (k3 : PySem.W.keepIn K (.ref f3) = true)
    (a4 : PySem.W.nsIn K mainGlobals "is_name" = some (some (.ref f4)))
    (l4 : K.lookup f4 = some ⟨oc4, od4, .func (PySem.W.fnOf "is_name" "is_name" (defArgs sName) (defBody sName) (defScope sName) .none kV4 dc4 pm4 an4 cd4 ct4), sl4⟩)
    (c4 : PySem.W.codeIn K cd4 "is_name" = true)
    (k4 : PySem.W.keepIn K (.ref f4) = true)
    (a5 : PySem.W.nsIn K mainGlobals "is_pattern_sign" = some (some (.ref f5)))
    (l5 : K.lookup f5 = some ⟨oc5, od5, .func (PySem.W.fnOf "is_pattern_sign" "is_pattern_sign" (defArgs sPS) (defBody sPS) (defScope sPS) .none kV5 dc5 pm5 an5 cd5 ct5), sl5⟩)
    (c5 : PySem.W.codeIn K cd5 "is_pattern_sign" = true)
    (k5 : PySem.W.keepIn K (.ref f5) = true)
    (a6 : PySem.W.nsIn K mainGlobals "look_at_depth" = some (some (.ref f6)))
    (l6 : K.lookup f6 = some ⟨oc6, od6, .func (PySem.W.fnOf "look_at_depth" "look_at_depth" (defArgs sDp) (defBody sDp) (defScope sDp) .none kV6 dc6 pm6 an6 cd6 ct6), sl6⟩)
    (c6 : PySem.W.codeIn K cd6 "look_at_depth" = true)
    (k6 : PySem.W.keepIn K (.ref f6) = true)
    (a7 : PySem.W.nsIn K mainGlobals "next_name" = some (some (.ref f7)))
    (l7 : K.lookup f7 = some ⟨oc7, od7, .func (PySem.W.fnOf "next_name" "next_name" (defArgs sNN) (defBody sNN) (defScope sNN) .none kV7 dc7 pm7 an7 cd7 ct7), sl7⟩)
    (c7 : PySem.W.codeIn K cd7 "next_name" = true)
    (k7 : PySem.W.keepIn K (.ref f7) = true)
    (a8 : PySem.W.nsIn K mainGlobals "next_word" = some (some (.ref f8)))
    (l8 : K.lookup f8 = some ⟨oc8, od8, .func (PySem.W.fnOf "next_word" "next_word" (defArgs sNW) (defBody sNW) (defScope sNW) .none kV8 dc8 pm8 an8 cd8 ct8), sl8⟩)
    (c8 : PySem.W.codeIn K cd8 "next_word" = true)
    (k8 : PySem.W.keepIn K (.ref f8) = true)
    (a9 : PySem.W.nsIn K mainGlobals "next_list" = some (some (.ref f9)))
    (l9 : K.lookup f9 = some ⟨oc9, od9, .func (PySem.W.fnOf "next_list" "next_list" (defArgs sNL) (defBody sNL) (defScope sNL) .none kV9 dc9 pm9 an9 cd9 ct9), sl9⟩)
    (c9 : PySem.W.codeIn K cd9 "next_list" = true)
    (k9 : PySem.W.keepIn K (.ref f9) = true)
    (a10 : PySem.W.nsIn K mainGlobals "is_bare" = some (some (.ref f10)))
    (l10 : K.lookup f10 = some ⟨oc10, od10, .func (PySem.W.fnOf "is_bare" "is_bare" (defArgs sBare) (defBody sBare) (defScope sBare) .none kV10 dc10 pm10 an10 cd10 ct10), sl10⟩)
    (c10 : PySem.W.codeIn K cd10 "is_bare" = true)
    (k10 : PySem.W.keepIn K (.ref f10) = true)
    (a11 : PySem.W.nsIn K mainGlobals "next_asked_word" = some (some (.ref f11)))
    (l11 : K.lookup f11 = some ⟨oc11, od11, .func (PySem.W.fnOf "next_asked_word" "next_asked_word" (defArgs sAW) (defBody sAW) (defScope sAW) .none kV11 dc11 pm11 an11 cd11 ct11), sl11⟩)
    (c11 : PySem.W.codeIn K cd11 "next_asked_word" = true)
    (k11 : PySem.W.keepIn K (.ref f11) = true)
    (a12 : PySem.W.nsIn K mainGlobals "next_words" = some (some (.ref f12)))
    (l12 : K.lookup f12 = some ⟨oc12, od12, .func (PySem.W.fnOf "next_words" "next_words" (defArgs sNWs) (defBody sNWs) (defScope sNWs) .none kV12 dc12 pm12 an12 cd12 ct12), sl12⟩)
    (c12 : PySem.W.codeIn K cd12 "next_words" = true)
    (k12 : PySem.W.keepIn K (.ref f12) = true)
    (a13 : PySem.W.nsIn K mainGlobals "width_of" = some (some (.ref f13)))
    (l13 : K.lookup f13 = some ⟨oc13, od13, .func (PySem.W.fnOf "width_of" "width_of" (defArgs sWi) (defBody sWi) (defScope sWi) .none kV13 dc13 pm13 an13 cd13 ct13), sl13⟩)
    (c13 : PySem.W.codeIn K cd13 "width_of" = true)
    (k13 : PySem.W.keepIn K (.ref f13) = true)
    (a14 : PySem.W.nsIn K mainGlobals "next_asked" = some (some (.ref f14)))
    (l14 : K.lookup f14 = some ⟨oc14, od14, .func (PySem.W.fnOf "next_asked" "next_asked" (defArgs sNA) (defBody sNA) (defScope sNA) .none kV14 dc14 pm14 an14 cd14 ct14), sl14⟩)
    (c14 : PySem.W.codeIn K cd14 "next_asked" = true)
    (k14 : PySem.W.keepIn K (.ref f14) = true)
    (a15 : PySem.W.nsIn K mainGlobals "next_none_or_one" = some (some (.ref f15)))
    (l15 : K.lookup f15 = some ⟨oc15, od15, .func (PySem.W.fnOf "next_none_or_one" "next_none_or_one" (defArgs sNO) (defBody sNO) (defScope sNO) .none kV15 dc15 pm15 an15 cd15 ct15), sl15⟩)
    (c15 : PySem.W.codeIn K cd15 "next_none_or_one" = true)
    (k15 : PySem.W.keepIn K (.ref f15) = true)
    (a16 : PySem.W.nsIn K mainGlobals "next_bracket" = some (some (.ref f16)))
    (l16 : K.lookup f16 = some ⟨oc16, od16, .func (PySem.W.fnOf "next_bracket" "next_bracket" (defArgs sNB) (defBody sNB) (defScope sNB) .none kV16 dc16 pm16 an16 (.ref cc) ct16), sl16⟩)
    (c16 : PySem.W.codeIn K (.ref cc) "next_bracket" = true)
    (k16 : PySem.W.keepIn K (.ref f16) = true)
    (a17 : PySem.W.nsIn K mainGlobals "next_question" = some (some (.ref f17)))
    (l17 : K.lookup f17 = some ⟨oc17, od17, .func (PySem.W.fnOf "next_question" "next_question" (defArgs sNQ) (defBody sNQ) (defScope sNQ) .none kV17 dc17 pm17 an17 cd17 ct17), sl17⟩)
    (c17 : PySem.W.codeIn K cd17 "next_question" = true)
    (k17 : PySem.W.keepIn K (.ref f17) = true)
    (a18 : PySem.W.nsIn K mainGlobals "read_question" = some (some (.ref f18)))
    (l18 : K.lookup f18 = some ⟨oc18, od18, .func (PySem.W.fnOf "read_question" "read_question" (defArgs sRQ) (defBody sRQ) (defScope sRQ) .none kV18 dc18 pm18 an18 cd18 ct18), sl18⟩)
    (c18 : PySem.W.codeIn K cd18 "read_question" = true)
    (k18 : PySem.W.keepIn K (.ref f18) = true)
    (a19 : PySem.W.nsIn K mainGlobals "_law_mix" = some (some (.ref f19)))
    (l19 : K.lookup f19 = some ⟨oc19, od19, .func (PySem.W.fnOf "_law_mix" "_law_mix" (defArgs sMix) (defBody sMix) (defScope sMix) .none kV19 dc19 pm19 an19 cd19 ct19), sl19⟩)
    (c19 : PySem.W.codeIn K cd19 "_law_mix" = true)
    (k19 : PySem.W.keepIn K (.ref f19) = true)
    (a20 : PySem.W.nsIn K mainGlobals "_law_draws" = some (some (.ref f20)))
    (l20 : K.lookup f20 = some ⟨oc20, od20, .func (PySem.W.fnOf "_law_draws" "_law_draws" (defArgs sDraws) (defBody sDraws) (defScope sDraws) .none kV20 dc20 pm20 an20 cd20 ct20), sl20⟩)
    (c20 : PySem.W.codeIn K cd20 "_law_draws" = true)
    (k20 : PySem.W.keepIn K (.ref f20) = true)
    (a21 : PySem.W.nsIn K mainGlobals "_law_pop" = some (some (.ref f21)))
    (l21 : K.lookup f21 = some ⟨oc21, od21, .func (PySem.W.fnOf "_law_pop" "_law_pop" (defArgs sPop) (defBody sPop) (defScope sPop) .none kV21 dc21 pm21 an21 cd21 ct21), sl21⟩)
    (c21 : PySem.W.codeIn K cd21 "_law_pop" = true)
    (k21 : PySem.W.keepIn K (.ref f21) = true)
    (a22 : PySem.W.nsIn K mainGlobals "_law_pool" = some (some (.ref f22)))
    (l22 : K.lookup f22 = some ⟨oc22, od22, .func (PySem.W.fnOf "_law_pool" "_law_pool" (defArgs sPool) (defBody sPool) (defScope sPool) .none kV22 dc22 pm22 an22 cd22 ct22), sl22⟩)
    (c22 : PySem.W.codeIn K cd22 "_law_pool" = true)
    (k22 : PySem.W.keepIn K (.ref f22) = true)
    (a23 : PySem.W.nsIn K mainGlobals "_law_field" = some (some (.ref f23)))
    (l23 : K.lookup f23 = some ⟨oc23, od23, .func (PySem.W.fnOf "_law_field" "_law_field" (defArgs sLFd) (defBody sLFd) (defScope sLFd) .none kV23 dc23 pm23 an23 cd23 ct23), sl23⟩)
    (c23 : PySem.W.codeIn K cd23 "_law_field" = true)
    (k23 : PySem.W.keepIn K (.ref f23) = true)
    (a24 : PySem.W.nsIn K mainGlobals "_law_pattern" = some (some (.ref f24)))
    (l24 : K.lookup f24 = some ⟨oc24, od24, .func (PySem.W.fnOf "_law_pattern" "_law_pattern" (defArgs sPat) (defBody sPat) (defScope sPat) .none kV24 dc24 pm24 an24 cd24 ct24), sl24⟩)
    (c24 : PySem.W.codeIn K cd24 "_law_pattern" = true)
    (k24 : PySem.W.keepIn K (.ref f24) = true)
    (a25 : PySem.W.nsIn K mainGlobals "_law_question" = some (some (.ref f25)))
    (l25 : K.lookup f25 = some ⟨oc25, od25, .func (PySem.W.fnOf "_law_question" "_law_question" (defArgs sQu) (defBody sQu) (defScope sQu) .none kV25 dc25 pm25 an25 cd25 ct25), sl25⟩)
    (c25 : PySem.W.codeIn K cd25 "_law_question" = true)
    (k25 : PySem.W.keepIn K (.ref f25) = true)
    (a26 : PySem.W.nsIn K mainGlobals "_law_shown" = some (some (.ref f26)))
    (l26 : K.lookup f26 = some ⟨oc26, od26, .func (PySem.W.fnOf "_law_shown" "_law_shown" (defArgs sSh) (defBody sSh) (defScope sSh) .none kV26 dc26 pm26 an26 cd26 ct26), sl26⟩)
    (c26 : PySem.W.codeIn K cd26 "_law_shown" = true)
    (k26 : PySem.W.keepIn K (.ref f26) = true)
    (a27 : PySem.W.nsIn K mainGlobals "_law_run" = some (some (.ref f27)))
    (l27 : K.lookup f27 = some ⟨oc27, od27, .func (PySem.W.fnOf "_law_run" "_law_run" (defArgs sRun) (defBody sRun) (defScope sRun) .none kV27 dc27 pm27 an27 cd27 ct27), sl27⟩)
    (c27 : PySem.W.codeIn K cd27 "_law_run" = true)
    (k27 : PySem.W.keepIn K (.ref f27) = true)
    (a28 : PySem.W.nsIn K mainGlobals "_law_listed" = some (some (.ref f28)))
    (l28 : K.lookup f28 = some ⟨oc28, od28, .func (PySem.W.fnOf "_law_listed" "_law_listed" (defArgs sLd) (defBody sLd) (defScope sLd) .none kV28 dc28 pm28 an28 cd28 ct28), sl28⟩)
    (c28 : PySem.W.codeIn K cd28 "_law_listed" = true)
    (k28 : PySem.W.keepIn K (.ref f28) = true)
    (a29 : PySem.W.nsIn K mainGlobals "_law_asked" = some (some (.ref f29)))
    (l29 : K.lookup f29 = some ⟨oc29, od29, .func (PySem.W.fnOf "_law_asked" "_law_asked" (defArgs sLA) (defBody sLA) (defScope sLA) .none kV29 dc29 pm29 an29 cd29 ct29), sl29⟩)
    (c29 : PySem.W.codeIn K cd29 "_law_asked" = true)
    (k29 : PySem.W.keepIn K (.ref f29) = true)
    (a30 : PySem.W.nsIn K mainGlobals "_law_put" = some (some (.ref f30)))
    (l30 : K.lookup f30 = some ⟨oc30, od30, .func (PySem.W.fnOf "_law_put" "_law_put" (defArgs sLP) (defBody sLP) (defScope sLP) .none kV30 dc30 pm30 an30 cd30 ct30), sl30⟩)
    (c30 : PySem.W.codeIn K cd30 "_law_put" = true)
    (k30 : PySem.W.keepIn K (.ref f30) = true)
    (a31 : PySem.W.nsIn K mainGlobals "_law_read" = some (some (.ref f31)))
    (l31 : K.lookup f31 = some ⟨oc31, od31, .func (PySem.W.fnOf "_law_read" "_law_read" (defArgs sLR) (defBody sLR) (defScope sLR) .none kV31 dc31 pm31 an31 cd31 ct31), sl31⟩)
    (c31 : PySem.W.codeIn K cd31 "_law_read" = true)
    (k31 : PySem.W.keepIn K (.ref f31) = true)
    (a32 : PySem.W.nsIn K mainGlobals "_law_only" = some (some (.ref f32)))
    (l32 : K.lookup f32 = some ⟨oc32, od32, .func (PySem.W.fnOf "_law_only" "_law_only" (defArgs sOn) (defBody sOn) (defScope sOn) .none kV32 dc32 pm32 an32 cd32 ct32), sl32⟩)
    (c32 : PySem.W.codeIn K cd32 "_law_only" = true)
    (k32 : PySem.W.keepIn K (.ref f32) = true)
    (a33 : PySem.W.nsIn K mainGlobals "_law_spoilt" = some (some (.ref f33)))
    (l33 : K.lookup f33 = some ⟨oc33, od33, .func (PySem.W.fnOf "_law_spoilt" "_law_spoilt" (defArgs sSpo) (defBody sSpo) (defScope sSpo) .none kV33 dc33 pm33 an33 cd33 ct33), sl33⟩)
    (c33 : PySem.W.codeIn K cd33 "_law_spoilt" = true)
    (k33 : PySem.W.keepIn K (.ref f33) = true)
    (a34 : PySem.W.nsIn K mainGlobals "_law_size" = some (some (.ref f34)))
    (l34 : K.lookup f34 = some ⟨oc34, od34, .func (PySem.W.fnOf "_law_size" "_law_size" (defArgs sSz) (defBody sSz) (defScope sSz) .none kV34 dc34 pm34 an34 cd34 ct34), sl34⟩)
    (c34 : PySem.W.codeIn K cd34 "_law_size" = true)
    (k34 : PySem.W.keepIn K (.ref f34) = true)
    (a35 : PySem.W.nsIn K mainGlobals "law" = some (some (.ref f35)))
    (l35 : K.lookup f35 = some ⟨oc35, od35, .func (PySem.W.fnOf "law" "law" (defArgs sLaw) (defBody sLaw) (defScope sLaw) .none kV35 dc35 pm35 an35 cd35 ct35), sl35⟩)
    (c35 : PySem.W.codeIn K cd35 "law" = true)
    (k35 : PySem.W.keepIn K (.ref f35) = true)
    (nSC : PySem.W.nsIn K mainGlobals "Scan" = some (some (.ref SC)))
    (nFE : PySem.W.nsIn K mainGlobals "FindError" = some (some (.ref FE)))
    (nNF : PySem.W.nsIn K mainGlobals "NoField" = some (some (.ref NF)))
    (nNM : PySem.W.nsIn K mainGlobals "NoMake" = some (some (.ref NM)))
    (nNB : PySem.W.nsIn K mainGlobals "NoBytes" = some (some (.ref NB)))
    (nND : PySem.W.nsIn K mainGlobals "NoDocument" = some (some (.ref ND)))
    (nNS : PySem.W.nsIn K mainGlobals "NoStamp" = some (some (.ref NS)))
    (nNQ : PySem.W.nsIn K mainGlobals "NoPiece" = some (some (.ref NQ)))
    (nNP : PySem.W.nsIn K mainGlobals "NoPattern" = some (some (.ref NP)))
    (nNL : PySem.W.nsIn K mainGlobals "NoLine" = some (some (.ref NL)))
    (nNT : PySem.W.nsIn K mainGlobals "NoText" = some (some (.ref NT)))
    (isSI : PySem.W.findIn K (.ref SC) "__init__" = some (some (.ref fsSI)))
    (jsSI : PySem.W.isFn K (.ref fsSI) = true)
    (lsSI : K.lookup fsSI = some ⟨ocsSI, odsSI, .func (PySem.W.fnOf "__init__" "Scan.__init__" (defArgs sSI) (defBody sSI) (defScope sSI) .none kVsSI dcsSI pmsSI ansSI cdsSI ctsSI), slsSI⟩)
    (csSI : PySem.W.codeIn K cdsSI "Scan.__init__" = true)
    (ksSI : PySem.W.keepIn K (.ref fsSI) = true)
    (isSees : PySem.W.findIn K (.ref SC) "sees" = some (some (.ref fsSees)))
    (jsSees : PySem.W.isFn K (.ref fsSees) = true)
    (lsSees : K.lookup fsSees = some ⟨ocsSees, odsSees, .func (PySem.W.fnOf "sees" "Scan.sees" (defArgs sSees) (defBody sSees) (defScope sSees) .none kVsSees dcsSees pmsSees ansSees cdsSees ctsSees), slsSees⟩)
    (csSees : PySem.W.codeIn K cdsSees "Scan.sees" = true)
    (ksSees : PySem.W.keepIn K (.ref fsSees) = true)
    (isPas : PySem.W.findIn K (.ref SC) "passes" = some (some (.ref fsPas)))
    (jsPas : PySem.W.isFn K (.ref fsPas) = true)
    (lsPas : K.lookup fsPas = some ⟨ocsPas, odsPas, .func (PySem.W.fnOf "passes" "Scan.passes" (defArgs sPas) (defBody sPas) (defScope sPas) .none kVsPas dcsPas pmsPas ansPas cdsPas ctsPas), slsPas⟩)
    (csPas : PySem.W.codeIn K cdsPas "Scan.passes" = true)
    (ksPas : PySem.W.keepIn K (.ref fsPas) = true)
    (isPO : PySem.W.findIn K (.ref SC) "pass_over" = some (some (.ref fsPO)))
    (jsPO : PySem.W.isFn K (.ref fsPO) = true)
    (lsPO : K.lookup fsPO = some ⟨ocsPO, odsPO, .func (PySem.W.fnOf "pass_over" "Scan.pass_over" (defArgs sPO) (defBody sPO) (defScope sPO) .none kVsPO dcsPO pmsPO ansPO cdsPO ctsPO), slsPO⟩)
    (csPO : PySem.W.codeIn K cdsPO "Scan.pass_over" = true)
    (ksPO : PySem.W.keepIn K (.ref fsPO) = true)
    (isWh : PySem.W.findIn K (.ref SC) "signs_while" = some (some (.ref fsWh)))
    (jsWh : PySem.W.isFn K (.ref fsWh) = true)
    (lsWh : K.lookup fsWh = some ⟨ocsWh, odsWh, .func (PySem.W.fnOf "signs_while" "Scan.signs_while" (defArgs sWh) (defBody sWh) (defScope sWh) .none kVsWh dcsWh pmsWh ansWh cdsWh ctsWh), slsWh⟩)
    (csWh : PySem.W.codeIn K cdsWh "Scan.signs_while" = true)
    (ksWh : PySem.W.keepIn K (.ref fsWh) = true)
    (isEnd : PySem.W.findIn K (.ref SC) "look_at_end" = some (some (.ref fsEnd)))
    (jsEnd : PySem.W.isFn K (.ref fsEnd) = true)
    (lsEnd : K.lookup fsEnd = some ⟨ocsEnd, odsEnd, .func (PySem.W.fnOf "look_at_end" "Scan.look_at_end" (defArgs sEnd) (defBody sEnd) (defScope sEnd) .none kVsEnd dcsEnd pmsEnd ansEnd cdsEnd ctsEnd), slsEnd⟩)
    (csEnd : PySem.W.codeIn K cdsEnd "Scan.look_at_end" = true)
    (ksEnd : PySem.W.keepIn K (.ref fsEnd) = true)
    (p1 : PySem.W.plainGet K SC Str.empty = true)
    (p2 : PySem.W.hasDictIn K SC = true)
    (p3 : PySem.W.plainOver K SC = true)
    (p4 : PySem.W.findIn K (.ref SC) "__setattr__" = some (some (.builtin "object.__setattr__")))
    (p5 : PySem.W.makesIn K SC = true)
    (p6 : PySem.W.keepIn K (.ref SC) = true)
    (q0 : PySem.W.findIn K (.ref SC) "line" = some none)
    (q1 : PySem.W.findIn K (.ref SC) "at" = some none)
    (nS : PySem.W.nsIn K mainGlobals "SIGNS" = some (some (.ref aS)))
    (nB : PySem.W.nsIn K mainGlobals "BRACKETS" = some (some (.ref aB)))
    (dS : K.lookup aS = some { cls := .type "dict", data := .dict #[⟨PyData.keyHash w.params "both", .str "both" tS1, .str "&" tS2⟩, ⟨PyData.keyHash w.params "one", .str "one" tS3, .str "|" tS4⟩] eS })
    (dB : K.lookup aB = some { cls := .type "dict", data := .dict #[⟨PyData.keyHash w.params "near", .str "near" tB1, .str "<>" tB2⟩, ⟨PyData.keyHash w.params "chain", .str "chain" tB3, .str "[]" tB4⟩] eB })
    (wS : (aS == sysModules) = false)
    (wB : (aB == sysModules) = false)
    (hT : PySem.W.codeHdIn K cc Tt = true)
    (fS : PySem.W.fnIn K f1 = true)
    (fW : PySem.W.fnIn K f3 = true)
    (fP : PySem.W.fnIn K f5 = true)
    (fA : PySem.W.fnIn K f11 = true)
    (i2 : PySem.W.kitOne K (.type "tuple") (.type "tuple") = some true)
    (eE : K.lookup FE = some ⟨.type "type", ddE, .cls cdE, slE⟩)
    (eN : cdE.ns = NsA)
    (eL : K.lookup NsA = some ⟨c1E, d1E, .dict esE nE, sl1E⟩)
    (eK : strKeys esE = true)
    (eI : nsFind esE "__init__" = none)
    (bE : PySem.W.mroIn K FE (.type "BaseException") = some true)
    (x1 : K.lookup NT = some oNT)
    (x2 : ∃ (nm qn : Str) (bs : List Value) (sn : List Str) (sub : List Value) (ab : Bool) (col : Option Bool) (dd : Option Addr) (k0 k1 k2 k3 k5 : Option Value), oNT = excClassObj nm qn NT NN bs (.ref FE :: bmV) true sn sub ab col dd k0 k1 k2 k3 k5 "ValueError.__new__")
    (x3 : K.lookup NN = some ⟨c1N, d1N, .dict esN nN, sl1N⟩)
    (x4 : strKeys esN = true)
    (x6 : nsFind esN "__init__" = none)
    (x5 : PySem.W.mroIn K NT (.ref FE) = some true)
    (x7 : PySem.W.keepIn K (.ref NT) = true)
    (h1 : PySem.W.findIn K (.ref NT) "__getattribute__" = some (some (.builtin "BaseException.__getattribute__")))
    (h2 : PySem.W.findIn K (.ref NT) "__getattr__" = some none)
    (h3 : PySem.W.mroIn K NT (.type "BaseException") = some true)
    (h4 : PySem.W.mroIn K NT (.type "object") = some true)
    (h5 : PySem.W.hasDictIn K NT = true)
    (h6 : PySem.W.findIn K (.ref NT) "__class__" = some (some (.builtin "object.__class__")))
    (h7 : PySem.W.specialIn K (.builtin "object.__class__") "__get__" = some (some (.builtin "getset_descriptor.__get__")))
    (h8 : PySem.W.takesIn K (.builtin "object.__class__") = some true)
    (wNF : PySem.W.kitOne K (.ref NT) (.ref NF) = some false)
    (wNM : PySem.W.kitOne K (.ref NT) (.ref NM) = some false)
    (wNB : PySem.W.kitOne K (.ref NT) (.ref NB) = some false)
    (wND : PySem.W.kitOne K (.ref NT) (.ref ND) = some false)
    (wNS : PySem.W.kitOne K (.ref NT) (.ref NS) = some false)
    (wNQ : PySem.W.kitOne K (.ref NT) (.ref NQ) = some false)
    (wNP : PySem.W.kitOne K (.ref NT) (.ref NP) = some false)
    (wNL : PySem.W.kitOne K (.ref NT) (.ref NL) = some false)
    (wNT : PySem.W.kitOne K (.ref NT) (.ref NT) = some true)
    (wFE : PySem.W.kitOne K (.ref NT) (.ref FE) = some true)
    (wVE : PySem.W.kitOne K (.ref NT) (.type "ValueError") = some true)
    (s1 : PySem.W.nsIn K mainGlobals "MOST_NAME_SIGNS" = some (some (.int 12 tk1)))
    (s2 : PySem.W.nsIn K mainGlobals "MOST_PATTERN_SIGNS" = some (some (.int 40 tk2)))
    (s3 : PySem.W.nsIn K mainGlobals "ANY_FIELD" = some (some (.str "*" tk3)))
    (s4 : PySem.W.nsIn K mainGlobals "MOST_DEEP" = some (some (.int 60 tk4)))
    (s5 : PySem.W.nsIn K mainGlobals "MOST_WORD_SIGNS" = some (some (.int 40 tk5)))
    (s6 : PySem.W.nsIn K mainGlobals "MOST_WORDS" = some (some (.int 6 tk6)))
    (s7 : PySem.W.nsIn K mainGlobals "MOST_WIDTH" = some (some (.int 20 tk7)))
    (z1 : PySem.W.nsIn K mainGlobals "len" = some none)
    (z2 : PySem.W.nsIn K mainGlobals "range" = some none)
    (z3 : PySem.W.nsIn K mainGlobals "isinstance" = some none)
    (z4 : PySem.W.nsIn K mainGlobals "str" = some none)
    (z5 : PySem.W.nsIn K mainGlobals "int" = some none)
    (z6 : PySem.W.nsIn K mainGlobals "list" = some none)
    (z7 : PySem.W.nsIn K mainGlobals "tuple" = some none)
    (z8 : PySem.W.nsIn K mainGlobals "all" = some none)
    (z9 : PySem.W.nsIn K mainGlobals "enumerate" = some none)
    (z10 : PySem.W.nsIn K mainGlobals "max" = some none)
    (z11 : PySem.W.nsIn K mainGlobals "sum" = some none)
    (z12 : PySem.W.nsIn K mainGlobals "ValueError" = some none)
    : ∃ fd : FuncData, (∀ (s : Shared) (v : Value), BindsTo s fd ⟨[v], []⟩ [("_law_script", v)]) ∧ ∀ base : Heap, K.In base → base.Ns mainGlobals mg → Bmod base mg → FnOk l.prog w K mg base CX0 125 fa fd ["_law_script"] (spLaw K Tt) := by
  have e := hfa.symm.trans (PySem.W.mg_of X G a35)
  cases e
  have t1 := PySem.W.mg_none_of X G z1
  have t2 := PySem.W.mg_none_of X G z2
  have t3 := PySem.W.mg_none_of X G z3
  have t4 := PySem.W.mg_none_of X G z4
  have t5 := PySem.W.mg_none_of X G z5
  have t6 := PySem.W.mg_none_of X G z6
  have t7 := PySem.W.mg_none_of X G z7
  have t8 := PySem.W.mg_none_of X G z8
  have t9 := PySem.W.mg_none_of X G z9
  have t10 := PySem.W.mg_none_of X G z10
  have t11 := PySem.W.mg_none_of X G z11
  have t12 := PySem.W.mg_none_of X G z12
  have u1 := PySem.W.mg_of X G s1
  have u2 := PySem.W.mg_of X G s2
  have u3 := PySem.W.mg_of X G s3
  have u4 := PySem.W.mg_of X G s4
  have u5 := PySem.W.mg_of X G s5
  have u6 := PySem.W.mg_of X G s6
  have u7 := PySem.W.mg_of X G s7
  have mSC := PySem.W.mg_of X G nSC
  have mFE := PySem.W.mg_of X G nFE
  have mNF := PySem.W.mg_of X G nNF
  have mNM := PySem.W.mg_of X G nNM
  have mNB := PySem.W.mg_of X G nNB
  have mND := PySem.W.mg_of X G nND
  have mNS := PySem.W.mg_of X G nNS
  have mNQ := PySem.W.mg_of X G nNQ
  have mNP := PySem.W.mg_of X G nNP
  have mNL := PySem.W.mg_of X G nNL
  have mNT := PySem.W.mg_of X G nNT
  have T : Txt mg := { len := t1, range := t2, isinstance := t3, str := t4, int := t5, list := t6, tuple := t7, all := t8, enumerate := t9, max := t10, sum := t11, valueError := t12, mName := ⟨_, u1⟩, mPat := ⟨_, u2⟩, any := ⟨_, u3⟩, mDeep := ⟨_, u4⟩, mWord := ⟨_, u5⟩, mWords := ⟨_, u6⟩, mWid := ⟨_, u7⟩ }
  have F1 := fun_mk (st := sSmall) l1 c1 k1
  have m1 := PySem.W.mg_of X G a1
  have b1 := F1.binds (ps := ["sign"]) fun _ _ _ _ _ _ us hl => match us, hl with | [_], _ => rfl
  have F2 := fun_mk (st := sFig) l2 c2 k2
  have m2 := PySem.W.mg_of X G a2
  have b2 := F2.binds (ps := ["sign"]) fun _ _ _ _ _ _ us hl => match us, hl with | [_], _ => rfl
  have F3 := fun_mk (st := sIW) l3 c3 k3
  have m3 := PySem.W.mg_of X G a3
  have b3 := F3.binds (ps := ["text"]) fun _ _ _ _ _ _ us hl => match us, hl with | [_], _ => rfl
  have F4 := fun_mk (st := sName) l4 c4 k4
  have m4 := PySem.W.mg_of X G a4
  have b4 := F4.binds (ps := ["text"]) fun _ _ _ _ _ _ us hl => match us, hl with | [_], _ => rfl
  have F5 := fun_mk (st := sPS) l5 c5 k5
  have m5 := PySem.W.mg_of X G a5
  have b5 := F5.binds (ps := ["sign"]) fun _ _ _ _ _ _ us hl => match us, hl with | [_], _ => rfl
  have F6 := fun_mk (st := sDp) l6 c6 k6
  have m6 := PySem.W.mg_of X G a6
  have b6 := F6.binds (ps := ["deep"]) fun _ _ _ _ _ _ us hl => match us, hl with | [_], _ => rfl
  have F7 := fun_mk (st := sNN) l7 c7 k7
  have m7 := PySem.W.mg_of X G a7
  have b7 := F7.binds (ps := ["scan"]) fun _ _ _ _ _ _ us hl => match us, hl with | [_], _ => rfl
  have F8 := fun_mk (st := sNW) l8 c8 k8
  have m8 := PySem.W.mg_of X G a8
  have b8 := F8.binds (ps := ["scan"]) fun _ _ _ _ _ _ us hl => match us, hl with | [_], _ => rfl
  have F9 := fun_mk (st := sNL) l9 c9 k9
  have m9 := PySem.W.mg_of X G a9
  have b9 := F9.binds (ps := ["scan", "between", "next_one"]) fun _ _ _ _ _ _ us hl => match us, hl with | [_, _, _], _ => rfl
  have F10 := fun_mk (st := sBare) l10 c10 k10
  have m10 := PySem.W.mg_of X G a10
  have b10 := F10.binds (ps := ["pattern"]) fun _ _ _ _ _ _ us hl => match us, hl with | [_], _ => rfl
  have F11 := fun_mk (st := sAW) l11 c11 k11
  have m11 := PySem.W.mg_of X G a11
  have b11 := F11.binds (ps := ["scan"]) fun _ _ _ _ _ _ us hl => match us, hl with | [_], _ => rfl
  have F12 := fun_mk (st := sNWs) l12 c12 k12
  have m12 := PySem.W.mg_of X G a12
  have b12 := F12.binds (ps := ["scan", "end"]) fun _ _ _ _ _ _ us hl => match us, hl with | [_, _], _ => rfl
  have F13 := fun_mk (st := sWi) l13 c13 k13
  have m13 := PySem.W.mg_of X G a13
  have b13 := F13.binds (ps := ["shown"]) fun _ _ _ _ _ _ us hl => match us, hl with | [_], _ => rfl
  have F14 := fun_mk (st := sNA) l14 c14 k14
  have m14 := PySem.W.mg_of X G a14
  have b14 := F14.binds (ps := ["scan"]) fun _ _ _ _ _ _ us hl => match us, hl with | [_], _ => rfl
  have F15 := fun_mk (st := sNO) l15 c15 k15
  have m15 := PySem.W.mg_of X G a15
  have b15 := F15.binds (ps := ["scan", "kind", "deep"]) fun _ _ _ _ _ _ us hl => match us, hl with | [_, _, _], _ => rfl
  have F16 := fun_mk (st := sNB) l16 c16 k16
  have m16 := PySem.W.mg_of X G a16
  have b16 := F16.binds (ps := ["scan", "deep"]) fun _ _ _ _ _ _ us hl => match us, hl with | [_, _], _ => rfl
  have F17 := fun_mk (st := sNQ) l17 c17 k17
  have m17 := PySem.W.mg_of X G a17
  have b17 := F17.binds (ps := ["scan", "deep"]) fun _ _ _ _ _ _ us hl => match us, hl with | [_, _], _ => rfl
  have F18 := fun_mk (st := sRQ) l18 c18 k18
  have m18 := PySem.W.mg_of X G a18
  have b18 := F18.binds (ps := ["line"]) fun _ _ _ _ _ _ us hl => match us, hl with | [_], _ => rfl
  have F19 := fun_mk (st := sMix) l19 c19 k19
  have m19 := PySem.W.mg_of X G a19
  have b19 := F19.binds (ps := ["_law_cell", "_law_turn"]) fun _ _ _ _ _ _ us hl => match us, hl with | [_, _], _ => rfl
  have F20 := fun_mk (st := sDraws) l20 c20 k20
  have m20 := PySem.W.mg_of X G a20
  have b20 := F20.binds (ps := ["_law_script", "_law_turn", "_law_many"]) fun _ _ _ _ _ _ us hl => match us, hl with | [_, _, _], _ => rfl
  have F21 := fun_mk (st := sPop) l21 c21 k21
  have m21 := PySem.W.mg_of X G a21
  have b21 := F21.binds (ps := ["_law_draws_here"]) fun _ _ _ _ _ _ us hl => match us, hl with | [_], _ => rfl
  have F22 := fun_mk (st := sPool) l22 c22 k22
  have m22 := PySem.W.mg_of X G a22
  have b22 := F22.binds (ps := ["_law_draws_here"]) fun _ _ _ _ _ _ us hl => match us, hl with | [_], _ => rfl
  have F23 := fun_mk (st := sLFd) l23 c23 k23
  have m23 := PySem.W.mg_of X G a23
  have b23 := F23.binds (ps := ["_law_draws_here"]) fun _ _ _ _ _ _ us hl => match us, hl with | [_], _ => rfl
  have F24 := fun_mk (st := sPat) l24 c24 k24
  have m24 := PySem.W.mg_of X G a24
  have b24 := F24.binds (ps := ["_law_draws_here", "_law_pool_here"]) fun _ _ _ _ _ _ us hl => match us, hl with | [_, _], _ => rfl
  have F25 := fun_mk (st := sQu) l25 c25 k25
  have m25 := PySem.W.mg_of X G a25
  have b25 := F25.binds (ps := ["_law_draws_here", "_law_pool_here", "_law_deep"]) fun _ _ _ _ _ _ us hl => match us, hl with | [_, _, _], _ => rfl
  have F26 := fun_mk (st := sSh) l26 c26 k26
  have m26 := PySem.W.mg_of X G a26
  have b26 := F26.binds (ps := ["_law_question_here"]) fun _ _ _ _ _ _ us hl => match us, hl with | [_], _ => rfl
  have F27 := fun_mk (st := sRun) l27 c27 k27
  have m27 := PySem.W.mg_of X G a27
  have b27 := F27.binds (ps := ["_law_line", "_law_signs"]) fun _ _ _ _ _ _ us hl => match us, hl with | [_, _], _ => rfl
  have F28 := fun_mk (st := sLd) l28 c28 k28
  have m28 := PySem.W.mg_of X G a28
  have b28 := F28.binds (ps := ["_law_line", "_law_end"]) fun _ _ _ _ _ _ us hl => match us, hl with | [_, _], _ => rfl
  have F29 := fun_mk (st := sLA) l29 c29 k29
  have m29 := PySem.W.mg_of X G a29
  have b29 := F29.binds (ps := ["_law_field_here", "_law_line"]) fun _ _ _ _ _ _ us hl => match us, hl with | [_, _], _ => rfl
  have F30 := fun_mk (st := sLP) l30 c30 k30
  have m30 := PySem.W.mg_of X G a30
  have b30 := F30.binds (ps := ["_law_line"]) fun _ _ _ _ _ _ us hl => match us, hl with | [_], _ => rfl
  have F31 := fun_mk (st := sLR) l31 c31 k31
  have m31 := PySem.W.mg_of X G a31
  have b31 := F31.binds (ps := ["_law_line"]) fun _ _ _ _ _ _ us hl => match us, hl with | [_], _ => rfl
  have F32 := fun_mk (st := sOn) l32 c32 k32
  have m32 := PySem.W.mg_of X G a32
  have b32 := F32.binds (ps := ["_law_error"]) fun _ _ _ _ _ _ us hl => match us, hl with | [_], _ => rfl
  have F33 := fun_mk (st := sSpo) l33 c33 k33
  have m33 := PySem.W.mg_of X G a33
  have b33 := F33.binds (ps := ["_law_line", "_law_draws_here"]) fun _ _ _ _ _ _ us hl => match us, hl with | [_, _], _ => rfl
  have F34 := fun_mk (st := sSz) l34 c34 k34
  have m34 := PySem.W.mg_of X G a34
  have b34 := F34.binds (ps := ["_law_question_here", "_law_deep"]) fun _ _ _ _ _ _ us hl => match us, hl with | [_, _], _ => rfl
  have F35 := fun_mk (st := sLaw) l35 c35 k35
  have m35 := PySem.W.mg_of X G a35
  have FsSI := fun_mk (st := sSI) lsSI csSI ksSI
  have bsSI := FsSI.binds (ps := ["self", "line"]) fun _ _ _ _ _ _ us hl => match us, hl with | [_, _], _ => rfl
  have FsSees := fun_mk (st := sSees) lsSees csSees ksSees
  have bsSees := FsSees.binds (ps := ["self", "text"]) fun _ _ _ _ _ _ us hl => match us, hl with | [_, _], _ => rfl
  have FsPas := fun_mk (st := sPas) lsPas csPas ksPas
  have bsPas := FsPas.binds (ps := ["self", "text"]) fun _ _ _ _ _ _ us hl => match us, hl with | [_, _], _ => rfl
  have FsPO := fun_mk (st := sPO) lsPO csPO ksPO
  have bsPO := FsPO.binds (ps := ["self", "text"]) fun _ _ _ _ _ _ us hl => match us, hl with | [_, _], _ => rfl
  have FsWh := fun_mk (st := sWh) lsWh csWh ksWh
  have bsWh := FsWh.binds (ps := ["self", "is_wanted"]) fun _ _ _ _ _ _ us hl => match us, hl with | [_, _], _ => rfl
  have FsEnd := fun_mk (st := sEnd) lsEnd csEnd ksEnd
  have bsEnd := FsEnd.binds (ps := ["self"]) fun _ _ _ _ _ _ us hl => match us, hl with | [_], _ => rfl
  have cl : Cls K SC := ⟨p1, p2, p3, p4⟩
  have hSI := PySem.W.mg_of X G nS
  have hBR := PySem.W.mg_of X G nB
  have kdS : KD l.prog w K aS kvS := kd_two wS dS (by decide +kernel)
  have kdB : KD l.prog w K aB kvB := kd_two wB dB (by decide +kernel)
  have xc : XCls0 K NT FE := ⟨by obtain ⟨nm, qn, bs, sn, sub, ab, col, dd, k0, k1, k2, k3, k5, e⟩ := x2; exact ⟨nm, qn, NN, bs, sn, sub, ab, col, dd, k0, k1, k2, k3, k5, _, _, _, _, _, by rw [x1, e], x3, x4, x6⟩, ⟨_, _, _, _, _, _, _, _, _, eE, by rw [eN]; exact eL, eK, eI⟩⟩
  have xa : XAttr K NT := ⟨h1, h2, h3, h4, h5, h6, h7, h8⟩
  have xo : XOn K FE NF NM NB ND NS NQ NP NL NT := ⟨wNF, wNM, wNB, wND, wNS, wNQ, wNP, wNL, wNT, wFE, wVE⟩
  have xm : XMg mg FE NF NM NB ND NS NQ NP NL NT := ⟨mFE, mNF, mNM, mNB, mND, mNS, mNQ, mNP, mNL, mNT⟩
  refine ⟨PySem.W.fnOf "law" "law" (defArgs sLaw) (defBody sLaw) (defScope sLaw) .none kV35 dc35 pm35 an35 cd35 ct35, fun s v => .of_eq rfl, fun base _ _ hB => ?_⟩
  have oS := fun base : Heap => ok_small (P := l.prog) (w := w) (mg := mg) (base := base) F1
  have oF := fun base : Heap => ok_fig (P := l.prog) (w := w) (mg := mg) (base := base) F2
  have oPS := fun base : Heap => ok_psign (P := l.prog) (w := w) (mg := mg) (base := base) F5 (oS base) b1 k1 m1 (oF base) b2 k2 m2
  have oNm := fun base : Heap => ok_name (P := l.prog) (w := w) (mg := mg) (base := base) F4 T (oS base) b1 k1 m1
  have oW := fun base : Heap => ok_iw (P := l.prog) (w := w) (mg := mg) (base := base) F3 T (oS base) b1 k1 m1 (oF base) b2 k2 m2
  have oSI := fun base : Heap => ok_si (P := l.prog) (w := w) (mg := mg) (base := base) FsSI cl q0 q1
  have oSe := fun base : Heap => ok_sees (P := l.prog) (w := w) (mg := mg) (base := base) FsSees cl q0 q1
  have oPa := fun base : Heap => ok_pas (P := l.prog) (w := w) (mg := mg) (base := base) FsPas T cl q1 (oSe base) bsSees ⟨isSees, jsSees, ksSees⟩
  have oPO := fun base : Heap => ok_po (P := l.prog) (w := w) (mg := mg) (base := base) (T := Tt) FsPO cl xc x7 mNT (oPa base) bsPas ⟨isPas, jsPas, ksPas⟩
  have oEn := fun base : Heap => ok_end (P := l.prog) (w := w) (mg := mg) (base := base) (T' := Tt) FsEnd T cl q0 q1 xc x7 mNT
  have wS1 := fun base : Heap => ok_wh (P := l.prog) (w := w) (mg := mg) (base := base) FsWh T cl q0 q1 ((oS base).mono (by decide)) b1 asks_small
  have wW1 := fun base : Heap => ok_wh (P := l.prog) (w := w) (mg := mg) (base := base) FsWh T cl q0 q1 (oW base) b3 asks_iw
  have wP1 := fun base : Heap => ok_wh (P := l.prog) (w := w) (mg := mg) (base := base) FsWh T cl q0 q1 (oPS base) b5 asks_ps
  have oDp := fun base : Heap => ok_dp (P := l.prog) (w := w) (mg := mg) (base := base) F6 T
  have oNN := fun base : Heap => ok_nn (P := l.prog) (w := w) (mg := mg) (base := base) (T' := Tt) F7 cl xc x7 mNT (wS1 base) bsWh ⟨isWh, jsWh, ksWh⟩ m1 fS (oNm base) b4 k4 m4
  have oNW := fun base : Heap => ok_nw (P := l.prog) (w := w) (mg := mg) (base := base) (T' := Tt) F8 cl xc x7 mNT (wW1 base) bsWh ⟨isWh, jsWh, ksWh⟩ fW (oW base) b3 k3 m3
  have oAW := fun base : Heap => ok_aw (P := l.prog) (w := w) (mg := mg) (base := base) (C := SC) (T' := Tt) F11 T xc x7 mNT (oNW base) b8 k8 m8
  have oWi := fun base : Heap => ok_wi (P := l.prog) (w := w) (mg := mg) (base := base) F13 T xc x7 mNT
  have oNL := fun base : Heap => ok_nl (P := l.prog) (w := w) (mg := mg) (base := base) (T := Tt) (tb := LT Tt) (k := 3) (ok := fun _ => True) (g := tk wC 40) (dv := DV.str) F9 cl (lt_tb Tt) xc x7 mNT (oAW base) b11 (oPa base) bsPas ⟨isPas, jsPas, ksPas⟩
  have oBa := fun base : Heap => ok_bare (P := l.prog) (w := w) (mg := mg) (base := base) F10
  have oNWs := fun base : Heap => ok_nws (P := l.prog) (w := w) (mg := mg) (base := base) F12 T cl (lt_tb Tt) xc x7 mNT (oNL base) b9 k9 m9 m11 fA (oPO base) bsPO ⟨isPO, jsPO, ksPO⟩
  have oNA := fun base : Heap => ok_na (P := l.prog) (w := w) (mg := mg) (base := base) F14 T cl (lt_tb Tt) xc x7 mNT (oPa base) bsPas ⟨isPas, jsPas, ksPas⟩ (oNN base) b7 k7 m7 (oPO base) bsPO ⟨isPO, jsPO, ksPO⟩ (oAW base) b11 k11 m11 (wP1 base) bsWh ⟨isWh, jsWh, ksWh⟩ m5 fP (oWi base) b13 k13 m13 (oNWs base) b12 k12 m12 (oBa base) b10 k10 m10 hBR kdB
  have oNQ := ok_nqs (P := l.prog) (w := w) F17 b17 m17 cl xc x7 mNT oDp b6 k6 m6 oPa bsPas ⟨isPas, jsPas, ksPas⟩ oSe bsSees ⟨isSees, jsSees, ksSees⟩ oPO bsPO ⟨isPO, jsPO, ksPO⟩ oNA b14 k14 m14 l16 c16 hT b16 k16 m16 F15 b15 m15 F9 b9 m9 hSI kdS 27 base hB
  have oRQ := ok_rq (n := 27) (k := 117) F18 cl xc ⟨p5, isSI, jsSI, p6⟩ mSC (oSI base) bsSI (oEn base) bsEnd ⟨isEnd, jsEnd, ksEnd⟩ oNQ b17 k17 m17
  have oM := fun base : Heap => ok_mix (P := l.prog) (w := w) (mg := mg) (base := base) F19
  have oD := fun base : Heap => ok_draws (P := l.prog) (w := w) (mg := mg) (base := base) F20 T (oM base) b19 k19 m19
  have oP := fun base : Heap => ok_pop (P := l.prog) (w := w) (mg := mg) (base := base) F21
  have oPl := fun base : Heap => ok_pool (P := l.prog) (w := w) (mg := mg) (base := base) F22 T (oP base) b21 k21 m21
  have oFd := fun base : Heap => ok_fld (P := l.prog) (w := w) (mg := mg) (base := base) F23 T (oP base) b21 k21 m21
  have oPt := fun base : Heap => ok_pat (P := l.prog) (w := w) (mg := mg) (base := base) F24 T (oP base) b21 k21 m21
  have oQu := ok_qus (P := l.prog) (w := w) (base := base) F25 b25 m25 T (oP base) b21 k21 m21 (oFd base) b23 k23 m23 (oPt base) b24 k24 m24 2 (by decide)
  have oSh := ok_shs (P := l.prog) (w := w) (base := base) F26 T b26 m26 2
  have oRu := fun base : Heap => ok_run (P := l.prog) (w := w) (mg := mg) (base := base) F27 T
  have oLd := fun base : Heap => ok_ld (P := l.prog) (w := w) (mg := mg) (base := base) F28 T (oRu base) b27 k27 m27
  have oLA := fun base : Heap => ok_la (P := l.prog) (w := w) (mg := mg) (base := base) F29 T (oRu base) b27 k27 m27 (oLd base) b28 k28 m28
  have oLR := ok_lrs (P := l.prog) (w := w) (base := base) F31 T b31 m31 (oRu base) b27 k27 m27 (oLA base) b29 k29 m29 F30 b30 m30 27
  have oSp := fun base : Heap => ok_spo (P := l.prog) (w := w) (mg := mg) (base := base) F33 T (oP base) b21 k21 m21
  have oSz := ok_szs (P := l.prog) (w := w) (base := base) F34 T b34 m34 27
  have oOn := fun base : Heap => ok_on (P := l.prog) (w := w) (mg := mg) (base := base) F32 T xm xo xa
  exact ok_law (Tt := Tt) F35 T mFE ⟨⟨_, _, _, eE⟩, bE⟩ x5 xa wVE i2 (oD base) b20 k20 m20 (oPl base) b22 k22 m22 oQu b25 k25 m25 oSh b26 k26 m26 (oSp base) b33 k33 m33 oLR b31 k31 m31 oSz b34 k34 m34 (oOn base) b32 k32 m32 (oRQ.mono (by decide)) b18 k18 m18
theorem walk {l : PySem.W.OpenLaw} {q : Program} {loose : List Str} {XP : (Str → Option Value) → Heap → Prop} {YP : World → Heap → Prop} {d : DefRec} {K : Params → PySem.W.Frag} {cc Tt : Addr} (hn : l.most = some 63) (hdf : d.params.defaults = [])
    (hY : ∀ (w : World) (h : Heap), YP w h → (K w.params).In h) (hYT : ∀ (w : World) (h : Heap), YP w h → h.get? Tt = some (PySem.W.tabObj #[])) (hC : ∀ w : World, PySem.W.codeHdIn (K w.params) cc Tt = true) (hKT : ∀ w : World, (K w.params).lookup Tt = none)
    (F : ∀ (w : World) (mg : Str → Option Value) (fa : Addr) (h : Heap), (K w.params).In h → h.Ns mainGlobals mg → mg d.name = some (.ref fa) →
      ∃ fd : FuncData, (∀ (s : Shared) (u : Value), BindsTo s fd ⟨[u], []⟩ [("_law_script", u)]) ∧ ∀ base : Heap, (K w.params).In base → base.Ns mainGlobals mg → Bmod base mg → FnOk l.prog w (K w.params) mg base CX0 125 fa fd ["_law_script"] (spLaw (K w.params) Tt)) :
    PySem.W.WalkO q loose XP YP l.row.toRowW d [] (fun f vs => PySem.call f vs) :=
  L2.walk_ofT (n := 63) (k := 125) (x := "_law_script") (CX := fun _ => CX0) (sp := fun w => spLaw (K w.params) Tt) (cc := cc) (T := Tt) hn (by decide) hdf ⟨rfl, by decide, by decide⟩ hY hYT hC hKT F (fun _ _ a ns hl hT hS => ⟨a, ns, rfl, hS, hl, .inl hT, fun _ => rfl⟩) fun _ _ _ _ _ z => z
end K82
open PySem PySem.W PyProof.Rows
local macro_rules
  | `(tactic| nofun) => `(tactic| first | k_is | kernel_rfl)
namespace PySem.W.Fast
def tw3831298718420924458:=0
def tw8025799123993209186:=0
def tw10449102004720078926:=0
def tw11242884947704774259:=0
def tw11391832594631506151:=0
def tw6701882373393543973:=0
def tw5429643826684075585:=0
def tw13719877349025336726:=0
def tw14583323916131869386:=0
def tw6888642572431587373:=0
def tw16945579932007837623:=0
def tw13243542549750959744:=0
def tw6569922049739950998:=0
def tw4073548145683200272:=0
def tw15600281893653402836:=0
def tw3568290377875717728:=0
def tw12769061808048385811:=0
def tw13489892076248333018:=0
def tw17976602898649959726:=0
def tw17950387050595943085:=0
def tw3122966250074607047:=0
def tw2277382299994634826:=0
def tw17709442425399051143:=0
def tw4873178133690040648:=0
def tw10384574751064345535:=0
def tw14020991193138671870:=0
def tw3901760552248932597:=0
def tw8387917294281466502:=0
def tw14563348929595976013:=0
def tw7829350711053646737:=0
def tw11330640657855627467:=0
def tw461769529832794976:=0
def tw12754891348063746335:=0
def tw11040544622845787733:=0
def tw15502248609285172819:=0
def tw9904534847451248303:=0
def tw11568570134652307539:=0
def tw15607654820879379783:=0
def tw15339448973643149596:=0
def tw755083257876332980:=0
def tw12095022808600762372:=0
def tw8266402480648905862:=0
def tw10571475649593369502:=0
def tw15512913763980929046:=0
def tw2861540798111737569:=0
def tw8321254130400652546:=0
def tw15763250573953436110:=0
def tw17932257771531922433:=0
def tw17841098231665979601:=0
def tw3597476322938764088:=0
def tw13372217280569237684:=0
def tw13575894880357784234:=0
def tw452290945146051075:=0
def tw13935577429367093225:=0
def tw1195437524982856203:=0
def tw4377829850592632615:=0
def tw2697141194015217744:=0
def tw4982640513034027191:=0
def tw1507493373572499395:=0
def tw14619550715018515736:=0
def tw17853820680062912430:=0
def tw12307652011642195401:=0
def tw6051005377381200923:=0
def tw15333252552624864389:=0
def tw18079582187397408991:=0
def tw18043396915683963966:=0
def tw14782500613864303146:=0
def tw15473719699594753653:=0
def tw530953579071426028:=0
def tw2284416075211309305:=0
def tw17925220703779959015:=0
def tw1374157568655310346:=0
def tw11940327112396172026:=0
def tw3014578032616681806:=0
def tw4044712951604061066:=0
def tw9406611744836748463:=0
def tw12963679533287850048:=0
def tw9287890295233126372:=0
def tw3262798439949415154:=0
def tw10296968172651524053:=0
def tw5950968130543621868:=0
def tw12073465816515139450:=0
def tw3642048578437260699:=0
def tw9904140593277865171:=0
def tw8290877300436574781:=0
def tw2512008459946908900:=0
def tw6656062728361092524:=0
def tw6739920659252776182:=0
def tw280272525535804756:=0
def tw15920496924650106420:=0
def tw3377294762492704954:=0
def tw6351069460934303829:=0
def tw17823109189356307001:=0
def tw17485734388255602864:=0
def tw16746832799983201246:=0
def tw2870133856586030990:=0
def tw17088542049307233814:=0
def tw10512249210648273665:=0
def tw584523567129626250:=0
def tw15021367739205967823:=0
def tw8348986056335342792:=0
def tw5135712469964581342:=0
def tw6173228203954852014:=0
def tw5292570680959240403:=0
def tw9766964297662793542:=0
def tw15775501665111257808:=0
def tw11475200773542426844:=0
def tw17233563150521105594:=0
def tw30243222888508646:=0
def tw8153117955563693452:=0
def tw9994260681185658344:=0
def tw16716608617302685667:=0
def tw15800501270960135379:=0
def tw737393470477182954:=0
def tw6829101630438301599:=0
def tw2157616925576275731:=0
def tw17780461993559437501:=0
def tw15752151229064793087:=0
def tw16855738943703272452:=0
def tw6326339428083512457:=0
def tw7873736287943863055:=0
def tw18014569290207068969:=0
def tw6746714711993224999:=0
def tw16370363038440294910:=0
def tw14781132005125668559:=0
def tw2346247134795058939:=0
def tw2925542629339314026:=0
def tw12976086790809945683:=0
def tw16219537128028054201:=0
def tw14407370835231431201:=0
def tw10054495967602384550:=0
def tw3752311394434887046:=0
def tw6372300569197580348:=0
def tw15843407650626660063:=0
def tw1817019239050748487:=0
def tw2573102212543839605:=0
def tw18011788126715366771:=0
def tw5247835243396149253:=0
def tw6521425605476918214:=0
def tw2859324675732465942:=0
def tw2354962269775364952:=0
def tw7199473256768542433:=0
def tw17443111431466451864:=0
def tw7905684802618001136:=0
def tw12505984253611410468:=0
def tw10474301869007665364:=0
def tw7356749573749720991:=0
def tw13658282297768432197:=0
def tw3917046945098097351:=0
def tw5385834384357719834:=0
def tw11726953595029104776:=0
def tw3195936421159257666:=0
def tw12964959002191924966:=0
def tw702243447920804990:=0
def tw14552218673803256502:=0
end PySem.W.Fast
set_option maxRecDepth 100000 in
set_option maxHeartbeats 0 in
theorem PySem.Challenge.cw_findcourt_k82_lines_looked_at_holds : PySem.Challenge.rw_findcourt_k82_lines_looked_at.Holds := by
  w_on; o_law; k_head; (case hw => w_witness2)
  k_fill
  refine K82.walk (l := PySem.Challenge.rw_findcourt_k82_lines_looked_at) (cc := 314) (Tt := 310) rfl rfl (fun w h Y => PySem.W.km_in_of Y) (fun w h Y => PySem.W.km_tabs_of Y _ (by simp)) (fun w => by first | k_is | kernel_rfl) (fun w => by first | k_is | kernel_rfl) ?F
  case F =>
    intro w mg fa h KX G hmg
    refine' K82.all_mk (tk0 := 0) KX G hmg ?a1 ?l1 ?c1 ?k1 ?a2 ?l2 ?c2 ?k2 ?a3 ?l3 ?c3 ?k3 ?a4 ?l4 ?c4 ?k4 ?a5 ?l5 ?c5 ?k5 ?a6 ?l6 ?c6 ?k6 ?a7 ?l7 ?c7 ?k7 ?a8 ?l8 ?c8 ?k8 ?a9 ?l9 ?c9 ?k9 ?a10 ?l10 ?c10 ?k10 ?a11 ?l11 ?c11 ?k11 ?a12 ?l12 ?c12 ?k12 ?a13 ?l13 ?c13 ?k13 ?a14 ?l14 ?c14 ?k14 ?a15 ?l15 ?c15 ?k15 ?a16 ?l16 ?c16 ?k16 ?a17 ?l17 ?c17 ?k17 ?a18 ?l18 ?c18 ?k18 ?a19 ?l19 ?c19 ?k19 ?a20 ?l20 ?c20 ?k20 ?a21 ?l21 ?c21 ?k21 ?a22 ?l22 ?c22 ?k22 ?a23 ?l23 ?c23 ?k23 ?a24 ?l24 ?c24 ?k24 ?a25 ?l25 ?c25 ?k25 ?a26 ?l26 ?c26 ?k26 ?a27 ?l27 ?c27 ?k27 ?a28 ?l28 ?c28 ?k28 ?a29 ?l29 ?c29 ?k29 ?a30 ?l30 ?c30 ?k30 ?a31 ?l31 ?c31 ?k31 ?a32 ?l32 ?c32 ?k32 ?a33 ?l33 ?c33 ?k33 ?a34 ?l34 ?c34 ?k34 ?a35 ?l35 ?c35 ?k35 ?nSC ?nFE ?nNF ?nNM ?nNB ?nND ?nNS ?nNQ ?nNP ?nNL ?nNT ?isSI ?jsSI ?lsSI ?csSI ?ksSI ?isSees ?jsSees ?lsSees ?csSees ?ksSees ?isPas ?jsPas ?lsPas ?csPas ?ksPas ?isPO ?jsPO ?lsPO ?csPO ?ksPO ?isWh ?jsWh ?lsWh ?csWh ?ksWh ?isEnd ?jsEnd ?lsEnd ?csEnd ?ksEnd ?p1 ?p2 ?p3 ?p4 ?p5 ?p6 ?q0 ?q1 ?nS ?nB ?dS ?dB ?wS ?wB ?hT ?fS ?fW ?fP ?fA ?i2 ?eE ?eN ?eL ?eK ?eI ?bE ?x1 ?x2 ?x3 ?x4 ?x6 ?x5 ?x7 ?h1 ?h2 ?h3 ?h4 ?h5 ?h6 ?h7 ?h8 ?wNF ?wNM ?wNB ?wND ?wNS ?wNQ ?wNP ?wNL ?wNT ?wFE ?wVE ?s1 ?s2 ?s3 ?s4 ?s5 ?s6 ?s7 ?z1 ?z2 ?z3 ?z4 ?z5 ?z6 ?z7 ?z8 ?z9 ?z10 ?z11 ?z12
    (case a1 => nofun)
    (case l1 => nofun)
    (case c1 => nofun)
    (case k1 => nofun)
    (case a2 => nofun)
    (case l2 => nofun)
    (case c2 => nofun)
    (case k2 => nofun)
    (case a3 => nofun)
    (case l3 => nofun)
    (case c3 => nofun)
    (case k3 => nofun)
    (case a4 => nofun)
    (case l4 => nofun)
    (case c4 => nofun)
    (case k4 => nofun)
    (case a5 => nofun)
    (case l5 => nofun)
    (case c5 => nofun)
    (case k5 => nofun)
    (case a6 => nofun)
    (case l6 => nofun)
    (case c6 => nofun)
    (case k6 => nofun)
    (case a7 => nofun)
    (case l7 => nofun)
    (case c7 => nofun)
    (case k7 => nofun)
    (case a8 => nofun)
    (case l8 => nofun)
    (case c8 => nofun)
    (case k8 => nofun)
    (case a9 => nofun)
    (case l9 => nofun)
    (case c9 => nofun)
    (case k9 => nofun)
    (case a10 => nofun)
    (case l10 => nofun)
    (case c10 => nofun)
    (case k10 => nofun)
    (case a11 => nofun)
    (case l11 => nofun)
    (case c11 => nofun)
    (case k11 => nofun)
    (case a12 => nofun)
    (case l12 => nofun)
    (case c12 => nofun)
    (case k12 => nofun)
    (case a13 => nofun)
    (case l13 => nofun)
    (case c13 => nofun)
    (case k13 => nofun)
    (case a14 => nofun)
    (case l14 => nofun)
    (case c14 => nofun)
    (case k14 => nofun)
    (case a15 => nofun)
    (case l15 => nofun)
    (case c15 => nofun)
    (case k15 => nofun)
    (case a16 => nofun)
    (case l16 => nofun)
    (case c16 => nofun)
    (case k16 => nofun)
    (case a17 => nofun)
    (case l17 => nofun)
    (case c17 => nofun)
    (case k17 => nofun)
    (case a18 => nofun)
    (case l18 => nofun)
    (case c18 => nofun)
    (case k18 => nofun)
    (case a19 => nofun)
    (case l19 => nofun)
    (case c19 => nofun)
    (case k19 => nofun)
    (case a20 => nofun)
    (case l20 => nofun)
    (case c20 => nofun)
    (case k20 => nofun)
    (case a21 => nofun)
    (case l21 => nofun)
    (case c21 => nofun)
    (case k21 => nofun)
    (case a22 => nofun)
    (case l22 => nofun)
    (case c22 => nofun)
    (case k22 => nofun)
    (case a23 => nofun)
    (case l23 => nofun)
    (case c23 => nofun)
    (case k23 => nofun)
    (case a24 => nofun)
    (case l24 => nofun)
    (case c24 => nofun)
    (case k24 => nofun)
    (case a25 => nofun)
    (case l25 => nofun)
    (case c25 => nofun)
    (case k25 => nofun)
    (case a26 => nofun)
    (case l26 => nofun)
    (case c26 => nofun)
    (case k26 => nofun)
    (case a27 => nofun)
    (case l27 => nofun)
    (case c27 => nofun)
    (case k27 => nofun)
    (case a28 => nofun)
    (case l28 => nofun)
    (case c28 => nofun)
    (case k28 => nofun)
    (case a29 => nofun)
    (case l29 => nofun)
    (case c29 => nofun)
    (case k29 => nofun)
    (case a30 => nofun)
    (case l30 => nofun)
    (case c30 => nofun)
    (case k30 => nofun)
    (case a31 => nofun)
    (case l31 => nofun)
    (case c31 => nofun)
    (case k31 => nofun)
    (case a32 => nofun)
    (case l32 => nofun)
    (case c32 => nofun)
    (case k32 => nofun)
    (case a33 => nofun)
    (case l33 => nofun)
    (case c33 => nofun)
    (case k33 => nofun)
    (case a34 => nofun)
    (case l34 => nofun)
    (case c34 => nofun)
    (case k34 => nofun)
    (case a35 => nofun)
    (case l35 => nofun)
    (case c35 => nofun)
    (case k35 => nofun)
    (case nSC => nofun)
    (case nFE => nofun)
    (case nNF => nofun)
    (case nNM => nofun)
    (case nNB => nofun)
    (case nND => nofun)
    (case nNS => nofun)
    (case nNQ => nofun)
    (case nNP => nofun)
    (case nNL => nofun)
    (case nNT => nofun)
    (case isSI => nofun)
    (case jsSI => nofun)
    (case lsSI => nofun)
    (case csSI => nofun)
    (case ksSI => nofun)
    (case isSees => nofun)
    (case jsSees => nofun)
    (case lsSees => nofun)
    (case csSees => nofun)
    (case ksSees => nofun)
    (case isPas => nofun)
    (case jsPas => nofun)
    (case lsPas => nofun)
    (case csPas => nofun)
    (case ksPas => nofun)
    (case isPO => nofun)
    (case jsPO => nofun)
    (case lsPO => nofun)
    (case csPO => nofun)
    (case ksPO => nofun)
    (case isWh => nofun)
    (case jsWh => nofun)
    (case lsWh => nofun)
    (case csWh => nofun)
    (case ksWh => nofun)
    (case isEnd => nofun)
    (case jsEnd => nofun)
    (case lsEnd => nofun)
    (case csEnd => nofun)
    (case ksEnd => nofun)
    (case p1 => nofun)
    (case p2 => nofun)
    (case p3 => nofun)
    (case p4 => nofun)
    (case p5 => nofun)
    (case p6 => nofun)
    (case q0 => nofun)
    (case q1 => nofun)
    (case nS => nofun)
    (case nB => nofun)
    (case dS => nofun)
    (case dB => nofun)
    (case wS => nofun)
    (case wB => nofun)
    (case hT => nofun)
    (case fS => nofun)
    (case fW => nofun)
    (case fP => nofun)
    (case fA => nofun)
    (case i2 => nofun)
    (case eE => nofun)
    (case eN => exact rfl)
    (case eL => nofun)
    (case eK => exact rfl)
    (case eI => exact rfl)
    (case bE => nofun)
    (case x1 => nofun)
    (case x2 => exact ⟨_, _, _, _, _, _, _, _, _, _, _, _, _, rfl⟩)
    (case x3 => nofun)
    (case x4 => exact rfl)
    (case x6 => exact rfl)
    (case x5 => nofun)
    (case x7 => nofun)
    (case h1 => nofun)
    (case h2 => nofun)
    (case h3 => nofun)
    (case h4 => nofun)
    (case h5 => nofun)
    (case h6 => nofun)
    (case h7 => nofun)
    (case h8 => nofun)
    (case wNF => nofun)
    (case wNM => nofun)
    (case wNB => nofun)
    (case wND => nofun)
    (case wNS => nofun)
    (case wNQ => nofun)
    (case wNP => nofun)
    (case wNL => nofun)
    (case wNT => nofun)
    (case wFE => nofun)
    (case wVE => nofun)
    (case s1 => nofun)
    (case s2 => nofun)
    (case s3 => nofun)
    (case s4 => nofun)
    (case s5 => nofun)
    (case s6 => nofun)
    (case s7 => nofun)
    (case z1 => nofun)
    (case z2 => nofun)
    (case z3 => nofun)
    (case z4 => nofun)
    (case z5 => nofun)
    (case z6 => nofun)
    (case z7 => nofun)
    (case z8 => nofun)
    (case z9 => nofun)
    (case z10 => nofun)
    (case z11 => nofun)
    (case z12 => nofun)
