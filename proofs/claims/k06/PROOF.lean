import PyProof.Rows.All
import Wide.All
import OpenK.AllK
import Wide.FinOn
import Lean
import PyProof.EqAt
import PyProof.EqKinds
import PyProof.TupleCall
import PyProof.EnumFor
import PyProof.EnumMake
import PyProof.EnumStmt
import PyProof.WalksEnum
import PyProof.NeKinds
import PyProof.CompFree
import PyProof.CompMap
import PyProof.Rows.Range3
import PyProof.Rows.ChunkEnd
import PyProof.Rows.StrCase
import PyProof.Rows.StrIndexOr
import PyProof.StrLawsIn
import PyProof.StrLawsIdx
import PyProof.SliceStr2
import PyProof.StrWalks
import PyProof.StationsW
import PyProof.ExcClass3
import PyProof.RulesAs
import PyProof.NsDelKeeps
import PyProof.ExcInit
import PyProof.ExcArgsOwn
import PyProof.InstStore
import PyProof.InstLoad
import PyProof.ExcBaseAll.ValueError
import PyProof.InstStoreFacts
import PyProof.ExcAttrAll.ValueError
import PyProof.Rows.StrJoinMade
import PyProof.ConsumeWalk
import PyProof.DictIter
import PyProof.DictWalks
import PyProof.Rows.SortStr
import PyProof.MeetsSeq
import PyProof.Rows.StrRev
import PyProof.StrOps2
import PyProof.Rows.RuleIs
import PyProof.ExcClass2
import PyProof.SumAny
import PyProof.Rows.FStrParts
import PyProof.Rows.StrNews2
import PyProof.Rows.StrWeight2
import PyProof.CallStr
import KE.KLam
import KE.KNestM
import PyProof.Conv_int_bool
import KE.KIntText
import PyProof.StrReplace2
import PyProof.Rows.StrSplitMax
import PyProof.ZipIter
import PyProof.Rows.MatchSeqLen
import KE.KDictList
import KE.KDictOf
import PyProof.AttrMissHeap
import PyProof.Rows.SortShell
import PySem.Challenge.RW_findcourt_k06_pieces
set_option Elab.async false
set_option linter.all false
set_option maxRecDepth 100000
namespace L2
open PySem
theorem runs_toks {M : Model} {Γ : Ctx} {p : Pos} {t : Sem Fin} {fs : List Frame} {s s' : Shared} {e : End} (h : Runs M Γ p t fs s e s') : s.toks ≤ s'.toks := by
  induction h <;> first
    | exact Nat.le_refl _
    | assumption
    | omega
    | (simp only [Shared.setGen] at *; omega)
theorem wakes_toks {M : Model} {Γ : Ctx} {p : Pos} {g : Nat} {r : Resume} {s s' : Shared} {res : GenResult} (h : Wakes M Γ p g r s res s') : s.toks ≤ s'.toks := by
  unfold Wakes at h
  split at h
  · exact h.elim
  · split at h
    · obtain ⟨e₁, s₁, h1, _, _, rfl⟩ := h
      exact (show (s.setGen g .running).toks ≤ s₁.toks from runs_toks h1)
    · obtain ⟨_, rfl⟩ := h; exact Nat.le_refl _
    · obtain ⟨_, rfl⟩ := h; exact Nat.le_refl _
  · obtain ⟨e₁, s₁, h1, _, _, rfl⟩ := h
    exact (show (s.setGen g .running).toks ≤ s₁.toks from runs_toks h1)
  · obtain ⟨_, rfl⟩ := h; exact Nat.le_refl _
  · obtain ⟨_, rfl⟩ := h; exact Nat.le_refl _
theorem wp_tok {α : Type} {M : Model} {Γ : Ctx} (n : Nat) (t : Sem α) {Q : α → Pos → Shared → Prop} {E : Value → Pos → Shared → Prop} : ∀ {p : Pos} {s : Shared}, n ≤ s.toks → Sem.wp M Γ t Q E p s →
    Sem.wp M Γ t (fun a p' s' => n ≤ s'.toks ∧ Q a p' s') (fun e p' s' => n ≤ s'.toks ∧ E e p' s') p s := by
  induction t with
  | pure a => intro p s z h; rw [Sem.wp] at h ⊢; exact ⟨z, h⟩
  | raise e => intro p s z h; rw [Sem.wp] at h ⊢; exact ⟨z, h⟩
  | load a _ k ih => intro p s z h; rw [Sem.wp] at h ⊢; obtain ⟨o, e, h⟩ := h; exact ⟨o, e, ih _ z h⟩
  | update a _ f k ih => intro p s z h; rw [Sem.wp] at h ⊢; exact ⟨h.1, ih _ (by exact z) h.2⟩
  | fresh k ih => intro p s z h; rw [Sem.wp] at h ⊢; exact ih _ (Nat.le_succ_of_le z) h
  | choose src m k ih => intro p s z h; rw [Sem.wp] at h ⊢; exact ⟨h.1, ih _ (by exact z) h.2⟩
  | call c hd g l k ih =>
    intro p s z h
    rw [Sem.wp] at h ⊢
    obtain ⟨r, s1, h1, h2⟩ := h
    exact ⟨r, s1, h1, ih _ (Nat.le_trans z (runs_toks h1)) h2⟩
  | genState g k ih => intro p s z h; rw [Sem.wp] at h ⊢; obtain ⟨st, e, h⟩ := h; exact ⟨st, e, ih _ z h⟩
  | resume g r l k ih =>
    intro p s z h
    rw [Sem.wp] at h ⊢
    obtain ⟨res, s1, h1, h2⟩ := h
    exact ⟨res, s1, h1, ih _ (Nat.le_trans z (wakes_toks h1)) h2⟩
  | _ => first
    | (intro p s z h; rw [Sem.wp] at h; exact h.elim)
    | (rename_i ih; intro p s z h; rw [Sem.wp] at h ⊢; exact ih _ (by exact z) h)
theorem wpAny_tok {α : Type} {M : Model} {A : Around} {t : Sem α} {Q : α → Shared → Prop} {E : Value → Shared → Prop} {s : Shared} (z : 0 < s.toks)
    (h : wpAny M A t (fun a s' => 0 < s'.toks → Q a s') (fun e s' => 0 < s'.toks → E e s') s) : wpAny M A t Q E s := fun Γ p hΓ =>
  Sem.wp_mono M Γ t (fun _ _ _ ⟨z', q⟩ => q z') (fun _ _ _ ⟨z', q⟩ => q z') p s (wp_tok 1 t z (h Γ p hΓ))
end L2

namespace L2
open PySem PySem.Spec PyProof.Rows

abbrev Key := Sum Int Str
def keyIs : Key → Value → Bool
  | .inl k, v => Value.isInt k v
  | .inr x, v => Value.isStrOf x v
def keyH (w : World) : Key → Int
  | .inl k => hashInt k
  | .inr x => hashStr w x
theorem keyIs_shape : ∀ {k : Key} {v : Value}, keyIs k v = true → (∃ i t, k = Sum.inl i ∧ v = Value.int i t) ∨ (∃ x t, k = Sum.inr x ∧ v = Value.str x t)
  | .inl i, v, h => by
    obtain ⟨t, e⟩ := Value.isInt_shape (k := i) (v := v) h
    exact .inl ⟨i, t, rfl, e⟩
  | .inr x, v, h => by
    obtain ⟨t, e⟩ := Value.isStrOf_shape (x := x) (v := v) h
    exact .inr ⟨x, t, rfl, e⟩
theorem keyIs_int (i : Int) (t : Tok) : keyIs (.inl i) (.int i t) = true := by simp [keyIs, Value.isInt]
theorem keyIs_str (x : Str) (t : Tok) : keyIs (.inr x) (.str x t) = true := by simp [keyIs, Value.isStrOf]
theorem key_ll (a b : Int) : decide ((Sum.inl a : Key) = Sum.inl b) = (a == b) := by
  by_cases e : a = b
  · subst e; simp
  · have h : ¬ (Sum.inl a : Key) = Sum.inl b := fun q => e (Sum.inl.inj q)
    rw [decide_eq_false h]
    exact (beq_eq_false_iff_ne.mpr e).symm
theorem key_rr (a b : Str) : decide ((Sum.inr a : Key) = Sum.inr b) = decide (a = b) := by
  by_cases e : a = b
  · subst e; simp
  · have h : ¬ (Sum.inr a : Key) = Sum.inr b := fun q => e (Sum.inr.inj q)
    rw [decide_eq_false h, decide_eq_false e]
theorem key_lr (a : Int) (b : Str) : decide ((Sum.inl a : Key) = Sum.inr b) = false := decide_eq_false (fun q => nomatch q)
theorem key_rl (a : Str) (b : Int) : decide ((Sum.inr a : Key) = Sum.inl b) = false := decide_eq_false (fun q => nomatch q)

def mixKind (prog : Program) (w : World) : PySem.KeyKind prog w Key where
  is := keyIs
  hash := keyH w
  inj := fun v a b ha hb => by
    rcases keyIs_shape ha with ⟨i, t, rfl, rfl⟩ | ⟨x, t, rfl, rfl⟩
    · rcases keyIs_shape hb with ⟨j, u, rfl, e⟩ | ⟨y, u, rfl, e⟩
      · injection e with e1 _; rw [e1]
      · exact nomatch e
    · rcases keyIs_shape hb with ⟨j, u, rfl, e⟩ | ⟨y, u, rfl, e⟩
      · exact nomatch e
      · injection e with e1 _; rw [e1]
  byValue := fun k v h => by
    rcases keyIs_shape h with ⟨i, t, rfl, rfl⟩ | ⟨x, t, rfl, rfl⟩ <;> rfl
  pyHash := fun hv h => by
    rcases keyIs_shape hv with ⟨i, t, rfl, rfl⟩ | ⟨x, t, rfl, rfl⟩
    · exact wpAny_pyHash_int h
    · exact wpAny_pyHash_str h
  eqBool := fun hu hv h => by
    rcases keyIs_shape hu with ⟨i, t, rfl, rfl⟩ | ⟨x, t, rfl, rfl⟩
    · rcases keyIs_shape hv with ⟨j, u, rfl, rfl⟩ | ⟨y, u, rfl, rfl⟩
      · rw [key_ll] at h; exact wpAny_eqBool_int h
      · rw [key_lr] at h; exact SeqAt.EqAt.int_str i t y u _ _ _ _ h
    · rcases keyIs_shape hv with ⟨j, u, rfl, rfl⟩ | ⟨y, u, rfl, rfl⟩
      · rw [key_rl] at h; exact SeqAt.EqAt.str_int x t j u _ _ _ _ h
      · rw [key_rr] at h; exact wpAny_eqBool_str h
  «strs» := fun k x t v h => by
    rcases keyIs_shape h with ⟨i, u, rfl, e⟩ | ⟨y, u, rfl, e⟩
    · exact nomatch e
    · injection e with e1 _
      subst e1
      cases v <;> rfl

theorem mixKind_is (prog : Program) (w : World) (k : Key) (v : Value) : (mixKind prog w).is k v = keyIs k v := rfl
theorem mixKind_int (prog : Program) (w : World) (i : Int) (t : Tok) : (mixKind prog w).is (.inl i) (.int i t) = true := keyIs_int i t
theorem mixKind_str (prog : Program) (w : World) (x : Str) (t : Tok) : (mixKind prog w).is (.inr x) (.str x t) = true := keyIs_str x t
end L2

namespace L2
open PySem PySem.Spec PyProof.Rows

inductive V where
  | non | bl (b : Bool) | int (i : Int) | str (x : Str) | byt (b : Array UInt8) | flt (b : UInt64) | ref (a : Addr) | ty (n : String)
  deriving DecidableEq

def RelV : V → Value → Prop
  | .non, u => u = Value.none
  | .bl b, u => u = Value.bool b
  | .int i, u => ∃ t, u = Value.int i t
  | .str x, u => ∃ t, u = Value.str x t
  | .byt b, u => ∃ t, u = Value.bytes b t
  | .flt b, u => ∃ t, u = Value.float b t
  | .ref a, u => u = Value.ref a
  | .ty n, u => u = Value.type n

abbrev Vals : List V → List Value → Prop := Paired RelV
theorem Vals.length {xs : List V} {us : List Value} (r : Vals xs us) : xs.length = us.length := Paired.length r
theorem Vals.get : ∀ {xs : List V} {us : List Value} {i : Nat} {x : V}, Vals xs us → xs[i]? = some x → ∃ u, us[i]? = some u ∧ RelV x u
  | _, _, _, _, .nil, e => by simp at e
  | _, _, 0, _, .cons r _, e => by simp at e; subst e; exact ⟨_, rfl, r⟩
  | _, _, i + 1, x, .cons _ t, e => by
    obtain ⟨u, h1, h2⟩ := Vals.get (i := i) (x := x) t (by simpa using e)
    exact ⟨u, by simpa using h1, h2⟩
theorem Vals.set {x : V} {u : Value} (r : RelV x u) : ∀ {xs : List V} {us : List Value} (i : Nat), Vals xs us → Vals (xs.set i x) (us.set i u)
  | _, _, _, .nil => .nil
  | _, _, 0, .cons _ t => .cons r t
  | _, _, i + 1, .cons q t => .cons q (Vals.set r i t)
theorem Vals.append : ∀ {xs ys : List V} {us ws : List Value}, Vals xs us → Vals ys ws → Vals (xs ++ ys) (us ++ ws)
  | _, _, _, _, .nil, s => s
  | _, _, _, _, .cons r t, s => .cons r (Vals.append t s)
theorem Vals.take : ∀ {xs : List V} {us : List Value} (n : Nat), Vals xs us → Vals (xs.take n) (us.take n)
  | _, _, 0, _ => .nil
  | _, _, _ + 1, .nil => .nil
  | _, _, n + 1, .cons r t => .cons r (Vals.take n t)
theorem Vals.drop : ∀ {xs : List V} {us : List Value} (n : Nat), Vals xs us → Vals (xs.drop n) (us.drop n)
  | _, _, 0, r => r
  | _, _, _ + 1, .nil => .nil
  | _, _, n + 1, .cons _ t => Vals.drop n t
theorem Vals.none_of : ∀ {xs : List V} {us : List Value} {i : Nat}, Vals xs us → xs[i]? = none → us[i]? = none := fun {xs us i} r e => by
  have h1 := r.length
  have h2 : xs.length ≤ i := List.getElem?_eq_none_iff.mp e
  exact List.getElem?_eq_none_iff.mpr (by omega)

def RelO : Option V → Option Value → Prop
  | some v, some u => RelV v u
  | none, none => True
  | _, _ => False
def KV {κ : Type} : List (κ × V) → List (κ × Value) → Prop := Paired fun (p : κ × V) (q : κ × Value) => p.1 = q.1 ∧ RelV p.2 q.2

def kV : Key → V
  | .inl i => .int i
  | .inr x => .str x

inductive HO where
  /-- a list -/
  | lst (xs : List V)
  /-- a tuple (never changes) -/
  | tup (xs : List V)
  /-- a dict whose keys are ints and texts; one whose keys are tuples of ints and texts (the empty one is both) -/
  | dK (kvs : List (Key × V)) | dT (kvs : List (List Key × V))
  /-- a set of ints: its members, its size -/
  | set (S : Int → Bool) (n : Nat)
  /-- an instance of the class at C, its dict at dx, its attributes -/
  | ins (C dx : Addr) (fs : List (Str × V))
  /-- the dict of the instance at x -/
  | own (x : Addr)
  /-- the dict of an exception -/
  | xd (fs : List (Str × V))
  /-- a bound method, f of x -/
  | met (f x : Addr)
  /-- a range object lo, lo + 1, .. below hi -/
  | rng (lo hi : Int)
  /-- a thing that is known to the object (the script; a dict while a loop walks it): read, never written while it is so -/
  | frz (o : Obj) (u : HO)
  /-- a code object's table -/
  | tbl (ps : Array Value)
  /-- any other thing, by what is true of its one object (a def of one's own: SetO a S n := HO.ext fun h => ..) -/
  | ext (φ : Heap → Prop)

abbrev Hp := Addr → Option HO
def upd (H : Hp) (a : Addr) (o : HO) : Hp := fun b => if b = a then some o else H b
theorem upd_same {H : Hp} {a : Addr} {o : HO} : upd H a o a = some o := by unfold upd; rw [if_pos rfl]
theorem upd_ne {H : Hp} {a b : Addr} {o : HO} (h : b ≠ a) : upd H a o b = H b := by unfold upd; rw [if_neg h]
theorem ne_of {H : Hp} {a b : Addr} {o u : HO} (h : H a = some o) (h' : H b = some u) (d : o ≠ u) : a ≠ b := by
  intro e; subst e; rw [h] at h'; exact d (Option.some.inj h')
theorem ne_of_none {H : Hp} {a b : Addr} {o : HO} (h : H a = some o) (h' : H b = none) : a ≠ b := by
  intro e; subst e; rw [h] at h'; cases h'

section
variable (P : Program) (w : World)
def ObjOk (H : Hp) (h : Heap) (a : Addr) : HO → Prop
  | .lst xs => xs.length ≤ sizeLine ∧ ∃ (its : List Value) (n : Nat), Vals xs its ∧ h.get? a = some { cls := .type "list", data := .seq its.toArray n }
  | .tup xs => xs.length ≤ sizeLine ∧ ∃ its : List Value, Vals xs its ∧ IsTup h a its.toArray
  | .dK kvs => kvs.length ≤ sizeLine ∧ (a == sysModules) = false ∧ ∃ vs, KV kvs vs ∧ h.DictOf (mixKind P w) a vs
  | .dT kvs => kvs.length ≤ sizeLine ∧ (a == sysModules) = false ∧ ∃ xs : List (List Key × Addr × Value),
      Paired (fun (p : List Key × V) (q : List Key × Addr × Value) => p.1 = q.1 ∧ H q.2.1 = some (.tup (p.1.map kV)) ∧ RelV p.2 q.2.2) kvs xs ∧
      ∃ o es ep, h.get? a = some o ∧ o.ExactDict ∧ o.data = .dict es ep ∧ es.toList = xs.map (entryOfKey (tupleKind (mixKind P w))) ∧ (xs.map (·.1)).Nodup
  | .set S n => h.SetOf (intKind P w) a S n
  | .ins C dx fs => H dx = some (.own a) ∧ fs.length ≤ 1000 ∧ dx ≠ a ∧ h.get? a = some (PySem.W.instObj C dx) ∧
      ∃ mA, h.Ns1 dx mA ∧ (∀ f, RelO (fs.lookup f) (mA f)) ∧ PySem.Within mA (fs.map (·.1))
  | .own _ => ∃ o, h.get? a = some o
  | .xd fs => ∃ mA, h.Ns1 a mA ∧ ∀ f, RelO (fs.lookup f) (mA f)
  | .rng lo hi => ∃ t u v, h.get? a = some { cls := .type "range", data := .fields #[.int lo t, .int hi u, .int 1 v] }
  | .frz o u => h.get? a = some o ∧ ObjOk H h a u
  | .tbl ps => h.get? a = some { cls := .none, data := .fields ps }
  | .met f x => h.get? a = some (PySem.W.methodObj (.ref f) (.ref x))
  | .ext φ => φ h ∧ (∃ o, h.get? a = some o) ∧ ∀ h1 h2 : Heap, φ h1 → (∀ o, h1.get? a = some o → h2.get? a = some o) → φ h2
def HOk (H : Hp) (h : Heap) : Prop := ∀ a o, H a = some o → ObjOk P w H h a o
end

section
variable {P : Program} {w : World} {H H' : Hp} {h h' : Heap} {a : Addr} {o : HO}
theorem ObjOk.lt (x : ObjOk P w H h a o) : a < h.objs.size := by
  cases o with
  | lst xs => obtain ⟨_, _, _, _, e⟩ := x; exact Heap.lt_size e
  | tup xs => obtain ⟨_, _, _, p⟩ := x; exact p.lt
  | dK kvs => obtain ⟨_, _, _, _, o, _, _, e, _⟩ := x; exact Heap.lt_size e
  | dT kvs => obtain ⟨_, _, _, _, o, _, _, e, _⟩ := x; exact Heap.lt_size e
  | set S n => obtain ⟨o, _, _, _, e, _⟩ := x; exact Heap.lt_size e
  | ins C dx fs => obtain ⟨_, _, _, e, _⟩ := x; exact Heap.lt_size e
  | own y => obtain ⟨_, e⟩ := x; exact Heap.lt_size e
  | xd fs => obtain ⟨_, ⟨_, _, _, e, _⟩, _⟩ := x; exact Heap.lt_size e
  | rng lo hi => obtain ⟨_, _, _, e⟩ := x; exact Heap.lt_size e
  | frz ob u => obtain ⟨e, _⟩ := x; exact Heap.lt_size e
  | tbl ps => exact Heap.lt_size (show h.get? a = some _ from x)
  | met f y => exact Heap.lt_size (show h.get? a = some _ from x)
  | ext φ => obtain ⟨_, ⟨_, e⟩, _⟩ := x; exact Heap.lt_size e
theorem Paired.mapP {α β : Type} {F G : α → β → Prop} : ∀ {l₁ : List α} {l₂ : List β}, Paired F l₁ l₂ → (∀ a b, F a b → G a b) → Paired G l₁ l₂
  | _, _, .nil, _ => .nil
  | _, _, .cons r t, f => .cons (f _ _ r) (Paired.mapP t f)
theorem ObjOk.stay (x : ObjOk P w H h a o) (k : ∀ b u, (b = a ∨ H b = some (.own a)) → h.get? b = some u → h'.get? b = some u)
    (ho : ∀ b, H b = some (.own a) → H' b = some (.own a)) (ht : ∀ b xs, H b = some (.tup xs) → H' b = some (.tup xs)) : ObjOk P w H' h' a o := by
  induction o with
  | lst xs => obtain ⟨z, its, n, r, e⟩ := x; exact ⟨z, its, n, r, k _ _ (.inl rfl) e⟩
  | tup xs => obtain ⟨z, its, r, ob, e, c⟩ := x; exact ⟨z, its, r, ob, k _ _ (.inl rfl) e, c⟩
  | dK kvs => obtain ⟨z, y, vs, r, ob, es, ep, e, c⟩ := x; exact ⟨z, y, vs, r, ob, es, ep, k _ _ (.inl rfl) e, c⟩
  | dT kvs =>
    obtain ⟨z, y, xs, r, ob, es, ep, e, c⟩ := x
    exact ⟨z, y, xs, Paired.mapP r fun p q z => ⟨z.1, ht _ _ z.2.1, z.2.2⟩, ob, es, ep, k _ _ (.inl rfl) e, c⟩
  | set S n => obtain ⟨ob, es, ep, t, e, c⟩ := x; exact ⟨ob, es, ep, t, k _ _ (.inl rfl) e, c⟩
  | ins C dx fs =>
    obtain ⟨d, z, ne, e, mA, ⟨od, es, ep, e2, c⟩, r⟩ := x
    exact ⟨ho _ d, z, ne, k _ _ (.inl rfl) e, mA, ⟨od, es, ep, k _ _ (.inr d) e2, c⟩, r⟩
  | own y => obtain ⟨ob, e⟩ := x; exact ⟨ob, k _ _ (.inl rfl) e⟩
  | xd fs => obtain ⟨mA, ⟨od, es, ep, e, c⟩, r⟩ := x; exact ⟨mA, ⟨od, es, ep, k _ _ (.inl rfl) e, c⟩, r⟩
  | rng lo hi => obtain ⟨t, u, v, e⟩ := x; exact ⟨t, u, v, k _ _ (.inl rfl) e⟩
  | frz ob u ih => obtain ⟨e, q⟩ := x; exact ⟨k _ _ (.inl rfl) e, ih q⟩
  | tbl ps =>
    have e : h.get? a = some { cls := .none, data := .fields ps } := x
    show h'.get? a = some { cls := .none, data := .fields ps }
    exact k a _ (.inl rfl) e
  | met f y =>
    have e : h.get? a = some (PySem.W.methodObj (.ref f) (.ref y)) := x
    show h'.get? a = some (PySem.W.methodObj (.ref f) (.ref y))
    exact k a _ (.inl rfl) e
  | ext φ => obtain ⟨p, ⟨o, e⟩, st⟩ := x; exact ⟨st _ _ p fun o q => k _ _ (.inl rfl) q, ⟨o, k _ _ (.inl rfl) e⟩, st⟩
theorem HOk.lt (x : HOk P w H h) (e : H a = some o) : a < h.objs.size := (x a o e).lt
theorem HOk.fresh (x : HOk P w H h) (e : h.objs.size ≤ a) : H a = none := by
  cases q : H a with
  | none => rfl
  | some u => exact absurd (Nat.lt_of_lt_of_le (x.lt q) e) (Nat.lt_irrefl _)
theorem HOk.kept (x : HOk P w H h) (k : ∀ b u, h.get? b = some u → h'.get? b = some u) : HOk P w H h' := fun a o e =>
  (x a o e).stay (fun b u _ q => k b u q) (fun _ q => q) fun _ _ q => q
theorem HOk.laid (x : HOk P w H h) (k : ∀ b u, h.get? b = some u → h'.get? b = some u) (hp : h.objs.size ≤ a) (new : ObjOk P w (upd H a o) h' a o) : HOk P w (upd H a o) h' := fun b u e => by
  have hn := x.fresh hp
  by_cases hb : b = a
  · subst hb; rw [upd_same] at e; cases e; exact new
  · rw [upd_ne hb] at e
    exact (x b u e).stay (fun c v _ q => k c v q) (fun c q => by rw [upd_ne (ne_of_none q hn)]; exact q) fun c xs q => by rw [upd_ne (ne_of_none q hn)]; exact q
end

def Rd (H : Hp) (a : Addr) (u : HO) : Prop := H a = some u ∨ ∃ o, H a = some (.frz o u)
theorem Rd.of {H : Hp} {a : Addr} {u : HO} (h : H a = some u) : Rd H a u := .inl h
theorem Rd.ok {P : Program} {w : World} {H : Hp} {h : Heap} {a : Addr} {u : HO} (r : Rd H a u) (x : HOk P w H h) : ObjOk P w H h a u := by
  rcases r with r | ⟨o, r⟩
  · exact x a u r
  · obtain ⟨_, q⟩ := x a _ r
    exact q
def Mut : Option HO → Prop
  | some (.lst _) => True
  | some (.dK _) => True
  | some (.dT _) => True
  | some (.set _ _) => True
  | some (.ins _ _ _) => True
  | some (.ext _) => True
  | _ => False
section
variable {P : Program} {w : World} {H : Hp} {h h' : Heap} {x e : Addr} {o' : HO}
theorem HOk.write (ok : HOk P w H h) (mu : Mut (H x)) (he : e = x ∨ H e = some (.own x)) (k : ∀ b u, b ≠ e → h.get? b = some u → h'.get? b = some u) (heo : ∃ u, h'.get? e = some u)
    (new : ObjOk P w (upd H x o') h' x o') : HOk P w (upd H x o') h' := fun b u q => by
  have nown : ∀ c y, H c = some (.own y) → c ≠ x := fun c y r z => by subst z; rw [r] at mu; exact mu
  have ntup : ∀ c xs, H c = some (.tup xs) → c ≠ x := fun c xs r z => by subst z; rw [r] at mu; exact mu
  by_cases hb : b = x
  · subst hb; rw [upd_same] at q; cases q; exact new
  · rw [upd_ne hb] at q
    by_cases hbe : b = e
    · have q' : H b = some (.own x) := by
        rcases he with z | z
        · exact absurd (hbe.trans z) hb
        · rw [hbe]; exact z
      rw [q] at q'; cases q'
      obtain ⟨v, hv⟩ := heo
      exact ⟨v, by rw [hbe]; exact hv⟩
    · refine (ok b u q).stay (fun c v hc r => k c v ?_ r) (fun c r => by rw [upd_ne (nown c b r)]; exact r) fun c xs r => by rw [upd_ne (ntup c xs r)]; exact r
      rcases hc with rfl | hc
      · exact hbe
      · rintro rfl
        rcases he with z | z
        · exact nown c b hc z
        · rw [hc] at z; cases z; exact hb rfl
end

structure Un (fs ex : List Addr) (H H' : Hp) (h h' : Heap) : Prop where
  keep : ∀ b o, h.get? b = some o → H b = none → b ∉ fs → b ∉ ex → h'.get? b = some o
  slot : ∀ b o, h.get? b = some o → H b = none → b ∈ fs → b ∉ ex → ∃ sl, h'.get? b = some { o with slots := sl }
  free : ∀ b o, h.get? b = some o → H b = none → b ∉ ex → H' b = none
  there : ∀ b o, h.get? b = some o → b ∉ ex → ∃ o', h'.get? b = some o'
  tups : ∀ b xs, H b = some (.tup xs) → H' b = some (.tup xs)
  frzs : ∀ b o u, H b = some (.frz o u) → H' b = some (.frz o u)
  tbls : ∀ b ps, H b = some (.tbl ps) → ∃ more, H' b = some (.tbl (ps ++ more))
section
variable {fs fs' ex ex' : List Addr} {H H1 H2 : Hp} {h h1 h2 h' : Heap} {a x e : Addr} {o : HO}
theorem Un.any (u : Un fs ex H H1 h h1) {b : Addr} {ob : Obj} (q : h.get? b = some ob) (n : H b = none) (hx : b ∉ ex) : ∃ sl, h1.get? b = some { ob with slots := sl } := by
  by_cases hb : b ∈ fs
  · exact u.slot b ob q n hb hx
  · exact ⟨ob.slots, u.keep b ob q n hb hx⟩
theorem Un.trans (a : Un fs ex H H1 h h1) (b : Un fs ex H1 H2 h1 h2) : Un fs ex H H2 h h2 where
  keep := fun c ob q n hc hx => b.keep c ob (a.keep c ob q n hc hx) (a.free c ob q n hx) hc hx
  slot := fun c ob q n hc hx => by
    obtain ⟨sl, e1⟩ := a.slot c ob q n hc hx
    obtain ⟨sl', e2⟩ := b.slot c _ e1 (a.free c ob q n hx) hc hx
    exact ⟨sl', e2⟩
  free := fun c ob q n hx => by
    obtain ⟨o', e1⟩ := a.there c ob q hx
    exact b.free c o' e1 (a.free c ob q n hx) hx
  there := fun c ob q hx => by
    obtain ⟨o', e1⟩ := a.there c ob q hx
    exact b.there c o' e1 hx
  tups := fun c xs q => b.tups c xs (a.tups c xs q)
  frzs := fun c ob xs q => b.frzs c ob xs (a.frzs c ob xs q)
  tbls := fun c ps q => by
    obtain ⟨m1, e1⟩ := a.tbls c ps q
    obtain ⟨m2, e2⟩ := b.tbls c _ e1
    exact ⟨m1 ++ m2, by rw [e2, Array.append_assoc]⟩
theorem Un.kept (k : ∀ b u, h.get? b = some u → h'.get? b = some u) : Un fs ex H H h h' :=
  ⟨fun b ob q _ _ _ => k b ob q, fun b ob q _ _ _ => ⟨ob.slots, k b ob q⟩, fun _ _ _ n _ => n, fun b ob q _ => ⟨ob, k b ob q⟩, fun _ _ q => q, fun _ _ _ q => q, fun _ ps q => ⟨#[], by rw [q]; simp⟩⟩
theorem Un.refl : Un fs ex H H h h := Un.kept fun _ _ q => q
theorem Un.laid (k : ∀ b u, h.get? b = some u → h'.get? b = some u) (hp : h.objs.size ≤ a) (hn : H a = none) : Un fs ex H (upd H a o) h h' where
  keep := fun b u q _ _ _ => k b u q
  slot := fun b u q _ _ _ => ⟨u.slots, k b u q⟩
  free := fun b u q n _ => by rw [upd_ne (Nat.ne_of_lt (Nat.lt_of_lt_of_le (Heap.lt_size q) hp))]; exact n
  there := fun b u q _ => ⟨u, k b u q⟩
  tups := fun b xs q => by rw [upd_ne (ne_of_none q hn)]; exact q
  frzs := fun b u xs q => by rw [upd_ne (ne_of_none q hn)]; exact q
  tbls := fun b ps q => ⟨#[], by rw [upd_ne (ne_of_none q hn), q]; simp⟩
theorem Un.write (mu : Mut (H x)) (he : e = x ∨ H e = some (.own x)) (k : ∀ b u, b ≠ e → h.get? b = some u → h'.get? b = some u) (heo : ∃ u, h'.get? e = some u) : Un fs ex H (upd H x o) h h' := by
  have hx : ∀ b, H b = none → b ≠ x := fun b n z => by subst z; rw [n] at mu; exact mu
  have hb : ∀ b, H b = none → b ≠ e := fun b n z => by
    subst z
    rcases he with r | r
    · exact hx b n r
    · rw [n] at r; cases r
  have hm : ∀ b u, H b = some u → ¬ Mut (some u) → b ≠ x := fun b u q nm z => by subst z; rw [q] at mu; exact nm mu
  refine ⟨fun b u q n _ _ => k b u (hb b n) q, fun b u q n _ _ => ⟨u.slots, k b u (hb b n) q⟩, fun b u q n _ => by rw [upd_ne (hx b n)]; exact n, fun b u q _ => ?_,
    fun b xs q => by rw [upd_ne (hm b _ q fun z => z)]; exact q, fun b u xs q => by rw [upd_ne (hm b _ q fun z => z)]; exact q, fun b ps q => ⟨#[], by rw [upd_ne (hm b _ q fun z => z), q]; simp⟩⟩
  by_cases hbe : b = e
  · subst hbe; exact heo
  · exact ⟨u, k b u hbe q⟩
theorem Un.mono (u : Un fs ex H H1 h h1) (hs : ∀ b ∈ fs, b ∈ fs') (hx : ∀ b ∈ ex, b ∈ ex') : Un fs' ex' H H1 h h1 :=
  ⟨fun b ob q n hb he => u.keep b ob q n (fun z => hb (hs b z)) fun z => he (hx b z), fun _ _ q n _ he => u.any q n fun z => he (hx _ z), fun b ob q n he => u.free b ob q n fun z => he (hx b z), fun b ob q he => u.there b ob q fun z => he (hx b z), u.tups, u.frzs, u.tbls⟩
end

def trk (h : Heap) (H : Hp) : List Addr := (List.range h.objs.size).filter fun a => (H a).isSome
def hidT (h : Heap) (H : Hp) : Heap := PySem.W.hideAll h (trk h H)
theorem hidT_size (h : Heap) (H : Hp) : (hidT h H).objs.size = h.objs.size := PySem.W.hideAll_size _ _
theorem hidT_get {h : Heap} {H : Hp} {b : Addr} {o : Obj} (e : h.get? b = some o) (n : H b = none) : (hidT h H).get? b = some o :=
  PySem.W.hideAll_get _ e fun hm => by
    have q : (H b).isSome = true := (List.mem_filter.mp hm).2
    rw [n] at q; simp at q
theorem of_hidT {h : Heap} {H : Hp} {b : Addr} {o : Obj} (e : (hidT h H).get? b = some o) : h.get? b = some o ∧ H b = none := by
  have e' : h.get? b = some o := PySem.W.of_hideAll (trk h H) e
  refine ⟨e', ?_⟩
  cases q : H b with
  | none => rfl
  | some x =>
    have hm : b ∈ trk h H := List.mem_filter.mpr ⟨List.mem_range.mpr (Heap.lt_size e'), by simp [q]⟩
    have z : (hidT h H).get? b = none := PySem.W.hideAll_none (trk h H) hm
    rw [z] at e; cases e

def allNews (g h : Heap) (L : Addr) : List (Addr × Obj) := (List.range h.objs.size).filterMap fun a => if a = L ∨ (g.get? a).isSome = true then none else (h.get? a).map fun o => (a, o)
def rest (g h : Heap) (L d : Addr) : List (Addr × Obj) := (allNews g h L).filter fun p => decide (p.1 ≠ d)
end L2

namespace L2
open PySem PySem.Spec PyProof.Rows

structure Mod (K : PySem.W.Frag) (mg : Str → Option Value) (base : Heap) : Prop where
  kin : K.In base
  glob : base.Ns mainGlobals mg
  blt : ∃ mb, base.Ns builtinsNs mb ∧ ∀ x : Str, x ≠ "__name__" → mb x = bootBuiltins x
  nolimit : base.NoLimit

structure Cx where
  prog : Program
  w : World
  K : PySem.W.Frag
  mg : Str → Option Value
  base : Heap
  A : Around
  N : List Str
  s₀ : Shared
  H₀ : Hp
  env : Env
  outer : List Env
  stack : List Env
  ex : List Addr
  fn : Str → Bool
  calm : Bool
  pn : List (Addr × Obj)
  xe : Value → Shared → Prop
def frs (l : List Env) : List Addr := l.filterMap (·.frame)
abbrev Cx.fs (X : Cx) : List Addr := frs X.outer

def Vis (sc : Scope) (x : Str) : Prop := sc.names.lookup x = some .local ∨ sc.names.lookup x = some .cell ∨ sc.names.lookup x = some .free
def Loc (sc : Scope) (x : Str) : Prop := sc.names.lookup x = some .local ∨ sc.names.lookup x = some .cell
def Look (env : Env) (h : Heap) (m : Str → Option Value) (x : Str) (u : Value) : Prop :=
  (env.kindOf x = some .local ∧ m x = some u) ∨ ((env.kindOf x = some .cell ∨ env.kindOf x = some .free) ∧ ∃ c, env.cells.lookup x = some c ∧ h.IsCell c (some u))

structure Cx.Ok (X : Cx) : Prop where
  mod : Mod X.K X.mg X.base
  kind : X.env.scope.kind = .function
  glob : X.env.globals = mainGlobals
  blt : X.env.builtins = builtinsNs
  above : X.s₀.heap.objs.size ≤ X.env.locals
  inj : ∀ x y c, X.env.cells.lookup x = some c → X.env.cells.lookup y = some c → x = y
  has : ∀ x, (X.env.kindOf x = some .cell ∨ X.env.kindOf x = some .free) → ∃ c, X.env.cells.lookup x = some c
  cab : ∀ x c, X.fn x = true → X.env.cells.lookup x = some c → X.s₀.heap.objs.size ≤ c
  hd : X.calm = true → X.A.handled = none
  frames : X.A.frames = some X.stack
  stk : X.stack = X.outer ∨ (X.stack = X.env :: X.outer ∧ X.env.frame = some X.env.locals)
  exf : ∀ b ∈ X.ex, b ≠ X.env.locals ∧ ∀ x c, X.env.cells.lookup x = some c → c ≠ b
  bs : ∀ b o, X.base.get? b = some o → X.s₀.heap.get? b = some o ∧ X.H₀ b = none
  bsz : X.base.objs.size ≤ X.s₀.heap.objs.size
  noex : ∀ b o, X.base.get? b = some o → b ∉ X.ex
  exfs : ∀ b ∈ X.ex, b ∉ X.fs
  funs : X.s₀.heap.FunFrames X.base X.outer
  frf : ∀ b ∈ X.fs, X.H₀ b = none

structure Inw (X : Cx) (pins : List (Addr × Obj)) (σ : List (Option V)) (H : Hp) (s : Shared) : Prop where
  ok : X.Ok
  os : s.os = X.s₀.os
  bare : AllBare s.gens
  base : Un X.fs X.ex X.H₀ H X.s₀.heap s.heap
  loc : ∃ m, s.heap.Ns X.env.locals m ∧ ∀ (i : Nat) (x : Str) (v : V), X.N[i]? = some x → σ[i]? = some (some v) → Vis X.env.scope x → ∃ u, RelV v u ∧ Look X.env s.heap m x u
  cell : ∀ x c, X.env.cells.lookup x = some c → ∃ v, s.heap.IsCell c v
  free : H X.env.locals = none
  freeC : ∀ x c, X.env.cells.lookup x = some c → H c = none
  pin : ∀ p ∈ X.pn ++ pins, s.heap.get? p.1 = some p.2 ∧ H p.1 = none ∧ p.1 ≠ X.env.locals ∧ p.1 ∉ X.fs ∧ ∀ v, p.2.data ≠ .cell v
  hok : HOk X.prog X.w H s.heap
  len : σ.length = X.N.length

section
variable {X : Cx} {pins : List (Addr × Obj)} {σ : List (Option V)} {H H' : Hp} {s : Shared} {h' : Heap}

theorem Cx.Ok.nofr (ok : X.Ok) {b : Addr} {o : Obj} (e : X.base.get? b = some o) : b ∉ X.fs := fun hb => by
  have := (ok.funs.mem hb).1
  rw [e] at this; cases this
theorem Inw.bs (I : Inw X pins σ H s) : ∀ b o, X.base.get? b = some o → s.heap.get? b = some o ∧ H b = none := fun b o e =>
  ⟨I.base.keep b o (I.ok.bs b o e).1 (I.ok.bs b o e).2 (I.ok.nofr e) (I.ok.noex b o e), I.base.free b o (I.ok.bs b o e).1 (I.ok.bs b o e).2 (I.ok.noex b o e)⟩
theorem Inw.bk (I : Inw X pins σ H s) : ∀ b o, X.base.get? b = some o → s.heap.get? b = some o := fun b o e => (I.bs b o e).1
theorem Inw.mod (I : Inw X pins σ H s) : Mod X.K X.mg X.base := I.ok.mod
theorem Inw.kIn (I : Inw X pins σ H s) : X.K.In s.heap := I.ok.mod.kin.keeps I.bk
theorem Inw.nolimit (I : Inw X pins σ H s) : s.heap.NoLimit := I.ok.mod.nolimit.keeps I.bk
theorem Inw.fr (I : Inw X pins σ H s) : ∃ m, Fr X.base X.env.locals s.heap m :=
  let ⟨m, hn, _⟩ := I.loc
  ⟨m, hn, I.bk, Nat.le_trans I.ok.bsz I.ok.above⟩
theorem Inw.lt (I : Inw X pins σ H s) : X.env.locals < s.heap.objs.size := let ⟨_, hn, _⟩ := I.loc; hn.lt
theorem Inw.sz (I : Inw X pins σ H s) : X.s₀.heap.objs.size ≤ s.heap.objs.size := Nat.le_trans I.ok.above (Nat.le_of_lt I.lt)
theorem Inw.nofs (I : Inw X pins σ H s) {a : Addr} (h : s.heap.objs.size ≤ a) : a ∉ X.fs := fun hb => by
  obtain ⟨_, o, ho, _⟩ := I.ok.funs.mem hb
  exact absurd (Nat.lt_of_lt_of_le (Heap.lt_size ho) (Nat.le_trans I.sz h)) (Nat.lt_irrefl _)
theorem Inw.cne (I : Inw X pins σ H s) : ∀ x c, X.env.cells.lookup x = some c → c ≠ X.env.locals := fun x c e z => by
  obtain ⟨v, o, ho, hd⟩ := I.cell x c e
  obtain ⟨m, ⟨o', es, ep, ho', hd', _⟩, _⟩ := I.loc
  rw [z, ho'] at ho; cases ho; rw [hd'] at hd; cases hd
theorem Inw.funs (I : Inw X pins σ H s) : s.heap.FunFrames X.base X.outer := by
  have all : ∀ (l : List Env), (∀ b ∈ frs l, b ∈ X.fs) → X.s₀.heap.FunFrames X.base l → s.heap.FunFrames X.base l := by
    intro l
    induction l with
    | nil => intro _ _; trivial
    | cons env r ih =>
      intro hs hl
      obtain ⟨hk, ⟨L, o, hf, hn, ho, hd⟩, hr⟩ := hl
      have hL : L ∈ X.fs := hs L (by unfold frs; rw [List.filterMap_cons, hf]; exact List.mem_cons_self)
      obtain ⟨sl, e⟩ := I.base.slot L o ho (I.ok.frf L hL) hL fun z => I.ok.exfs L z hL
      exact ⟨hk, ⟨L, _, hf, hn, e, hd⟩, ih (fun b hb => hs b (by unfold frs; rw [List.filterMap_cons, hf]; exact List.mem_cons_of_mem _ hb)) hr⟩
  exact all X.outer (fun _ hb => hb) I.ok.funs

theorem Inw.stack (I : Inw X pins σ H s) : s.heap.FunFrames X.base X.stack := by
  rcases I.ok.stk with e | ⟨e, hf⟩
  · rw [e]; exact I.funs
  · rw [e]
    obtain ⟨m, hn, _⟩ := I.loc
    refine .cons (by rw [I.ok.kind]; decide) hf hn ?_ I.funs
    exact Heap.get?_none_of_le (Nat.le_trans I.ok.bsz I.ok.above)
theorem Inw.stkSub (I : Inw X pins σ H s) : ∀ b ∈ frs X.stack, b ∈ X.env.locals :: X.fs := fun b hb => by
  rcases I.ok.stk with e | ⟨e, hf⟩
  · rw [e] at hb; exact List.mem_cons_of_mem _ hb
  · rw [e] at hb
    unfold frs at hb
    rw [List.filterMap_cons, hf] at hb
    exact hb
theorem Inw.stkFree (I : Inw X pins σ H s) : ∀ b ∈ frs X.stack, H b = none := fun b hb => by
  rcases List.mem_cons.mp (I.stkSub b hb) with e | hb
  · rw [e]; exact I.free
  · obtain ⟨_, o, ho, _⟩ := I.ok.funs.mem hb
    exact I.base.free b o ho (I.ok.frf b hb) fun z => I.ok.exfs b z hb

theorem Inw.step {g' : Array GenState} {t' : Nat} {d' : Drawn} {ch : List Addr} (I : Inw X pins σ H s)
    (hch : ∀ b ∈ ch, (b ∈ X.ex ∨ X.s₀.heap.objs.size ≤ b) ∧ b ≠ X.env.locals ∧ (∀ x c, X.env.cells.lookup x = some c → c ≠ b) ∧ ∀ p ∈ X.pn ++ pins, p.1 ≠ b)
    (keep : ∀ b o, b ≠ X.env.locals → b ∉ X.fs → b ∉ ch → s.heap.get? b = some o → H b = none → h'.get? b = some o)
    (slot : ∀ b o, b ≠ X.env.locals → b ∈ X.fs → b ∉ ch → s.heap.get? b = some o → H b = none → ∃ sl, h'.get? b = some { o with slots := sl }) (free : ∀ b o, b ∉ ch → s.heap.get? b = some o → H b = none → H' b = none)
    (there : ∀ b o, b ∉ ch → s.heap.get? b = some o → ∃ o', h'.get? b = some o')
    (tups : ∀ b xs, H b = some (.tup xs) → H' b = some (.tup xs)) (frzs : ∀ b o u, H b = some (.frz o u) → H' b = some (.frz o u)) (tbls : ∀ b ps, H b = some (.tbl ps) → ∃ more, H' b = some (.tbl (ps ++ more)))
    (ns : ∀ m, s.heap.Ns X.env.locals m → h'.Ns X.env.locals m) (hok : HOk X.prog X.w H' h') (hg : AllBare g') :
    Inw X pins σ H' { s with heap := h', gens := g', drawn := d', toks := t' } := by
  have neL : ∀ b o, X.s₀.heap.get? b = some o → b ≠ X.env.locals := fun b o e => Nat.ne_of_lt (Nat.lt_of_lt_of_le (Heap.lt_size e) I.ok.above)
  have neC : ∀ b o, X.s₀.heap.get? b = some o → b ∉ X.ex → b ∉ ch := fun b o e hx hb => by
    rcases (hch b hb).1 with z | z
    · exact hx z
    · exact absurd (Nat.lt_of_lt_of_le (Heap.lt_size e) z) (Nat.lt_irrefl _)
  have cellK : ∀ x c, X.env.cells.lookup x = some c → ∀ v, s.heap.IsCell c v → h'.IsCell c v := fun x c e v ⟨o, ho, hd⟩ => by
    have nch : c ∉ ch := fun z => (hch c z).2.2.1 x c e rfl
    by_cases hc : c ∈ X.fs
    · obtain ⟨sl, q⟩ := slot c o (I.cne x c e) hc nch ho (I.freeC x c e)
      exact ⟨_, q, hd⟩
    · exact ⟨o, keep c o (I.cne x c e) hc nch ho (I.freeC x c e), hd⟩
  refine ⟨I.ok, I.os, hg, ⟨fun b o e n hb hx => ?_, fun b o e n hb hx => ?_, fun b o e n hx => ?_, fun b o e hx => ?_, fun b xs e => tups b xs (I.base.tups b xs e), fun b o xs e => frzs b o xs (I.base.frzs b o xs e), fun b ps e => ?_⟩, ?_, fun x c e => ?_, ?_, fun x c e => ?_, fun p hp => ?_, hok, I.len⟩
  · exact keep b o (neL b o e) hb (neC b o e hx) (I.base.keep b o e n hb hx) (I.base.free b o e n hx)
  · obtain ⟨sl, e1⟩ := I.base.slot b o e n hb hx
    obtain ⟨sl', e2⟩ := slot b _ (neL b o e) hb (neC b o e hx) e1 (I.base.free b o e n hx)
    exact ⟨sl', e2⟩
  · obtain ⟨o', e1⟩ := I.base.there b o e hx
    exact free b o' (neC b o e hx) e1 (I.base.free b o e n hx)
  · obtain ⟨o', e1⟩ := I.base.there b o e hx
    exact there b o' (neC b o e hx) e1
  · obtain ⟨m1, e1⟩ := I.base.tbls b ps e
    obtain ⟨m2, e2⟩ := tbls b _ e1
    exact ⟨m1 ++ m2, by rw [e2, Array.append_assoc]⟩
  · obtain ⟨m, hn, hl⟩ := I.loc
    refine ⟨m, ns m hn, fun i x v e1 e2 e3 => ?_⟩
    obtain ⟨u, r, l⟩ := hl i x v e1 e2 e3
    refine ⟨u, r, ?_⟩
    rcases l with l | ⟨k, c, e, z⟩
    · exact .inl l
    · exact .inr ⟨k, c, e, cellK x c e _ z⟩
  · obtain ⟨v, z⟩ := I.cell x c e
    exact ⟨v, cellK x c e v z⟩
  · obtain ⟨m, ⟨o, _, _, ho, _⟩, _⟩ := I.loc
    exact free _ o (fun z => (hch _ z).2.1 rfl) ho I.free
  · obtain ⟨v, o, ho, hd⟩ := I.cell x c e
    exact free c o (fun z => (hch c z).2.2.1 x c e rfl) ho (I.freeC x c e)
  · obtain ⟨e, n, ne, nf, d⟩ := I.pin p hp
    have nch : p.1 ∉ ch := fun z => (hch p.1 z).2.2.2 p hp rfl
    exact ⟨keep p.1 p.2 ne nf nch e n, free p.1 p.2 nch e n, ne, nf, d⟩
theorem Inw.un {t' : Nat} (I : Inw X pins σ H s) (u : Un X.fs [] H H' s.heap h') (hok : HOk X.prog X.w H' h') : Inw X pins σ H' { s with heap := h', toks := t' } := by
  obtain ⟨m, ⟨o, es, ep, ho, r⟩, _⟩ := id I.loc
  obtain ⟨sl, hL⟩ := u.any ho I.free (by simp)
  exact I.step (g' := s.gens) (d' := s.drawn) (ch := []) (fun _ z => nomatch z) (fun b o _ hb _ e n => u.keep b o e n hb (by simp)) (fun b o _ hb _ e n => u.slot b o e n hb (by simp)) (fun b o _ e n => u.free b o e n (by simp)) (fun b o _ e => u.there b o e (by simp)) u.tups u.frzs u.tbls (fun m' hm => by
    obtain ⟨o', es', ep', ho', r'⟩ := hm
    rw [ho] at ho'; cases ho'
    exact ⟨_, es', ep', hL, r'⟩) hok I.bare
theorem Inw.call {g' : Array GenState} {t' : Nat} {d' : Drawn} {ch : List Addr} (I : Inw X pins σ H s) (u : Un (frs X.stack) ch H H' s.heap h') (hok : HOk X.prog X.w H' h') (hg : AllBare g')
    (hch : ∀ b ∈ ch, (b ∈ X.ex ∨ X.s₀.heap.objs.size ≤ b) ∧ b ≠ X.env.locals ∧ (∀ x c, X.env.cells.lookup x = some c → c ≠ b) ∧ ∀ p ∈ X.pn ++ pins, p.1 ≠ b) :
    Inw X pins σ H' { s with heap := h', gens := g', drawn := d', toks := t' } := by
  obtain ⟨m, ⟨o, es, ep, ho, r⟩, _⟩ := id I.loc
  obtain ⟨sl, hL⟩ := u.any ho I.free fun z => (hch _ z).2.1 rfl
  exact I.step (ch := ch) hch (fun b o hL hb hc e n => u.keep b o e n (fun z => (List.mem_cons.mp (I.stkSub b z)).elim hL hb) hc) (fun b o _ _ hc e n => u.any e n hc) (fun b o hc e n => u.free b o e n hc) (fun b o hc e => u.there b o e hc) u.tups u.frzs u.tbls (fun m' hm => by
    obtain ⟨o', es', ep', ho', r'⟩ := hm
    rw [ho] at ho'; cases ho'
    exact ⟨_, es', ep', hL, r'⟩) hok hg
theorem Inw.turned {t' : Nat} {it : Addr} (I : Inw X pins σ H s) (k : ∀ b o, b ≠ it → s.heap.get? b = some o → h'.get? b = some o) (hn : H it = none) (hL : it ≠ X.env.locals)
    (h1 : it ∈ X.ex ∨ X.s₀.heap.objs.size ≤ it) (h2 : ∀ x c, X.env.cells.lookup x = some c → c ≠ it) (h3 : ∀ p ∈ X.pn ++ pins, p.1 ≠ it) : Inw X pins σ H { s with heap := h', toks := t' } := by
  have nit : ∀ b u, H b = some u → b ≠ it := fun b u e z => by rw [z, hn] at e; cases e
  refine I.step (g' := s.gens) (d' := s.drawn) (ch := [it]) (fun b hb => ?_) (fun b o _ _ hc e _ => k b o (fun z => hc (by simp [z])) e) (fun b o _ _ hc e _ => ⟨o.slots, k b o (fun z => hc (by simp [z])) e⟩) (fun _ _ _ _ n => n)
    (fun b o hc e => ⟨o, k b o (fun z => hc (by simp [z])) e⟩) (fun _ _ e => e) (fun _ _ _ e => e) (fun b ps e => ⟨#[], by rw [e]; simp⟩) (fun m hm => ?_) (fun b u e => ?_) I.bare
  · have e : b = it := by simpa using hb
    subst e
    exact ⟨h1, hL, h2, h3⟩
  · obtain ⟨o, es, ep, ho, r⟩ := hm
    exact ⟨o, es, ep, k _ o (Ne.symm hL) ho, r⟩
  · refine (I.hok b u e).stay (fun c v hc q => k c v ?_ q) (fun _ q => q) fun _ _ q => q
    rcases hc with z | z
    · rw [z]; exact nit b u e
    · exact nit c _ z
theorem Inw.tok (I : Inw X pins σ H s) (t : Nat) : Inw X pins σ H { s with toks := t } := I.un (h' := s.heap) (t' := t) Un.refl I.hok
theorem Inw.kept {t' : Nat} (I : Inw X pins σ H s) (k : ∀ b u, s.heap.get? b = some u → h'.get? b = some u) : Inw X pins σ H { s with heap := h', toks := t' } := I.un (Un.kept k) (I.hok.kept k)
theorem Inw.laid {a : Addr} {o : HO} {t' : Nat} (I : Inw X pins σ H s) (k : ∀ b u, s.heap.get? b = some u → h'.get? b = some u) (hp : s.heap.objs.size ≤ a) (new : ObjOk X.prog X.w (upd H a o) h' a o) :
    Inw X pins σ (upd H a o) { s with heap := h', toks := t' } := I.un (Un.laid k hp (I.hok.fresh hp)) (I.hok.laid k hp new)
theorem Inw.write {x e : Addr} {o : HO} {t' : Nat} (I : Inw X pins σ H s) (mu : Mut (H x)) (he : e = x ∨ H e = some (.own x)) (k : ∀ b u, b ≠ e → s.heap.get? b = some u → h'.get? b = some u) (heo : ∃ u, h'.get? e = some u)
    (new : ObjOk X.prog X.w (upd H x o) h' x o) : Inw X pins σ (upd H x o) { s with heap := h', toks := t' } := I.un (Un.write mu he k heo) (I.hok.write mu he k heo new)
theorem Inw.pins_of {pins' : List (Addr × Obj)} (I : Inw X pins σ H s) (h : ∀ p ∈ pins', s.heap.get? p.1 = some p.2 ∧ H p.1 = none ∧ p.1 ≠ X.env.locals ∧ p.1 ∉ X.fs ∧ ∀ v, p.2.data ≠ .cell v) : Inw X pins' σ H s :=
  ⟨I.ok, I.os, I.bare, I.base, I.loc, I.cell, I.free, I.freeC, fun p hp => (List.mem_append.mp hp).elim (fun z => I.pin p (List.mem_append_left _ z)) (h p), I.hok, I.len⟩

theorem nodup_ix {N : List Str} (hN : N.Nodup) {i j : Nat} {x : Str} (a : N[i]? = some x) (b : N[j]? = some x) : i = j := by
  obtain ⟨h1, e1⟩ := List.getElem?_eq_some_iff.mp a
  obtain ⟨h2, e2⟩ := List.getElem?_eq_some_iff.mp b
  exact (List.getElem_inj hN).mp (e1.trans e2.symm)

theorem store_ok2 {M : Model} {A : Around} {E : Value → Shared → Prop} {i : Nat} {x : Str} {v : V} {u : Value} {Q : Unit → Shared → Prop} (I : Inw X pins σ H s) (hN : X.N.Nodup) (hi : X.N[i]? = some x) (hx : Loc X.env.scope x) (r : RelV v u)
    (h : ∀ s', Inw X pins (σ.set i (some v)) H s' → (∃ a, Heap.SameBut a s.heap s'.heap ∧ (a = X.env.locals ∨ X.env.cells.lookup x = some a)) → Q () s') (hf : X.fn x = true ∨ X.env.scope.names.lookup x = some .local := by first | exact .inl rfl | exact .inr rfl | assumption) : wpAny M A (storeName X.env x u) Q E s := by
  obtain ⟨m, hn, hl⟩ := id I.loc
  have hcls : (X.env.scope.kind == .class || (X.env.scope.kind == .module && X.env.locals != X.env.globals)) = false := by rw [I.ok.kind]; rfl
  have hiσ : i < σ.length := by rw [I.len]; exact (List.getElem?_eq_some_iff.mp hi).1
  have cne := I.cne
  have tracked : ∀ {a : Addr} {h' : Heap}, (∃ o, s.heap.get? a = some o ∧ H a = none) → Heap.SameBut a s.heap h' → HOk X.prog X.w H h' := fun {a h'} ha hs b ob e => by
    obtain ⟨_, _, hfree⟩ := ha
    refine (I.hok b ob e).stay (fun c w' hc q => (hs.2 c ?_).trans q) (fun _ q => q) fun _ _ q => q
    rintro rfl
    rcases hc with rfl | hc
    · rw [hfree] at e; cases e
    · rw [hfree] at hc; cases hc
  rcases hx with hk | hk
  · refine wpAny_storeName_local hk hn (fun h' hn' hs => ?_) hcls
    obtain ⟨oL, _, _, hoL, _⟩ := id hn
    refine h _ ⟨I.ok, I.os, I.bare, ⟨fun b o e n hb hx => ?_, fun b o e n hb hx => ?_, I.base.free, fun b o e hx => ?_, I.base.tups, I.base.frzs, I.base.tbls⟩, ⟨_, hn', fun j y v' e1 e2 e3 => ?_⟩, fun y c e => ?_, I.free, I.freeC, fun p hp => ?_, tracked ⟨oL, hoL, I.free⟩ hs, by simpa using I.len⟩ ⟨_, hs, .inl rfl⟩
    · exact (hs.2 b (Nat.ne_of_lt (Nat.lt_of_lt_of_le (Heap.lt_size e) I.ok.above))).trans (I.base.keep b o e n hb hx)
    · obtain ⟨sl, e1⟩ := I.base.slot b o e n hb hx
      exact ⟨sl, (hs.2 b (Nat.ne_of_lt (Nat.lt_of_lt_of_le (Heap.lt_size e) I.ok.above))).trans e1⟩
    · obtain ⟨o', e1⟩ := I.base.there b o e hx
      exact ⟨o', (hs.2 b (Nat.ne_of_lt (Nat.lt_of_lt_of_le (Heap.lt_size e) I.ok.above))).trans e1⟩
    · by_cases hj : j = i
      · subst hj
        rw [hi] at e1; cases e1
        rw [List.getElem?_set_self hiσ] at e2
        cases e2
        exact ⟨u, r, .inl ⟨hk, by simp⟩⟩
      · rw [List.getElem?_set_ne (Ne.symm hj)] at e2
        obtain ⟨u', r', q⟩ := hl j y v' e1 e2 e3
        refine ⟨u', r', ?_⟩
        rcases q with ⟨k, e⟩ | ⟨k, c, e, z⟩
        · refine .inl ⟨k, ?_⟩
          have : y ≠ x := fun e => hj (nodup_ix hN e1 (e ▸ hi))
          simp [this, e]
        · exact .inr ⟨k, c, e, z.sameBut hs (cne y c e)⟩
    · obtain ⟨w', z⟩ := I.cell y c e
      exact ⟨w', z.sameBut hs (cne y c e)⟩
    · obtain ⟨e, n, ne, nf, d⟩ := I.pin p hp
      exact ⟨(hs.2 p.1 ne).trans e, n, ne, nf, d⟩
  · have hfn : X.fn x = true := by
      rcases hf with z | z
      · exact z
      · rw [z] at hk; cases hk
    obtain ⟨c, hc⟩ := I.ok.has x (.inl hk)
    obtain ⟨w', z⟩ := I.cell x c hc
    refine wpAny_storeName_cell I.ok.kind hk hc z (fun h' hc' hs => ?_)
    obtain ⟨oc, hoc, hocd⟩ := id z
    refine h { s with heap := h' } ⟨I.ok, I.os, I.bare, ⟨fun b o e n hb hx => ?_, fun b o e n hb hx => ?_, I.base.free, fun b o e hx => ?_, I.base.tups, I.base.frzs, I.base.tbls⟩, ⟨m, hn.sameBut hs (Ne.symm (cne x c hc)), fun j y v' e1 e2 e3 => ?_⟩, fun y c' e => ?_, I.free, I.freeC, fun p hp => ?_, tracked ⟨oc, hoc, I.freeC x c hc⟩ hs, by simpa using I.len⟩ ⟨c, hs, .inr hc⟩
    · exact (hs.2 b (Nat.ne_of_lt (Nat.lt_of_lt_of_le (Heap.lt_size e) (I.ok.cab x c hfn hc)))).trans (I.base.keep b o e n hb hx)
    · obtain ⟨sl, e1⟩ := I.base.slot b o e n hb hx
      exact ⟨sl, (hs.2 b (Nat.ne_of_lt (Nat.lt_of_lt_of_le (Heap.lt_size e) (I.ok.cab x c hfn hc)))).trans e1⟩
    · obtain ⟨o', e1⟩ := I.base.there b o e hx
      exact ⟨o', (hs.2 b (Nat.ne_of_lt (Nat.lt_of_lt_of_le (Heap.lt_size e) (I.ok.cab x c hfn hc)))).trans e1⟩
    · by_cases hj : j = i
      · subst hj
        rw [hi] at e1; cases e1
        rw [List.getElem?_set_self hiσ] at e2
        cases e2
        exact ⟨u, r, .inr ⟨.inl hk, c, hc, hc'⟩⟩
      · rw [List.getElem?_set_ne (Ne.symm hj)] at e2
        obtain ⟨u', r', q⟩ := hl j y v' e1 e2 e3
        refine ⟨u', r', ?_⟩
        rcases q with q | ⟨k, c', e, z'⟩
        · exact .inl q
        · refine .inr ⟨k, c', e, z'.sameBut hs ?_⟩
          rintro rfl
          exact hj (nodup_ix hN e1 (I.ok.inj _ _ _ e hc ▸ hi))
    · by_cases hcc : c' = c
      · subst hcc; exact ⟨_, hc'⟩
      · obtain ⟨w2, z2⟩ := I.cell y c' e
        exact ⟨w2, z2.sameBut hs hcc⟩
    · obtain ⟨e, n, ne, nf, d⟩ := I.pin p hp
      refine ⟨(hs.2 p.1 ?_).trans e, n, ne, nf, d⟩
      intro q
      rw [q, hoc] at e
      have q' : oc = p.2 := Option.some.inj e
      exact d w' (by rw [← q']; exact hocd)
theorem store_ok {M : Model} {A : Around} {E : Value → Shared → Prop} {i : Nat} {x : Str} {v : V} {u : Value} {Q : Unit → Shared → Prop} (I : Inw X pins σ H s) (hN : X.N.Nodup) (hi : X.N[i]? = some x) (hx : Loc X.env.scope x) (r : RelV v u)
    (h : ∀ s', Inw X pins (σ.set i (some v)) H s' → Q () s') (hf : X.fn x = true ∨ X.env.scope.names.lookup x = some .local := by first | exact .inl rfl | exact .inr rfl | assumption) : wpAny M A (storeName X.env x u) Q E s :=
  store_ok2 I hN hi hx r (fun s' I' _ => h s' I') hf
theorem Inw.call' {s' : Shared} {ch : List Addr} (I : Inw X pins σ H s) (ho : s'.os = s.os) (u : Un (frs X.stack) ch H H' s.heap s'.heap) (hok : HOk X.prog X.w H' s'.heap) (hg : AllBare s'.gens)
    (hch : ∀ b ∈ ch, (b ∈ X.ex ∨ X.s₀.heap.objs.size ≤ b) ∧ b ≠ X.env.locals ∧ (∀ x c, X.env.cells.lookup x = some c → c ≠ b) ∧ ∀ p ∈ X.pn ++ pins, p.1 ≠ b) : Inw X pins σ H' s' := by
  obtain ⟨h', g', d', t', o'⟩ := s'
  have e : o' = s.os := ho
  subst e
  exact I.call (g' := g') (t' := t') (d' := d') u hok hg hch
end

abbrev XK := Value → Option Addr → Hp → Prop
abbrev St := List (Option V)
abbrev VK := V → Hp → Prop
abbrev TE := St → Hp → VK → Prop
abbrev TT := St → Hp → (Bool → Hp → Prop) → Prop
abbrev TA := St → Hp → (List V → Hp → Prop) → Prop
structure Ends where
  nx : St → Hp → Prop
  rt : VK
  bk : St → Hp → Prop := fun _ _ => False
  ct : St → Hp → Prop := fun _ _ => False
abbrev TS := Ends → St → Hp → Prop

def EP (X : Cx) (pins : List (Addr × Obj)) (σ : St) (Q : VK) (u : Value) (s' : Shared) : Prop := ∃ v H', Inw X pins σ H' s' ∧ RelV v u ∧ Q v H'
def TP (X : Cx) (pins : List (Addr × Obj)) (σ : St) (Q : Bool → Hp → Prop) (b : Bool) (s' : Shared) : Prop := ∃ H', Inw X pins σ H' s' ∧ Q b H'
def AP (X : Cx) (pins : List (Addr × Obj)) (σ : St) (Q : List V → Hp → Prop) (us : List Value) (s' : Shared) : Prop := ∃ vs H', Inw X pins σ H' s' ∧ Vals vs us ∧ Q vs H'
def SP (X : Cx) (pins : List (Addr × Obj)) (D : Ends) (f : Flow) (s' : Shared) : Prop :=
  match f with
  | .next => ∃ σ' H', Inw X pins σ' H' s' ∧ D.nx σ' H'
  | .brk => ∃ σ' H', Inw X pins σ' H' s' ∧ D.bk σ' H'
  | .cont => ∃ σ' H', Inw X pins σ' H' s' ∧ D.ct σ' H'
  | .ret u => ∃ v σ' H', Inw X pins σ' H' s' ∧ RelV v u ∧ D.rt v H'

structure Inv (X : Cx) (pins : List (Addr × Obj)) (σ : List (Option V)) (H : Hp) (s : Shared) : Prop extends Inw X pins σ H s where
  pos : 0 < s.toks
instance {X : Cx} {pins : List (Addr × Obj)} {σ : List (Option V)} {H : Hp} {s : Shared} : CoeOut (Inv X pins σ H s) (Inw X pins σ H s) := ⟨Inv.toInw⟩
def EPs (X : Cx) (pins : List (Addr × Obj)) (σ : St) (Q : VK) (u : Value) (s' : Shared) : Prop := ∃ v H', Inv X pins σ H' s' ∧ RelV v u ∧ Q v H'
def TPs (X : Cx) (pins : List (Addr × Obj)) (σ : St) (Q : Bool → Hp → Prop) (b : Bool) (s' : Shared) : Prop := ∃ H', Inv X pins σ H' s' ∧ Q b H'
def APs (X : Cx) (pins : List (Addr × Obj)) (σ : St) (Q : List V → Hp → Prop) (us : List Value) (s' : Shared) : Prop := ∃ vs H', Inv X pins σ H' s' ∧ Vals vs us ∧ Q vs H'
def SPs (X : Cx) (pins : List (Addr × Obj)) (D : Ends) (f : Flow) (s' : Shared) : Prop :=
  match f with
  | .next => ∃ σ' H', Inv X pins σ' H' s' ∧ D.nx σ' H'
  | .brk => ∃ σ' H', Inv X pins σ' H' s' ∧ D.bk σ' H'
  | .cont => ∃ σ' H', Inv X pins σ' H' s' ∧ D.ct σ' H'
  | .ret u => ∃ v σ' H', Inv X pins σ' H' s' ∧ RelV v u ∧ D.rt v H'
theorem EPs.w {X : Cx} {pins : List (Addr × Obj)} {σ : St} {Q : VK} {u : Value} {s : Shared} (h : EPs X pins σ Q u s) : EP X pins σ Q u s := let ⟨v, H, I, r, q⟩ := h; ⟨v, H, I.toInw, r, q⟩
theorem TPs.w {X : Cx} {pins : List (Addr × Obj)} {σ : St} {Q : Bool → Hp → Prop} {u : Bool} {s : Shared} (h : TPs X pins σ Q u s) : TP X pins σ Q u s := let ⟨H, I, q⟩ := h; ⟨H, I.toInw, q⟩
theorem APs.w {X : Cx} {pins : List (Addr × Obj)} {σ : St} {Q : List V → Hp → Prop} {u : List Value} {s : Shared} (h : APs X pins σ Q u s) : AP X pins σ Q u s := let ⟨v, H, I, r, q⟩ := h; ⟨v, H, I.toInw, r, q⟩
theorem SPs.w {X : Cx} {pins : List (Addr × Obj)} {D : Ends} {f : Flow} {s : Shared} (h : SPs X pins D f s) : SP X pins D f s := by
  cases f with
  | next => obtain ⟨σ, H, I, q⟩ := h; exact ⟨σ, H, I.toInw, q⟩
  | brk => obtain ⟨σ, H, I, q⟩ := h; exact ⟨σ, H, I.toInw, q⟩
  | cont => obtain ⟨σ, H, I, q⟩ := h; exact ⟨σ, H, I.toInw, q⟩
  | ret u => obtain ⟨v, σ, H, I, r, q⟩ := h; exact ⟨v, σ, H, I.toInw, r, q⟩

def PE (X : Cx) (e : Expr) (t : TE) : Prop :=
  ∀ (pins : List (Addr × Obj)) (s : Shared) (σ : St) (H : Hp) (Q : VK), Inv X pins σ H s → t σ H Q → wpAny (model X.prog X.w) X.A (eval e X.env) (EP X pins σ Q) X.xe s
def PT (X : Cx) (e : Expr) (t : TT) : Prop :=
  ∀ (pins : List (Addr × Obj)) (s : Shared) (σ : St) (H : Hp) (Q : Bool → Hp → Prop), Inv X pins σ H s → t σ H Q → wpAny (model X.prog X.w) X.A (isTrue e X.env (eval e X.env)) (TP X pins σ Q) X.xe s
def PW (X : Cx) (e : Expr) (t : TT) : Prop :=
  ∀ (whole : Sem Value) (pins : List (Addr × Obj)) (s : Shared) (σ : St) (H : Hp) (Q : Bool → Hp → Prop), Inv X pins σ H s → t σ H Q → wpAny (model X.prog X.w) X.A (isTrue e X.env whole) (TP X pins σ Q) X.xe s
theorem PW.pt {X : Cx} {e : Expr} {t : TT} (h : PW X e t) : PT X e t := h _
def PA (X : Cx) (es : List Expr) (t : TA) : Prop :=
  ∀ (pos : Pos) (pins : List (Addr × Obj)) (s : Shared) (σ : St) (H : Hp) (Q : List V → Hp → Prop), Inv X pins σ H s → t σ H Q → wpAny (model X.prog X.w) X.A (spliced (backTo pos (starEach es X.env))) (AP X pins σ Q) X.xe s
def PS (X : Cx) (st : Stmt) (t : TS) : Prop :=
  ∀ (pins : List (Addr × Obj)) (s : Shared) (σ : St) (H : Hp) (D : Ends), Inv X pins σ H s → t D σ H → wpAny (model X.prog X.w) X.A (exec st X.env) (SP X pins D) X.xe s
def PSs (X : Cx) (st : List Stmt) (t : TS) : Prop :=
  ∀ (pins : List (Addr × Obj)) (s : Shared) (σ : St) (H : Hp) (D : Ends), Inv X pins σ H s → t D σ H → wpAny (model X.prog X.w) X.A (execs st X.env) (SP X pins D) X.xe s
structure WP {β : Type} (M : Model) (A : Around) (t : Sem β) (Q : β → Shared → Prop) (E : Value → Shared → Prop) (s : Shared) : Prop where
  pos : 0 < s.toks
  run : wpAny M A t Q E s
instance {β : Type} {M : Model} {A : Around} {t : Sem β} {Q : β → Shared → Prop} {E : Value → Shared → Prop} {s : Shared} : CoeOut (WP M A t Q E s) (wpAny M A t Q E s) := ⟨WP.run⟩
class Up {α : Type} (Q : α → Shared → Prop) (Qp : outParam (α → Shared → Prop)) : Prop where
  up : ∀ a s, 0 < s.toks → Q a s → Qp a s
instance (priority := low) {α : Type} {Q : α → Shared → Prop} : Up Q Q := ⟨fun _ _ _ h => h⟩
instance {α β : Type} {M : Model} {A : Around} {t : α → Sem β} {Q : α → β → Shared → Prop} {E : Value → Shared → Prop} : Up (fun v s => wpAny M A (t v) (Q v) E s) (fun v s => WP M A (t v) (Q v) E s) := ⟨fun _ _ z h => ⟨z, h⟩⟩
instance {X : Cx} {pins : List (Addr × Obj)} {σ : St} {Q : VK} : Up (EP X pins σ Q) (EPs X pins σ Q) := ⟨fun _ _ z ⟨v, H, I, r, q⟩ => ⟨v, H, ⟨I, z⟩, r, q⟩⟩
instance {X : Cx} {pins : List (Addr × Obj)} {σ : St} {Q : Bool → Hp → Prop} : Up (TP X pins σ Q) (TPs X pins σ Q) := ⟨fun _ _ z ⟨H, I, q⟩ => ⟨H, ⟨I, z⟩, q⟩⟩
instance {X : Cx} {pins : List (Addr × Obj)} {σ : St} {Q : List V → Hp → Prop} : Up (AP X pins σ Q) (APs X pins σ Q) := ⟨fun _ _ z ⟨v, H, I, r, q⟩ => ⟨v, H, ⟨I, z⟩, r, q⟩⟩
instance {X : Cx} {pins : List (Addr × Obj)} {D : Ends} : Up (SP X pins D) (SPs X pins D) := ⟨fun f _ z h => by
  cases f with
  | next => obtain ⟨σ, H, I, q⟩ := h; exact ⟨σ, H, ⟨I, z⟩, q⟩
  | brk => obtain ⟨σ, H, I, q⟩ := h; exact ⟨σ, H, ⟨I, z⟩, q⟩
  | cont => obtain ⟨σ, H, I, q⟩ := h; exact ⟨σ, H, ⟨I, z⟩, q⟩
  | ret u => obtain ⟨v, σ, H, I, r, q⟩ := h; exact ⟨v, σ, H, ⟨I, z⟩, r, q⟩⟩
instance {α : Type} {X : Cx} {pins : List (Addr × Obj)} {Q : St → Hp → Prop} : Up (fun (_ : α) s' => ∃ σ' H', Inw X pins σ' H' s' ∧ Q σ' H') (fun _ s' => ∃ σ' H', Inv X pins σ' H' s' ∧ Q σ' H') := ⟨fun _ _ z ⟨σ, H, I, q⟩ => ⟨σ, H, ⟨I, z⟩, q⟩⟩
instance {α : Type} {X : Cx} {pins : List (Addr × Obj)} {σ : St} {Q : Hp → Prop} : Up (fun (_ : α) s' => ∃ H', Inw X pins σ H' s' ∧ Q H') (fun _ s' => ∃ H', Inv X pins σ H' s' ∧ Q H') := ⟨fun _ _ z ⟨H, I, q⟩ => ⟨H, ⟨I, z⟩, q⟩⟩
theorem thn {α : Type} {t : Sem α} {Q Qp Q' : α → Shared → Prop} [u : Up Q Qp] {M : Model} {A : Around} {E : Value → Shared → Prop} {s : Shared} (h : wpAny M A t Q E s) (hQ : ∀ a s, Qp a s → Q' a s) (z : 0 < s.toks := by first | assumption | exact Inv.pos (by assumption) | exact WP.pos (by assumption)) : wpAny M A t Q' E s :=
  wpAny_tok z (wpAny_mono h (fun a s' q z' => hQ a s' (u.up a s' z' q)) fun _ _ x _ => x)
theorem thn0 {α : Type} {t : Sem α} {Q Q' : α → Shared → Prop} {M : Model} {A : Around} {E : Value → Shared → Prop} {s : Shared} (h : wpAny M A t Q E s) (hQ : ∀ a s, Q a s → Q' a s) : wpAny M A t Q' E s := wpAny_mono h hQ fun _ _ x => x
theorem thnZ {α : Type} {t : Sem α} {Q Q' : α → Shared → Prop} {M : Model} {A : Around} {E : Value → Shared → Prop} {s : Shared} (z : 0 < s.toks) (h : wpAny M A t Q E s) (hQ : ∀ a s, 0 < s.toks → Q a s → Q' a s) : wpAny M A t Q' E s :=
  wpAny_tok z (wpAny_mono h (fun a s' q z' => hQ a s' z' q) fun _ _ x _ => x)

end L2

namespace L2
open PySem PySem.Spec PyProof.Rows
section
variable {X : Cx}

theorem bin {a b : Expr} {ta tb : TE} (ha : PE X a ta) (hb : PE X b tb) {pins : List (Addr × Obj)} {s : Shared} {σ : St} {H : Hp} {R : V → V → Hp → Prop} (I : Inv X pins σ H s) (h : ta σ H fun x H1 => tb σ H1 fun y H2 => R x y H2)
    {α : Type} {Q : α → Shared → Prop} {f : Value → Value → Sem α}
    (hf : ∀ v u s2 x y H2, Inv X pins σ H2 s2 → RelV x v → RelV y u → R x y H2 → wpAny (model X.prog X.w) X.A (f v u) Q X.xe s2) :
    wpAny (model X.prog X.w) X.A (eval a X.env) (fun v s₁ => wpAny (model X.prog X.w) X.A (eval b X.env) (fun u s₂ => wpAny (model X.prog X.w) X.A (f v u) Q X.xe s₂) X.xe s₁) X.xe s := by
  refine thn (ha pins s σ H _ I h) fun v s1 ⟨x, H1, I1, r1, q1⟩ => ?_
  refine thn (hb pins s1 σ H1 _ I1 q1) fun u s2 ⟨y, H2, I2, r2, q2⟩ => ?_
  exact hf v u s2 x y H2 I2 r1 r2 q2

def tVar (i : Nat) : TE := fun σ H Q => ∃ v, σ[i]? = some (some v) ∧ Q v H
def tC (v : V) : TE := fun _ H Q => Q v H
theorem pe_var {i : Nat} {x : Str} {pos : Pos} (hN : X.N[i]? = some x) (hv : Vis X.env.scope x) (hd : (x == ("__debug__" : Str)) = false := by decide) (hcd : (x == ("__classdict__" : Str)) = false := by decide) : PE X (.Name x pos) (tVar i) := by
  intro pins s σ H Q I h
  obtain ⟨v, e, h⟩ := h
  obtain ⟨m, hn, hl⟩ := I.loc
  obtain ⟨u, r, l⟩ := hl i x v hN e hv
  have fin : EP X pins σ Q u s := ⟨v, H, I, r, h⟩
  rcases l with ⟨hk, hm⟩ | ⟨hk, c, hc, hcell⟩
  · exact wpAny_Name (wpAny_loadName_local I.ok.kind hk hn hm fin) hd
  · rcases hk with hk | hk
    · exact wpAny_Name (wpAny_loadName_cell I.ok.kind hk hc hcell fin) hd
    · exact wpAny_Name (wpAny_loadName_free I.ok.kind hk hc hcell fin hcd) hd
theorem pe_int {i j pos} : PE X (.Constant (.int i) j pos) (tC (.int i)) := fun _ _ _ H _ I h => wpAny_Constant_int ⟨.int i, H, I.tok _, ⟨_, rfl⟩, h⟩
theorem pe_bl {b j pos} : PE X (.Constant (.bool b) j pos) (tC (.bl b)) := fun _ _ _ H _ I h => Constant_bool ⟨.bl b, H, I, rfl, h⟩
theorem pe_str {x j pos} : PE X (.Constant (.str x) j pos) (tC (.str x)) := fun _ _ _ H _ I h => Calls.Constant_str ⟨.str x, H, I.tok _, ⟨_, rfl⟩, h⟩

def Gl (X : Cx) (x : Str) : Prop := X.env.kindOf x = some .globalImplicit
theorem ld_glob {E : Value → Shared → Prop} {pins : List (Addr × Obj)} {s : Shared} {σ : St} {H : Hp} {x : Str} {u : Value} {pos : Pos} {Q : Value → Shared → Prop} (I : Inv X pins σ H s) (hg : Gl X x) (hm : X.mg x = some u) (h : Q u s)
    (hd : (x == ("__debug__" : Str)) = false := by decide) : wpAny (model X.prog X.w) X.A (eval (.Name x pos) X.env) Q E s :=
  Calls.Name_function_global I.ok.kind hg (Calls.loadGlobal_global (by rw [I.ok.glob]; exact I.mod.glob.keeps I.bk) hm h) hd
theorem ld_blt {E : Value → Shared → Prop} {pins : List (Addr × Obj)} {s : Shared} {σ : St} {H : Hp} {x : Str} {u : Value} {pos : Pos} {Q : Value → Shared → Prop} (I : Inv X pins σ H s) (hg : Gl X x) (hm : X.mg x = none) (hv : bootBuiltins x = some u) (h : Q u s)
    (hn : x ≠ "__name__" := by decide) (hd : (x == ("__debug__" : Str)) = false := by decide) : wpAny (model X.prog X.w) X.A (eval (.Name x pos) X.env) Q E s := by
  obtain ⟨mb, h1, h2⟩ := I.mod.blt
  exact Calls.Name_function_global I.ok.kind hg (Calls.loadGlobal_builtin (by rw [I.ok.glob]; exact I.mod.glob.keeps I.bk) hm (by rw [I.ok.blt]; exact h1.keeps I.bk) ((h2 x hn).trans hv) h) hd
theorem pe_bltn {x : Str} {v : V} {u : Value} {pos : Pos} (hg : Gl X x) (hm : X.mg x = none) (hv : bootBuiltins x = some u) (r : RelV v u) (hn : x ≠ "__name__" := by decide) (hd : (x == ("__debug__" : Str)) = false := by decide) : PE X (.Name x pos) (tC v) :=
  fun _ _ _ H _ I h => ld_blt I hg hm hv ⟨v, H, I, r, h⟩ hn hd

variable {a b : Expr} {ta tb : TE} {pos : Pos}

def PC (X : Cx) (op : CmpOp) (a b : Expr) (t : TE) : Prop :=
  ∀ (pins : List (Addr × Obj)) (s : Shared) (σ : St) (H : Hp) (Q : VK), Inv X pins σ H s → t σ H Q →
    wpAny (model X.prog X.w) X.A (eval a X.env) (fun v s₁ => wpAny (model X.prog X.w) X.A (eval b X.env) (fun u s₂ => wpAny (model X.prog X.w) X.A (compareOp op v u) (EP X pins σ Q) X.xe s₂) X.xe s₁) X.xe s
def tB (t : TE) : TT := fun σ H Q => t σ H fun x H1 => ∃ c, x = .bl c ∧ Q c H1
theorem pt_val {e : Expr} {t : TE} (h : PE X e t) (he : ∀ whole, isTrue e X.env whole = (do let v ← whole; standAt e.pos; holding [v] (truthy v)) := by intro _; rfl) : PT X e (tB t) := by
  intro pins s σ H Q I hw
  refine isTrue_plain (thn (h pins s σ H _ I hw) fun v s1 ⟨x, H1, I1, r1, q1⟩ => ?_) (he _)
  obtain ⟨d, rfl, q⟩ := q1
  cases r1
  exact wpAny_truthy_bool ⟨H1, I1, q⟩

variable {tA tB' : TT} {rest : List Expr}
def tAnd (t u : TT) : TT := fun σ H Q => t σ H fun c H1 => if c = true then u σ H1 Q else Q false H1
def tOr (t u : TT) : TT := fun σ H Q => t σ H fun c H1 => if c = true then Q true H1 else u σ H1 Q
def tNot (t : TT) : TT := fun σ H Q => t σ H fun c H1 => Q (!c) H1
theorem pw_and1 (ha : PT X a tA) : PW X (.BoolOp .And [a] pos) tA := by
  intro wh pins s σ H Q I h
  refine isTrue_and (thn0 (ha pins s σ H Q I h) fun c s1 e => ?_)
  cases c with
  | true => exact isTrue_and_nil e
  | false => exact e
theorem pw_or1 (ha : PT X a tA) : PW X (.BoolOp .Or [a] pos) tA := by
  intro wh pins s σ H Q I h
  refine isTrue_or (thn0 (ha pins s σ H Q I h) fun c s1 e => ?_)
  cases c with
  | false => exact isTrue_or_nil e
  | true => exact e
theorem pw_and (ha : PT X a tA) (hb : PW X (.BoolOp .And (b :: rest) pos) tB') : PW X (.BoolOp .And (a :: b :: rest) pos) (tAnd tA tB') := by
  intro wh pins s σ H Q I h
  refine isTrue_and (thn (ha pins s σ H _ I h) fun c s1 ⟨H1, I1, q1⟩ => ?_)
  cases c with
  | true => exact hb wh pins s1 σ H1 Q I1 q1
  | false => exact ⟨H1, I1, q1⟩
theorem pw_or (ha : PT X a tA) (hb : PW X (.BoolOp .Or (b :: rest) pos) tB') : PW X (.BoolOp .Or (a :: b :: rest) pos) (tOr tA tB') := by
  intro wh pins s σ H Q I h
  refine isTrue_or (thn (ha pins s σ H _ I h) fun c s1 ⟨H1, I1, q1⟩ => ?_)
  cases c with
  | true => exact ⟨H1, I1, q1⟩
  | false => exact hb wh pins s1 σ H1 Q I1 q1
theorem pt_not (ha : PT X a tA) : PT X (.UnaryOp .Not a pos) (tNot tA) := by
  intro pins s σ H Q I h
  exact isTrue_not (ha pins s σ H (fun c H1 => Q (!c) H1) I h)
def tAndV (ta tb : TE) : TE := fun σ H Q => ta σ H fun x H1 => ∃ c, x = .bl c ∧ if c = true then tb σ H1 Q else Q (.bl false) H1
def tOrV (ta tb : TE) : TE := fun σ H Q => ta σ H fun x H1 => ∃ c, x = .bl c ∧ if c = true then Q (.bl true) H1 else tb σ H1 Q
def tNotV (ta : TE) : TE := fun σ H Q => ta σ H fun x H1 => ∃ c, x = .bl c ∧ Q (.bl (!c)) H1
theorem pe_one {op} {t : TE} (h : PE X a t) : PE X (.BoolOp op [a] pos) t := fun pins s σ H Q I hw => BoolOp_one (h pins s σ H Q I hw)
theorem pe_and (ha : PE X a ta) (hb : PE X (.BoolOp .And (b :: rest) pos) tb) : PE X (.BoolOp .And (a :: b :: rest) pos) (tAndV ta tb) := by
  intro pins s σ H Q I h
  refine BoolOp_and (thn (ha pins s σ H _ I h) fun v s1 ⟨x, H1, I1, r1, q1⟩ => ?_)
  obtain ⟨c, rfl, q1⟩ := q1
  cases r1
  refine wpAny_truthy_bool ?_
  cases c with
  | true => exact hb pins s1 σ H1 Q I1 q1
  | false => exact ⟨.bl false, H1, I1, rfl, q1⟩
theorem pe_or (ha : PE X a ta) (hb : PE X (.BoolOp .Or (b :: rest) pos) tb) : PE X (.BoolOp .Or (a :: b :: rest) pos) (tOrV ta tb) := by
  intro pins s σ H Q I h
  refine BoolOp_or (thn (ha pins s σ H _ I h) fun v s1 ⟨x, H1, I1, r1, q1⟩ => ?_)
  obtain ⟨c, rfl, q1⟩ := q1
  cases r1
  refine wpAny_truthy_bool ?_
  cases c with
  | false => exact hb pins s1 σ H1 Q I1 q1
  | true => exact ⟨.bl true, H1, I1, rfl, q1⟩
theorem pe_not (ha : PE X a ta) : PE X (.UnaryOp .Not a pos) (tNotV ta) := by
  intro pins s σ H Q I h
  refine UnaryOp_ (thn (ha pins s σ H _ I h) fun v s1 ⟨x, H1, I1, r1, q1⟩ => ?_)
  obtain ⟨c, rfl, q1⟩ := q1
  cases r1
  exact not_of (wpAny_truthy_bool ⟨.bl (!c), H1, I1, rfl, q1⟩)
def tIf (t : TT) (ta tb : TE) : TE := fun σ H Q => t σ H fun c H1 => if c = true then ta σ H1 Q else tb σ H1 Q
end
end L2

namespace L2
open PySem PySem.Spec PyProof.Rows

def SqL (K : PySem.W.Frag) (H : Hp) (a : Addr) (xs : List V) : Prop :=
  Rd H a (.lst xs) ∨
    ∃ (o : Obj) (its : Array Value) (n : Nat), K.lookup a = some o ∧ o.cls = .type "list" ∧ o.dict = none ∧ o.data = .seq its n ∧ its.size ≤ sizeLine ∧ Vals xs its.toList
def SqT (K : PySem.W.Frag) (H : Hp) (a : Addr) (xs : List V) : Prop :=
  Rd H a (.tup xs) ∨
    ∃ (o : Obj) (its : Array Value) (n : Nat), K.lookup a = some o ∧ o.cls = .type "tuple" ∧ o.data = .seq its n ∧ its.size ≤ sizeLine ∧ Vals xs its.toList
def absV : Value → Option V
  | .none => some .non
  | .bool b => some (.bl b)
  | .int i _ => some (.int i)
  | .str x _ => some (.str x)
  | .bytes b _ => some (.byt b)
  | .float b _ => some (.flt b)
  | .ref a => some (.ref a)
  | .type n => some (.ty n)
  | _ => none
theorem RelV.abs {x : V} {u : Value} (r : RelV x u) : absV u = some x := by
  cases x with
  | non => cases r; rfl
  | bl _ => cases r; rfl
  | int _ => obtain ⟨t, rfl⟩ := r; rfl
  | str _ => obtain ⟨t, rfl⟩ := r; rfl
  | byt _ => obtain ⟨t, rfl⟩ := r; rfl
  | flt _ => obtain ⟨t, rfl⟩ := r; rfl
  | ref _ => cases r; rfl
  | ty _ => cases r; rfl
theorem RelV.inj {x y : V} {u : Value} (r : RelV x u) (q : RelV y u) : x = y := Option.some.inj (r.abs.symm.trans q.abs)
theorem Vals.inj : ∀ {xs ys : List V} {us : List Value}, Vals xs us → Vals ys us → xs = ys
  | _, _, _, .nil, .nil => rfl
  | _, _, _, .cons r t, .cons r' t' => by rw [r.inj r', Vals.inj t t']
section
variable {X : Cx} {pins : List (Addr × Obj)} {σ : St} {H : Hp} {s : Shared} {a : Addr} {xs ys : List V}
theorem SqL.of {K : PySem.W.Frag} (h : H a = some (.lst xs)) : SqL K H a xs := .inl (.inl h)
theorem SqT.of {K : PySem.W.Frag} (h : H a = some (.tup xs)) : SqT K H a xs := .inl (.inl h)
theorem Inw.list (I : Inw X pins σ H s) (h : SqL X.K H a xs) : ∃ its : List Value, Vals xs its ∧ PlainL s.heap a its.toArray ∧ xs.length ≤ sizeLine := by
  rcases h with h | ⟨o, its, n, hk, hc, hd, hs, hz, r⟩
  · obtain ⟨z, its, n, r, e⟩ := h.ok I.hok
    exact ⟨its, r, ⟨_, n, e, rfl, rfl, rfl⟩, z⟩
  · refine ⟨its.toList, r, ⟨o, n, I.kIn a o hk, hc, hd, by simpa using hs⟩, ?_⟩
    have e := r.length
    simp only [Array.length_toList] at e
    omega
theorem Inw.tuple (I : Inw X pins σ H s) (h : SqT X.K H a xs) : ∃ its : List Value, Vals xs its ∧ IsTup s.heap a its.toArray ∧ xs.length ≤ sizeLine := by
  rcases h with h | ⟨o, its, n, hk, hc, hs, hz, r⟩
  · obtain ⟨z, its, r, p⟩ := h.ok I.hok
    exact ⟨its, r, p, z⟩
  · refine ⟨its.toList, r, ⟨o, I.kIn a o hk, hc, n, by simpa using hs⟩, ?_⟩
    have e := r.length
    simp only [Array.length_toList] at e
    omega
theorem Inw.list_inj (I : Inw X pins σ H s) (h : SqL X.K H a xs) (h' : SqL X.K H a ys) : xs = ys := by
  obtain ⟨its, r, ⟨o, n, e, _, _, d⟩, _⟩ := I.list h
  obtain ⟨its', r', ⟨o', n', e', _, _, d'⟩, _⟩ := I.list h'
  rw [e] at e'; cases e'
  rw [d] at d'
  injection d' with d1 _
  have : its = its' := by simpa using congrArg Array.toList d1
  subst this
  exact r.inj r'
end

abbrev Cx.wish (X : Cx) (E : Value → Shared → Prop) : Cx := { X with xe := E }
abbrev Cx.nox (X : Cx) : Cx := X.wish fun _ _ => False
theorem Cx.Ok.wish {X : Cx} (ok : X.Ok) (E : Value → Shared → Prop) : (X.wish E).Ok :=
  ⟨ok.mod, ok.kind, ok.glob, ok.blt, ok.above, ok.inj, ok.has, ok.cab, ok.hd, ok.frames, ok.stk, ok.exf, ok.bs, ok.bsz, ok.noex, ok.exfs, ok.funs, ok.frf⟩
theorem Cx.Ok.unwish {X : Cx} {E : Value → Shared → Prop} (ok : (X.wish E).Ok) : X.Ok :=
  ⟨ok.mod, ok.kind, ok.glob, ok.blt, ok.above, ok.inj, ok.has, ok.cab, ok.hd, ok.frames, ok.stk, ok.exf, ok.bs, ok.bsz, ok.noex, ok.exfs, ok.funs, ok.frf⟩
section
variable {X : Cx} {pins : List (Addr × Obj)} {σ : St} {H : Hp} {s : Shared} {E : Value → Shared → Prop}
theorem Inw.wish (I : Inw X pins σ H s) (E : Value → Shared → Prop) : Inw (X.wish E) pins σ H s := ⟨I.ok.wish E, I.os, I.bare, I.base, I.loc, I.cell, I.free, I.freeC, I.pin, I.hok, I.len⟩
theorem Inw.unwish (I : Inw (X.wish E) pins σ H s) : Inw X pins σ H s := ⟨I.ok.unwish, I.os, I.bare, I.base, I.loc, I.cell, I.free, I.freeC, I.pin, I.hok, I.len⟩
theorem SP.unwish {D : Ends} {f : Flow} {s' : Shared} (h : SP (X.wish E) pins D f s') : SP X pins D f s' := by
  cases f with
  | next => obtain ⟨σ', H', I, q⟩ := h; exact ⟨σ', H', I.unwish, q⟩
  | brk => obtain ⟨σ', H', I, q⟩ := h; exact ⟨σ', H', I.unwish, q⟩
  | cont => obtain ⟨σ', H', I, q⟩ := h; exact ⟨σ', H', I.unwish, q⟩
  | ret u => obtain ⟨v, σ', H', I, r, q⟩ := h; exact ⟨v, σ', H', I.unwish, r, q⟩
theorem PE.nox {e : Expr} {t : TE} (h : PE X.nox e t) : PE X e t := fun pins s σ H Q I hw =>
  wpAny_mono (h pins s σ H Q ⟨I.wish _, I.pos⟩ hw) (fun _ _ ⟨v, H', I', r, q⟩ => ⟨v, H', I'.unwish, r, q⟩) fun _ _ z => False.elim z
theorem PT.nox {e : Expr} {t : TT} (h : PT X.nox e t) : PT X e t := fun pins s σ H Q I hw =>
  wpAny_mono (h pins s σ H Q ⟨I.wish _, I.pos⟩ hw) (fun _ _ ⟨H', I', q⟩ => ⟨H', I'.unwish, q⟩) fun _ _ z => False.elim z
theorem PSs.nox {st : List Stmt} {t : TS} (h : PSs X.nox st t) : PSs X st t := fun pins s σ H D I hw =>
  wpAny_mono (h pins s σ H D ⟨I.wish _, I.pos⟩ hw) (fun _ _ q => q.unwish) fun _ _ z => False.elim z
end

section
variable {X : Cx} {st : Stmt} {rest : List Stmt} {t u : TS} {e : Expr} {te : TE} {pos : Pos}
def tNext : TS := fun D σ H => D.nx σ H
def tSeq (t u : TS) : TS := fun D σ H => t { D with nx := u D } σ H
theorem pss_nil : PSs X [] tNext := fun _ _ σ H _ I h => wpAny_execs_nil ⟨σ, H, I, h⟩
theorem pss_cons (h1 : PS X st t) (h2 : PSs X rest u) : PSs X (st :: rest) (tSeq t u) := by
  intro pins s σ H D I h
  refine wpAny_execs_cons (thn (h1 pins s σ H { D with nx := u D } I h) fun f s1 q => ?_)
  cases f with
  | next =>
    obtain ⟨σ', H', I', q⟩ := q
    exact h2 pins s1 σ' H' D I' q
  | ret v => exact SPs.w q
  | brk => exact SPs.w q
  | cont => exact SPs.w q
theorem pss_one (h1 : PS X st t) : PSs X [st] t := by
  intro pins s σ H D I h
  refine wpAny_execs_cons (thn0 (h1 pins s σ H D I h) fun f s1 q => ?_)
  cases f with
  | next => exact wpAny_execs_nil q
  | ret v => exact q
  | brk => exact q
  | cont => exact q
theorem Inw.quiet {pins : List (Addr × Obj)} {σ : St} {H : Hp} {s : Shared} (I : Inw X pins σ H s) : interactive X.env = false := by simp [interactive, I.ok.kind]
def tDrop (te : TE) : TS := fun D σ H => te σ H fun _ H1 => D.nx σ H1
theorem ps_expr (he : PE X e te) (hs : swapsWith e none pos.line X.env = pure false := by rfl) : PS X (.Expr e pos) (tDrop te) := by
  intro pins s σ H D I h
  exact wpAny_Expr_any (thn (he pins s σ H _ I h) fun v s1 ⟨x, H1, I1, r1, q1⟩ => ⟨σ, H1, I1, q1⟩) I.quiet hs
def tRet (te : TE) : TS := fun D σ H => te σ H D.rt
theorem ps_ret (he : PE X e te) : PS X (.Return (some e) pos) (tRet te) := by
  intro pins s σ H D I h
  exact wpAny_Return_some (thn (he pins s σ H _ I h) fun v s1 ⟨x, H1, I1, r1, q1⟩ => ⟨x, σ, H1, I1, r1, q1⟩)
def tIfS (c : TT) (t u : TS) : TS := fun D σ H => c σ H fun b H1 => if b = true then t D σ H1 else u D σ H1
theorem ps_if {c : Expr} {a b : List Stmt} {tc : TT} (hc : PT X c tc) (ha : PSs X a t) (hb : PSs X b u) : PS X (.If c a b pos) (tIfS tc t u) := by
  intro pins s σ H D I h
  refine wpAny_If (thn (hc pins s σ H _ I h) fun d s1 ⟨H1, I1, q1⟩ => ?_)
  cases d with
  | true => exact ha pins s1 σ H1 D I1 q1
  | false => exact hb pins s1 σ H1 D I1 q1
end

abbrev TG := V → St → Hp → (St → Hp → Prop) → Prop
abbrev TGs := List V → St → Hp → (St → Hp → Prop) → Prop
def PG (X : Cx) (target : Expr) (t : TG) : Prop :=
  ∀ (pins : List (Addr × Obj)) (s : Shared) (σ : St) (H : Hp) (v : V) (u : Value) (Q : St → Hp → Prop), Inv X pins σ H s → RelV v u → t v σ H Q →
    wpAny (model X.prog X.w) X.A (assign target X.env u) (fun _ s' => ∃ σ' H', Inw X pins σ' H' s' ∧ Q σ' H') X.xe s
def PGs (X : Cx) (ts : List Expr) (t : TGs) : Prop :=
  ∀ (pins : List (Addr × Obj)) (s : Shared) (σ : St) (H : Hp) (vs : List V) (us : List Value) (Q : St → Hp → Prop), Inv X pins σ H s → Vals vs us → t vs σ H Q →
    wpAny (model X.prog X.w) X.A (assignInOrder ((assignEach ts X.env).map (·.2)) us) (fun _ s' => ∃ σ' H', Inw X pins σ' H' s' ∧ Q σ' H') X.xe s
abbrev TSet := V → V → V → Hp → (Hp → Prop) → Prop
abbrev TIp := V → V → Hp → VK → Prop
def PIp (X : Cx) (op : Operator) (t : TIp) : Prop :=
  ∀ (pins : List (Addr × Obj)) (s : Shared) (σ : St) (H : Hp) (x y : V) (v u : Value) (Q : VK), Inv X pins σ H s → RelV x v → RelV y u → t x y H Q →
    wpAny (model X.prog X.w) X.A (inplaceOp op v u) (EP X pins σ Q) X.xe s
section
variable {X : Cx} {pos : Pos}
def gName (i : Nat) : TG := fun v σ H Q => Q (σ.set i (some v)) H
theorem pg_name {i : Nat} {x : Str} (hN : X.N.Nodup) (hi : X.N[i]? = some x) (hx : Loc X.env.scope x) (hf : X.fn x = true ∨ X.env.scope.names.lookup x = some .local := by first | exact .inl rfl | exact .inr rfl | assumption) : PG X (.Name x pos) (gName i) := by
  intro pins s σ H v u Q I r h
  exact wpAny_assign_Name (store_ok I hN hi hx r (fun s' I' => ⟨_, H, I', h⟩) hf)
def gNil : TGs := fun vs σ H Q => vs = [] ∧ Q σ H
def gCons (t : TG) (u : TGs) : TGs := fun vs σ H Q => ∃ v r, vs = v :: r ∧ t v σ H fun σ' H' => u r σ' H' Q
theorem pgs_nil : PGs X [] gNil := by
  intro pins s σ H vs us Q I r h
  obtain ⟨e, h⟩ := h
  subst e
  cases r
  exact assignInOrder_nil ⟨σ, H, I, h⟩
theorem pgs_cons {e : Expr} {es : List Expr} {t : TG} {u : TGs} (h1 : PG X e t) (h2 : PGs X es u)
    (hs : (assignEach (e :: es) X.env).map (·.2) = assign e X.env :: (assignEach es X.env).map (·.2) := by rfl) : PGs X (e :: es) (gCons t u) := by
  intro pins s σ H vs us Q I r h
  obtain ⟨v, vr, e1, h⟩ := h
  subst e1
  cases r with
  | cons r rr =>
    rw [hs]
    refine assignInOrder_cons (thn (h1 pins s σ H _ _ _ I r h) fun _ s1 ⟨σ1, H1, I1, q1⟩ => ?_)
    exact h2 pins s1 σ1 H1 _ _ Q I1 rr q1
def gTup (K : PySem.W.Frag) (n : Nat) (t : TGs) : TG := fun v σ H Q => ∃ a xs, v = .ref a ∧ SqT K H a xs ∧ xs.length = n ∧ t xs σ H Q
theorem pg_tup {es : List Expr} {k : Nat} {t : TGs} {n : Nat} (hc : X.calm = true) (h : PGs X es t)
    (hn : (assignEach es X.env).length = n := by rfl) (hst : (assignEach es X.env).findIdx? (·.1) = none := by rfl) : PG X (.Tuple es k pos) (gTup X.K n t) := by
  intro pins s σ H v u Q I r hw
  obtain ⟨a, xs, e1, hq, hl, hw⟩ := hw
  subst e1
  cases r
  obtain ⟨its, rv, ht, hz⟩ := I.tuple hq
  refine assign_Tuple_tuple (I.ok.hd hc) ht (by simp [hn, ← hl, rv.length]) hst fun h' hx => ?_
  have I1 : Inw X pins σ H { s with heap := h' } := I.kept (t' := s.toks) fun b o e => hx b o (Nat.ne_of_lt (Heap.lt_size e)) e
  exact h pins _ σ H xs _ Q ⟨I1, I.pos⟩ (by simpa using rv) hw
def gSub (to ti : TE) (t : TSet) : TG := fun v σ H Q => to σ H fun o H1 => ti σ H1 fun i H2 => t o i v H2 fun H3 => Q σ H3
def tAsg (te : TE) (g : TG) : TS := fun D σ H => te σ H fun x H1 => g x σ H1 D.nx
theorem ps_set {i : Nat} {x : Str} {e : Expr} {te : TE} {pos' : Pos} (hN : X.N.Nodup) (hi : X.N[i]? = some x) (hx : Loc X.env.scope x) (he : PE X e te) (hs : swapsWith e (some (.Name x pos')) pos.line X.env = pure false := by rfl) (hf : X.fn x = true ∨ X.env.scope.names.lookup x = some .local := by first | exact .inl rfl | exact .inr rfl | assumption) :
    PS X (.Assign [.Name x pos'] e pos) (tAsg te (gName i)) := by
  intro pins s σ H D I h
  refine wpAny_Assign_Name (thn (he pins s σ H _ I h) fun v s1 ⟨y, H1, I1, r1, q1⟩ => ?_) hs
  exact store_ok I1 hN hi hx r1 (fun s2 I2 => ⟨_, H1, I2, q1⟩) hf
def tAug (i : Nat) (te : TE) (ti : TIp) : TS := fun D σ H => ∃ x, σ[i]? = some (some x) ∧ te σ H fun y H1 => ti x y H1 fun z H2 => D.nx (σ.set i (some z)) H2
theorem ps_aug {i : Nat} {x : Str} {e : Expr} {te : TE} {op : Operator} {ti : TIp} {pos' : Pos} (hN : X.N.Nodup) (hi : X.N[i]? = some x) (hx : Loc X.env.scope x) (he : PE X e te) (ho : PIp X op ti) (hf : X.fn x = true ∨ X.env.scope.names.lookup x = some .local := by first | exact .inl rfl | exact .inr rfl | assumption) :
    PS X (.AugAssign (.Name x pos') op e pos) (tAug i te ti) := by
  intro pins s σ H D I h
  obtain ⟨v, e1, h⟩ := h
  obtain ⟨m, hn, hl⟩ := I.loc
  have vis : Vis X.env.scope x := by rcases hx with k | k; exact .inl k; exact .inr (.inl k)
  obtain ⟨u, r, l⟩ := hl i x v hi e1 vis
  refine wpAny_AugAssign_Name ?_
  have go : wpAny (model X.prog X.w) X.A (eval e X.env) (fun w s₂ => wpAny (model X.prog X.w) X.A (inplaceOp op u w) (fun r s₃ => wpAny (model X.prog X.w) X.A (storeName X.env x r) (fun _ => SP X pins D .next) X.xe s₃) X.xe s₂) X.xe s := by
    refine thn (he pins s σ H _ I h) fun w s1 ⟨y, H1, I1, r1, q1⟩ => ?_
    refine thn (ho pins s1 σ H1 v y u w _ I1 r r1 q1) fun z s2 ⟨zv, H2, I2, r2, q2⟩ => ?_
    exact store_ok I2 hN hi hx r2 (fun s3 I3 => ⟨_, H2, I3, q2⟩) hf
  rcases l with ⟨hk, hm⟩ | ⟨hk, c, hc, hcell⟩
  · exact wpAny_loadName_local I.ok.kind hk hn hm go
  · rcases hk with hk | hk
    · exact wpAny_loadName_cell I.ok.kind hk hc hcell go
    · rcases hx with k | k
      · have : X.env.scope.names.lookup x = some .free := hk
        rw [k] at this; cases this
      · have : X.env.scope.names.lookup x = some .free := hk
        rw [k] at this; cases this
def ipI (f : Int → Int → Int) : TIp := fun x y H Q => ∃ i j, x = .int i ∧ y = .int j ∧ Q (.int (f i j)) H
theorem ip_add : PIp X .Add (ipI fun i j => i + j) := by
  intro pins s σ H x y v u Q I r1 r2 h
  obtain ⟨i, j, e1, e2, q⟩ := h
  subst e1; subst e2
  obtain ⟨t, rfl⟩ := r1
  obtain ⟨t', rfl⟩ := r2
  exact iadd_int ⟨.int _, H, I.tok _, ⟨_, rfl⟩, q⟩
end

section
variable {X : Cx} {pos : Pos}
def tWhile (c : TT) (tb : TS) : TS := fun D σ H => ∃ W : Nat → St → Hp → Prop, (∃ m, W m σ H) ∧ ∀ m σ H, W m σ H →
  c σ H fun b H1 => if b = true then ∃ N : St → Hp → Prop, (∀ σ' H', N σ' H' → ∃ m', m' < m ∧ W m' σ' H') ∧ tb { D with nx := N, ct := N, bk := D.nx } σ H1 else D.nx σ H1
theorem ps_while {c : Expr} {body : List Stmt} {tc : TT} {tb : TS} (hp : PassesOwn (model X.prog X.w) X.A X.env X.xe) (hc : PT X c tc) (hb : PSs X body tb) : PS X (.While c body [] pos) (tWhile tc tb) := by
  intro pins s σ H D I h
  obtain ⟨W, ⟨m0, w0⟩, turn⟩ := h
  refine wpAny_While (codeAny_whileLoop (fun n s' => ∃ σ' H', Inv X pins σ' H' s' ∧ W n σ' H') ?_ m0 ⟨σ, H, I, w0⟩)
  rintro n s1 ⟨σ1, H1, I1, w1⟩
  refine wpAny_passesOwn hp (thn (hc pins s1 σ1 H1 _ I1 (turn n σ1 H1 w1)) fun b s2 ⟨H2, I2, q2⟩ => ?_)
  cases b with
  | true =>
    obtain ⟨N, hN, q2⟩ := q2
    rw [if_pos rfl]
    refine wpAny_passesOwn hp (thn (hb pins s2 σ1 H2 _ I2 q2) fun f s3 q3 => ?_)
    cases f with
    | next =>
      obtain ⟨σ3, H3, I3, n3⟩ := q3
      obtain ⟨m', hm, w3⟩ := hN σ3 H3 n3
      exact ⟨m', hm, σ3, H3, I3, w3⟩
    | cont =>
      obtain ⟨σ3, H3, I3, n3⟩ := q3
      obtain ⟨m', hm, w3⟩ := hN σ3 H3 n3
      exact ⟨m', hm, σ3, H3, I3, w3⟩
    | brk => exact SPs.w q3
    | ret v => exact SPs.w q3
  | false =>
    rw [if_neg Bool.false_ne_true]
    exact wpAny_execs_nil ⟨σ1, H2, I2, q2⟩
end

structure It where
  go : Nat → Hp → Prop
  yld : Nat → Hp → V → Hp → Prop
  stop : Nat → Hp → Prop
def FpOk (X : Cx) (pins : List (Addr × Obj)) (H : Hp) (b : Addr) : Prop :=
  H b = none ∧ b ≠ X.env.locals ∧ b ∉ X.fs ∧ (b ∈ X.ex ∨ X.s₀.heap.objs.size ≤ b) ∧ (∀ x c, X.env.cells.lookup x = some c → c ≠ b) ∧ ∀ p ∈ X.pn ++ pins, p.1 ≠ b
theorem Inw.fpOk {X : Cx} {pins : List (Addr × Obj)} {σ : St} {H H' : Hp} {s : Shared} {b : Addr} (I : Inw X pins σ H s) (hb : s.heap.objs.size ≤ b) (hn : H' b = none) : FpOk X pins H' b := by
  refine ⟨hn, Nat.ne_of_gt (Nat.lt_of_lt_of_le I.lt hb), I.nofs hb, .inr (Nat.le_trans I.sz hb), fun x c e z => ?_, fun p hp z => ?_⟩
  · obtain ⟨v, q⟩ := I.cell x c e
    exact absurd (Nat.lt_of_lt_of_le q.lt (by rw [z]; exact hb)) (Nat.lt_irrefl _)
  · exact absurd (Nat.lt_of_lt_of_le (Heap.lt_size (I.pin p hp).1) (by rw [z]; exact hb)) (Nat.lt_irrefl _)
structure Turn (P : Program) (w : World) (K : PySem.W.Frag) (tg : Expr) (J : It) (fp : List Addr) (it : Addr) (tn : Nat → Heap → Prop) : Prop where
  mem : it ∈ fp
  obj : ∀ i h, tn i h → ∀ b ∈ fp, ∃ o, h.get? b = some o ∧ ∀ v, o.data ≠ .cell v
  keep : ∀ i h h', tn i h → (∀ b ∈ fp, ∀ o, h.get? b = some o → h'.get? b = some o) → tn i h'
  item : ∀ (X : Cx), X.prog = P → X.w = w → X.K = K → X.calm = true → ∀ (i : Nat) (pins : List (Addr × Obj)) (s : Shared) (σ : St) (H : Hp) (E : Value → Shared → Prop), Inv X pins σ H s → (∀ b ∈ fp, FpOk X pins H b) → tn i s.heap → J.go i H →
    wpAny (model P w) X.A (pyNext (.ref it)) (fun r s1 => ∃ u, r = some u ∧
      wpAny (model P w) X.A (letOwnedTupleGo tg (.ref it) u) (fun _ s2 => ∃ x H', Inw X pins σ H' s2 ∧ RelV x u ∧ J.yld i H x H' ∧ tn (i + 1) s2.heap ∧ ∀ b ∈ fp, H' b = none) E s1) E s
  done : ∀ (X : Cx), X.prog = P → X.w = w → X.K = K → X.calm = true → ∀ (i : Nat) (pins : List (Addr × Obj)) (s : Shared) (σ : St) (H : Hp) (E : Value → Shared → Prop), Inv X pins σ H s → (∀ b ∈ fp, FpOk X pins H b) → tn i s.heap → J.stop i H →
    wpAny (model P w) X.A (pyNext (.ref it)) (fun r s1 => r = none ∧ Inw X pins σ H s1) E s
  self : ∀ (A : Around) (i : Nat) (s : Shared) (Q : Value → Shared → Prop) (E : Value → Shared → Prop), tn i s.heap → Q (.ref it) s → wpAny (model P w) A (pyIter (.ref it)) Q E s
abbrev TI := St → Hp → (It → Hp → Prop) → Prop
def PIE (X : Cx) (pins : List (Addr × Obj)) (σ : St) (tg : Expr) (R : It → Hp → Prop) (itv : Value) (s2 : Shared) : Prop :=
  ∃ (it : Addr) (fp : List Addr) (tn : Nat → Heap → Prop) (J : It) (H' : Hp), itv = .ref it ∧ Inw X pins σ H' s2 ∧ Turn X.prog X.w X.K tg J fp it tn ∧ tn 0 s2.heap ∧ (∀ b ∈ fp, FpOk X pins H' b) ∧ R J H'
def PI (X : Cx) (tg iter : Expr) (wi : TI) : Prop :=
  ∀ (pins : List (Addr × Obj)) (s : Shared) (σ : St) (H : Hp) (R : It → Hp → Prop), Inv X pins σ H s → wi σ H R →
    wpAny (model X.prog X.w) X.A (eval iter X.env) (fun v s1 => wpAny (model X.prog X.w) X.A (pyIter v) (PIE X pins σ tg R) X.xe s1) X.xe s

theorem go_of {M : Model} {A : Around} {E : Value → Shared → Prop} {s : Shared} {tg : Expr} {it : Addr} {u : Value} {o : Obj} {n : String} {vs : Array Value} {Q : Unit → Shared → Prop} (ho : s.heap.get? it = some o) (hc : o.cls = .type n) (hd : o.data = .fields vs)
    (hn : ["enumerate", "zip", "dict_itemiterator", "dict_reverseitemiterator", "odict_iterator", "itertools.zip_longest", "itertools.pairwise"].contains n = false) (hQ : Q () s) : wpAny M A (letOwnedTupleGo tg (.ref it) u) Q E s := by
  unfold letOwnedTupleGo
  cases tg <;> first
    | exact wpAny_pure hQ
    | (cases u <;> first
        | exact wpAny_pure hQ
        | (refine wpAny_bind (wpAny_load ho ?_)
           rw [hc, hd]
           show wpAny M A (if (["enumerate", "zip", "dict_itemiterator", "dict_reverseitemiterator", "odict_iterator", "itertools.zip_longest", "itertools.pairwise"].contains n && vs[0]? == some (rawInt _)) = true then _ else _) Q E s
           rw [if_neg (by intro h; rw [hn, Bool.false_and] at h; cases h)]
           exact wpAny_pure hQ))

def Itl (K : PySem.W.Frag) (a : Addr) : It :=
  ⟨fun i H => ∃ xs x, SqL K H a xs ∧ xs[i]? = some x, fun i H x H' => H' = H ∧ ∀ xs, SqL K H a xs → xs[i]? = some x, fun i H => ∃ xs, SqL K H a xs ∧ xs.length ≤ i⟩
def Itr (lo : Int) (n : Nat) : It := ⟨fun i _ => i < n, fun i H x H' => H' = H ∧ x = .int (lo + i), fun i _ => n ≤ i⟩
theorem turn_list {P : Program} {w : World} {K : PySem.W.Frag} {tg : Expr} (a it : Addr) : Turn P w K tg (Itl K a) [it] it (fun i h => h.IsListIter it a i) where
  mem := by simp
  obj := fun i h st b hb => by
    have e : b = it := by simpa using hb
    subst e
    obtain ⟨o, e, c, d⟩ := st
    exact ⟨o, e, fun v z => by rw [d] at z; cases z⟩
  keep := fun i h h' st k => st.at fun o e => k it (by simp) o e
  item := by
    intro X hP hw hK hc i pins s σ H E I hf st hg
    subst hP hw hK
    obtain ⟨xs, x, hq, hx⟩ := hg
    obtain ⟨its, rv, p, hz⟩ := I.list hq
    obtain ⟨u, hu, ru⟩ := rv.get hx
    obtain ⟨f0, f1, f2, f3, f4, f5⟩ := hf it (by simp)
    refine wpAny_pyNext_list_item st p.isList (x := u) (by simpa using hu) fun h' st' sb => ?_
    have I1 : Inw X pins σ H { s with heap := h' } := I.turned (t' := s.toks) (fun b o hb e => (sb.2 b hb).trans e) f0 f1 f3 f4 f5
    obtain ⟨o, e, c, d⟩ := id st'
    exact ⟨u, rfl, go_of (s := { s with heap := h' }) e c d (by decide) ⟨x, H, I1, ru, ⟨rfl, fun ys hy => by rw [I.list_inj hy hq]; exact hx⟩, st', fun b hb => (hf b hb).1⟩⟩
  done := by
    intro X hP hw hK hc i pins s σ H E I hf st hg
    subst hP hw hK
    obtain ⟨xs, hq, hx⟩ := hg
    obtain ⟨its, rv, p, hz⟩ := I.list hq
    obtain ⟨f0, f1, f2, f3, f4, f5⟩ := hf it (by simp)
    have hl := rv.length
    exact wpAny_pyNext_list_end (I.ok.hd hc) st p.isList (by simp; omega) fun h' eb => ⟨rfl, I.turned (t' := s.toks) (fun b o hb e => eb b o hb e) f0 f1 f3 f4 f5⟩
  self := fun _ _ _ _ _ st h => wpAny_pyIter_listiter st h
theorem turn_range {P : Program} {w : World} {K : PySem.W.Frag} {tg : Expr} (it : Addr) (lo : Int) (n : Nat) : Turn P w K tg (Itr lo n) [it] it (fun i h => IsRangeIter h it (lo + (i : Nat) * 1) ((n : Int) - (i : Nat)) 1) where
  mem := by simp
  obj := fun i h st b hb => by
    have e : b = it := by simpa using hb
    subst e
    exact ⟨_, st, fun v z => by
      have z' : Data.fields _ = Data.cell v := z
      cases z'⟩
  keep := fun i h h' st k => k it (by simp) _ st
  item := by
    intro X hP hw hK hc i pins s σ H E I hf st hg
    subst hP hw hK
    obtain ⟨f0, f1, f2, f3, f4, f5⟩ := hf it (by simp)
    have W := Walks.range (prog := X.prog) (w := X.w) (I.ok.hd hc) it lo 1 n
    refine W.item i s _ _ hg st fun v h' tk hv st' kk => ?_
    obtain ⟨t, rfl⟩ := hv
    have I1 : Inw X pins σ H { s with heap := h', toks := tk } := I.turned (fun b o hb e => kk b o (by simpa using hb) e) f0 f1 f3 f4 f5
    refine ⟨_, rfl, go_of (s := { s with heap := h', toks := tk }) (n := "range_iterator") st' rfl rfl (by decide) ⟨.int (lo + i), H, I1, ⟨t, ?_⟩, ⟨rfl, rfl⟩, st', fun b hb => (hf b hb).1⟩⟩
    rw [Int.mul_one]
  done := by
    intro X hP hw hK hc i pins s σ H E I hf st hg
    subst hP hw hK
    obtain ⟨f0, f1, f2, f3, f4, f5⟩ := hf it (by simp)
    exact wpAny_pyNext_range_end (I.ok.hd hc) st (by have : n ≤ i := hg; omega) fun h' eb => ⟨rfl, I.turned (t' := s.toks) (fun b o hb e => eb b o hb e) f0 f1 f3 f4 f5⟩
  self := fun _ _ _ _ _ st h => wpAny_pyIter_rangeiter st h
end L2

namespace L2
open PySem PySem.Spec PyProof.Rows
section
variable {X : Cx} {tg : Expr}
def iList (K : PySem.W.Frag) (tl : TE) : TI := fun σ H R => tl σ H fun x H1 => ∃ a, x = .ref a ∧ (∃ xs, SqL K H1 a xs) ∧ R (Itl K a) H1
theorem pi_list {l : Expr} {tl : TE} (hl : PE X l tl) : PI X tg l (iList X.K tl) := by
  intro pins s σ H R I h
  refine thn (hl pins s σ H _ I h) fun v s1 ⟨x, H1, I1, r1, q1⟩ => ?_
  obtain ⟨a, e, ⟨xs, hq⟩, q⟩ := q1
  subst e
  cases r1
  obtain ⟨its, rv, p, hz⟩ := I1.list hq
  refine wpAny_pyIter_list p.isList ?_
  refine ⟨s1.heap.objs.size, [s1.heap.objs.size], _, _, H1, rfl, I1.kept (t' := s1.toks) fun b o e => Heap.get?_push_of_some _ e, turn_list a _, ⟨_, Heap.get?_push_size _ rfl, rfl, rfl⟩, fun b hb => ?_, q⟩
  have e : b = s1.heap.objs.size := by simpa using hb
  subst e
  exact I1.fpOk (Nat.le_refl _) (I1.hok.fresh (Nat.le_refl _))
theorem range_it {pins : List (Addr × Obj)} {σ : St} {H : Hp} {s : Shared} {R : It → Hp → Prop} {E : Value → Shared → Prop} {lo hi : Int} {t u v : Tok} {tk : Nat} (I : Inv X pins σ H s) (h1 : -(2 ^ 62) ≤ lo) (h2 : lo < 2 ^ 62) (h3 : -(2 ^ 62) ≤ hi) (h4 : hi < 2 ^ 62)
    (q : R (Itr lo (hi - lo).toNat) H) : wpAny (model X.prog X.w) X.A (pyIter (.ref s.heap.objs.size)) (PIE X pins σ tg R) E { s with heap := s.heap.push { cls := .type "range", data := .fields #[.int lo t, .int hi u, .int 1 v] }, toks := tk } := by
  refine wpAny_pyIter_range (IsRange.new ..) (small_one h1 h2 h3 h4) ?_
  have I1 : Inw X pins σ H { s with heap := s.heap.push { cls := .type "range", data := .fields #[.int lo t, .int hi u, .int 1 v] }, toks := tk } := I.kept fun b o e => Heap.get?_push_of_some _ e
  refine ⟨(s.heap.push { cls := .type "range", data := .fields #[.int lo t, .int hi u, .int 1 v] }).objs.size, [(s.heap.push { cls := .type "range", data := .fields #[.int lo t, .int hi u, .int 1 v] }).objs.size], _, _, H, rfl,
    I1.kept (t' := tk) fun b o e => Heap.get?_push_of_some _ e, turn_range _ lo (hi - lo).toNat, ?_, fun b hb => ?_, q⟩
  · have e1 : lo + ((0 : Nat) : Int) * 1 = lo := by simp
    have e2 : (((hi - lo).toNat : Nat) : Int) - ((0 : Nat) : Int) = Builtin.Range.rangeSize lo hi 1 := by rw [rangeSize_one]; split <;> omega
    show IsRangeIter _ _ (lo + ((0 : Nat) : Int) * 1) ((((hi - lo).toNat : Nat) : Int) - ((0 : Nat) : Int)) 1
    rw [e1, e2]
    exact Heap.get?_push_size _ rfl
  · have e : b = (s.heap.push { cls := .type "range", data := .fields #[.int lo t, .int hi u, .int 1 v] }).objs.size := by simpa using hb
    subst e
    exact I1.fpOk (Nat.le_refl _) (I1.hok.fresh (Nat.le_refl _))
def iRng1 (ta : TA) : TI := fun σ H R => ta σ H fun vs H1 => ∃ j : Int, vs = [.int j] ∧ -(2 ^ 62) ≤ j ∧ j < 2 ^ 62 ∧ R (Itr 0 j.toNat) H1
def iRng2 (ta : TA) : TI := fun σ H R => ta σ H fun vs H1 => ∃ i j : Int, vs = [.int i, .int j] ∧ (-(2 ^ 62) ≤ i ∧ i < 2 ^ 62 ∧ -(2 ^ 62) ≤ j ∧ j < 2 ^ 62) ∧ R (Itr i (j - i).toNat) H1
theorem pi_range1 {a : Expr} {ta : TA} {p pos : Pos} (hg : Gl X "range") (hm : X.mg "range" = none) (ha : PA X [a] ta) (hs : starEach [a] X.env = [(false, eval a X.env)] := by rfl) : PI X tg (.Call (.Name "range" p) [a] [] pos) (iRng1 ta) := by
  intro pins s σ H R I h
  refine Call_ (ld_blt I hg hm boot_range (PyProof.Rows.callWith_type1 (thn (ha pos pins s σ H _ I h) fun us s1 ⟨vs, H1, I1, r1, q1⟩ => ?_) hs rfl))
  obtain ⟨j, e, q1, q2, q⟩ := q1
  subst e
  cases r1 with
  | cons r rr =>
    cases rr
    obtain ⟨t, rfl⟩ := r
    exact call_range_1 (range_it I1 (by omega) (by omega) q1 q2 (by simpa using q))

def tFor (wi : TI) (g : TG) (tb : TS) : TS := fun D σ H => wi σ H fun J H1 => ∃ W : Nat → Nat → St → Hp → Prop, (∃ m, W 0 m σ H1) ∧ ∀ i m σ H, W i m σ H →
  (J.stop i H ∧ D.nx σ H) ∨ (J.go i H ∧ ∃ N : St → Hp → Prop, (∀ σ' H', N σ' H' → ∃ m', m' < m ∧ W (i + 1) m' σ' H') ∧ ∀ x H', J.yld i H x H' → g x σ H' fun σ2 H2 => tb { D with nx := N, ct := N, bk := D.nx } σ2 H2)
def pinsAt (fp : List Addr) (h : Heap) : List (Addr × Obj) := fp.filterMap fun b => (h.get? b).map fun o => (b, o)
theorem mem_pinsAt {fp : List Addr} {h : Heap} {b : Addr} {o : Obj} (hb : b ∈ fp) (e : h.get? b = some o) : (b, o) ∈ pinsAt fp h := List.mem_filterMap.mpr ⟨b, hb, by rw [e]; rfl⟩
theorem of_pinsAt {fp : List Addr} {h : Heap} {p : Addr × Obj} (hp : p ∈ pinsAt fp h) : p.1 ∈ fp ∧ h.get? p.1 = some p.2 := by
  obtain ⟨b, hb, e⟩ := List.mem_filterMap.mp hp
  cases q : h.get? b with
  | none => rw [q] at e; cases e
  | some o =>
    rw [q] at e
    have e' : (b, o) = p := Option.some.inj e
    subst e'
    exact ⟨hb, q⟩
theorem Inw.pinned {pins : List (Addr × Obj)} {σ : St} {H : Hp} {s : Shared} {fp : List Addr} (I : Inw X pins σ H s) (hf : ∀ b ∈ fp, FpOk X pins H b) (ho : ∀ b ∈ fp, ∃ o, s.heap.get? b = some o ∧ ∀ v, o.data ≠ .cell v) : Inw X (pins ++ pinsAt fp s.heap) σ H s :=
  I.pins_of fun p hp => (List.mem_append.mp hp).elim (fun z => I.pin p (List.mem_append_right _ z)) fun z => by
    obtain ⟨hb, e⟩ := of_pinsAt z
    obtain ⟨f0, f1, f2, _⟩ := hf p.1 hb
    obtain ⟨o, e', d⟩ := ho p.1 hb
    rw [e] at e'; cases e'
    exact ⟨e, f0, f1, f2, d⟩
theorem Inw.unpinned {pins pl : List (Addr × Obj)} {σ : St} {H : Hp} {s : Shared} (I : Inw X (pins ++ pl) σ H s) : Inw X pins σ H s := I.pins_of fun p hp => I.pin p (List.mem_append_right _ (List.mem_append_left _ hp))
theorem ps_for {iter : Expr} {body : List Stmt} {wi : TI} {g : TG} {tb : TS} {pos : Pos} (hp : PassesOwn (model X.prog X.w) X.A X.env X.xe) (hc : X.calm = true) (hi : PI X tg iter wi) (hg : PG X tg g) (hb : PSs X body tb)
    (hs : ∀ x, foldedSetIterable iter X.env x = pure x := by intro _; rfl) : PS X (.For tg iter body [] pos) (tFor wi g tb) := by
  intro pins s σ H D I h
  refine wpAny_For (thn (hi pins s σ H _ I h) fun v s1 g1 => ?_) hs
  refine thnZ g1.pos g1.run fun itv s2 z2 h2 => ?_
  obtain ⟨it, fp, tn, J, H2, e, I2, T, st2, f2, W, ⟨m0, w0⟩, turn⟩ := h2
  subst e
  -- what stays true of the iterator's objects through the loop
  have stat : ∀ {H' : Hp}, (∀ b ∈ fp, H' b = none) → ∀ b ∈ fp, FpOk X pins H' b := fun hn b hb => ⟨hn b hb, (f2 b hb).2⟩
  refine codeAny_forLoop_any (fun n s' => ∃ i σ' H', Inv X pins σ' H' s' ∧ tn i s'.heap ∧ (∀ b ∈ fp, H' b = none) ∧ W i n σ' H') ?_ m0 ⟨0, σ, H2, ⟨I2, z2⟩, st2, fun b hb => (f2 b hb).1, w0⟩
  rintro n s3 ⟨i, σ3, H3, I3, st3, fr3, w3⟩
  rcases turn i n σ3 H3 w3 with ⟨stop, qn⟩ | ⟨go, N, hN, step⟩
  · refine wpAny_passesOwn hp (thn (T.done X rfl rfl rfl hc i pins s3 σ3 H3 X.xe I3 (stat fr3) st3 stop) fun r s4 ⟨hr, I4⟩ => ?_)
    subst hr
    exact wpAny_execs_nil ⟨σ3, H3, I4, qn⟩
  · refine wpAny_passesOwn hp (thnZ I3.pos (T.item X rfl rfl rfl hc i pins s3 σ3 H3 X.xe I3 (stat fr3) st3 go) fun r s4 z4 ⟨u, hr, h4⟩ => ?_)
    subst hr
    refine wpAny_passesOwn hp (thnZ z4 h4 fun _ s5 z5 ⟨x, H5, I5, r5, y5, st5, fr5⟩ => ?_)
    have I5' : Inv X _ _ _ s5 := ⟨I5.pinned (stat fr5) (T.obj _ _ st5), z5⟩
    refine wpAny_passesOwn hp (thn (hg _ s5 σ3 H5 x u _ I5' r5 (step x H5 y5)) fun _ s6 ⟨σ6, H6, I6, q6⟩ => ?_)
    refine wpAny_passesOwn hp (thn (hb _ s6 σ6 H6 _ I6 q6) fun f s7 q7 => ?_)
    have again : ∀ {σ7 : St} {H7 : Hp}, Inv X (pins ++ pinsAt fp s5.heap) σ7 H7 s7 → N σ7 H7 → ∃ m, m < n ∧ ∃ i σ' H', Inv X pins σ' H' s7 ∧ tn i s7.heap ∧ (∀ b ∈ fp, H' b = none) ∧ W i m σ' H' := fun {σ7 H7} I7 n7 => by
      obtain ⟨m', hm, w7⟩ := hN σ7 H7 n7
      refine ⟨m', hm, i + 1, σ7, H7, ⟨I7.unpinned, I7.pos⟩, T.keep _ _ _ st5 fun b hb o e => (I7.pin (b, o) (List.mem_append_right _ (List.mem_append_right _ (mem_pinsAt hb e)))).1, fun b hb => ?_, w7⟩
      obtain ⟨o, e, d⟩ := T.obj _ _ st5 b hb
      exact (I7.pin (b, o) (List.mem_append_right _ (List.mem_append_right _ (mem_pinsAt hb e)))).2.1
    cases f with
    | next => obtain ⟨σ7, H7, I7, n7⟩ := q7; exact again I7 n7
    | cont => obtain ⟨σ7, H7, I7, n7⟩ := q7; exact again I7 n7
    | brk => obtain ⟨σ7, H7, I7, q7⟩ := q7; exact ⟨σ7, H7, I7.unpinned, q7⟩
    | ret v => obtain ⟨x7, σ7, H7, I7, r7, q7⟩ := q7; exact ⟨x7, σ7, H7, I7.unpinned, r7, q7⟩
end

theorem for_list {K : PySem.W.Frag} {a : Addr} {xs : List V} {g : TG} {tb : TS} {D : Ends} {σ : St} {H : Hp} (Pv : Nat → St → Hp → Prop) (h0 : Pv 0 σ H) (hl : ∀ i σ H, i ≤ xs.length → Pv i σ H → SqL K H a xs)
    (hs : ∀ i x σ H, xs[i]? = some x → Pv i σ H → g x σ H fun σ2 H2 => tb { D with nx := Pv (i + 1), ct := Pv (i + 1), bk := D.nx } σ2 H2) (hd : ∀ σ H, Pv xs.length σ H → D.nx σ H) :
    ∃ W : Nat → Nat → St → Hp → Prop, (∃ m, W 0 m σ H) ∧ ∀ i m σ H, W i m σ H →
      ((Itl K a).stop i H ∧ D.nx σ H) ∨ ((Itl K a).go i H ∧ ∃ N : St → Hp → Prop, (∀ σ' H', N σ' H' → ∃ m', m' < m ∧ W (i + 1) m' σ' H') ∧ ∀ x H', (Itl K a).yld i H x H' → g x σ H' fun σ2 H2 => tb { D with nx := N, ct := N, bk := D.nx } σ2 H2) := by
  refine ⟨fun i m σ H => m = xs.length - i ∧ i ≤ xs.length ∧ Pv i σ H, ⟨xs.length, by simp, Nat.zero_le _, h0⟩, ?_⟩
  rintro i m σ H ⟨rfl, hi, p⟩
  have q := hl i σ H hi p
  by_cases hlt : i < xs.length
  · refine .inr ⟨⟨xs, xs[i], q, by simp [hlt]⟩, Pv (i + 1), fun σ' H' p' => ⟨xs.length - (i + 1), by omega, rfl, hlt, p'⟩, fun x H' y => ?_⟩
    obtain ⟨e, y⟩ := y
    subst e
    exact hs i x σ _ (y xs q) p
  · have e : i = xs.length := by omega
    subst e
    exact .inl ⟨⟨xs, q, Nat.le_refl _⟩, hd σ H p⟩
theorem for_range {lo : Int} {n : Nat} {g : TG} {tb : TS} {D : Ends} {σ : St} {H : Hp} (Pv : Nat → St → Hp → Prop) (h0 : Pv 0 σ H)
    (hs : ∀ i σ H, i < n → Pv i σ H → g (.int (lo + i)) σ H fun σ2 H2 => tb { D with nx := Pv (i + 1), ct := Pv (i + 1), bk := D.nx } σ2 H2) (hd : ∀ σ H, Pv n σ H → D.nx σ H) :
    ∃ W : Nat → Nat → St → Hp → Prop, (∃ m, W 0 m σ H) ∧ ∀ i m σ H, W i m σ H →
      ((Itr lo n).stop i H ∧ D.nx σ H) ∨ ((Itr lo n).go i H ∧ ∃ N : St → Hp → Prop, (∀ σ' H', N σ' H' → ∃ m', m' < m ∧ W (i + 1) m' σ' H') ∧ ∀ x H', (Itr lo n).yld i H x H' → g x σ H' fun σ2 H2 => tb { D with nx := N, ct := N, bk := D.nx } σ2 H2) := by
  refine ⟨fun i m σ H => m = n - i ∧ i ≤ n ∧ Pv i σ H, ⟨n, by simp, Nat.zero_le _, h0⟩, ?_⟩
  rintro i m σ H ⟨rfl, hi, p⟩
  by_cases hlt : i < n
  · refine .inr ⟨hlt, Pv (i + 1), fun σ' H' p' => ⟨n - (i + 1), by omega, rfl, hlt, p'⟩, fun x H' y => ?_⟩
    obtain ⟨e, y⟩ := y
    subst e y
    exact hs i σ _ hlt p
  · have e : i = n := by omega
    subst e
    exact .inl ⟨Nat.le_refl _, hd σ H p⟩
end L2

namespace L2
open PySem PySem.Spec PyProof.Rows

abbrev R2 := V → V → Hp → VK → Prop
def OpR (X : Cx) (f : Value → Value → Sem Value) (r : R2) : Prop :=
  ∀ (pins : List (Addr × Obj)) (s : Shared) (σ : St) (H : Hp) (x y : V) (v u : Value) (Q : VK), Inv X pins σ H s → RelV x v → RelV y u → r x y H Q →
    wpAny (model X.prog X.w) X.A (f v u) (EP X pins σ Q) X.xe s
def UnR (X : Cx) (f : Value → Sem Value) (r : V → Hp → VK → Prop) : Prop :=
  ∀ (pins : List (Addr × Obj)) (s : Shared) (σ : St) (H : Hp) (x : V) (v : Value) (Q : VK), Inv X pins σ H s → RelV x v → r x H Q →
    wpAny (model X.prog X.w) X.A (f v) (EP X pins σ Q) X.xe s
def CallR (X : Cx) (f : Value) (r : List V → Hp → VK → Prop) : Prop :=
  ∀ (pins : List (Addr × Obj)) (s : Shared) (σ : St) (H : Hp) (xs : List V) (us : List Value) (Q : VK), Inv X pins σ H s → Vals xs us → r xs H Q →
    wpAny (model X.prog X.w) X.A (call f us) (EP X pins σ Q) X.xe s
def TruR (X : Cx) (r : V → Hp → (Bool → Hp → Prop) → Prop) : Prop :=
  ∀ (pins : List (Addr × Obj)) (s : Shared) (σ : St) (H : Hp) (x : V) (v : Value) (Q : Bool → Hp → Prop), Inv X pins σ H s → RelV x v → r x H Q →
    wpAny (model X.prog X.w) X.A (truthy v) (TP X pins σ Q) X.xe s

def tOp (r : R2) (ta tb : TE) : TE := fun σ H Q => ta σ H fun x H1 => tb σ H1 fun y H2 => r x y H2 Q
def tUn (r : V → Hp → VK → Prop) (ta : TE) : TE := fun σ H Q => ta σ H fun x H1 => r x H1 Q
def rI (C : Int → Int → Prop) (g : Int → Int → V) : R2 := fun x y H Q => ∃ i j, x = .int i ∧ y = .int j ∧ C i j ∧ Q (g i j) H
def rI0 (g : Int → Int → V) : R2 := fun x y H Q => ∃ i j, x = .int i ∧ y = .int j ∧ Q (g i j) H
def rU (g : Int → V) : V → Hp → VK → Prop := fun x H Q => ∃ i, x = .int i ∧ Q (g i) H

section
variable {X : Cx} {a b c : Expr} {ta tb tc : TE} {pos : Pos}

theorem binT (ha : PE X a ta) (hb : PE X b tb) {pins : List (Addr × Obj)} {s : Shared} {σ : St} {H : Hp} {R : V → V → Hp → Prop} (I : Inv X pins σ H s)
    (h : ta σ H fun x H1 => tb σ H1 fun y H2 => R x y H2) {Q : Value → Shared → Prop} {f : Value → Value → Sem Value}
    (hf : ∀ v u s2 x y H2, Inv X pins σ H2 s2 → RelV x v → RelV y u → R x y H2 → wpAny (model X.prog X.w) X.A (f v u) Q X.xe s2) :
    wpAny (model X.prog X.w) X.A (eval a X.env) (fun v s₁ => wpAny (model X.prog X.w) X.A (eval b X.env) (fun u s₂ => wpAny (model X.prog X.w) X.A (f v u) Q X.xe s₂) X.xe s₁) X.xe s := by
  refine thn (ha pins s σ H _ I h) fun v s1 ⟨x, H1, I1, r1, q1⟩ => ?_
  refine thn (hb pins s1 σ H1 _ I1 q1) fun u s2 ⟨y, H2, I2, r2, q2⟩ => ?_
  exact hf v u s2 x y H2 I2 r1 r2 q2

theorem pe_op {op : Operator} {r : R2} (ho : OpR X (binaryOp op) r) (ha : PE X a ta) (hb : PE X b tb) : PE X (.BinOp a op b pos) (tOp r ta tb) := by
  intro pins s σ H Q I h
  exact wpAny_BinOp (binT ha hb I h fun v u s2 x y H2 I2 rx ry q => ho pins s2 σ H2 x y v u Q I2 rx ry q)
theorem pe_un {op : UnaryOp} {r : V → Hp → VK → Prop} (ho : UnR X (unaryOp op) r) (ha : PE X a ta) : PE X (.UnaryOp op a pos) (tUn r ta) := by
  intro pins s σ H Q I h
  exact UnaryOp_ (thn (ha pins s σ H _ I h) fun v s1 ⟨x, H1, I1, r1, q1⟩ => ho pins s1 σ H1 x v Q I1 r1 q1)

theorem opI {f : Value → Value → Sem Value} {C : Int → Int → Prop} {g : Int → Int → Int}
    (rule : ∀ (i j : Int) (t u : Tok) (s : Shared) (Q : Value → Shared → Prop) (E : Value → Shared → Prop), C i j → Q (.int (g i j) s.toks) { s with toks := s.toks + 1 } → wpAny (model X.prog X.w) X.A (f (.int i t) (.int j u)) Q E s) :
    OpR X f (rI C fun i j => .int (g i j)) := by
  intro pins s σ H x y v u Q I rx ry h
  obtain ⟨i, j, rfl, rfl, hc, q⟩ := h
  obtain ⟨t, rfl⟩ := rx
  obtain ⟨t', rfl⟩ := ry
  exact rule i j t t' s _ _ hc ⟨.int (g i j), H, I.tok _, ⟨_, rfl⟩, q⟩
theorem opI0 {f : Value → Value → Sem Value} {g : Int → Int → Int}
    (rule : ∀ (i j : Int) (t u : Tok) (s : Shared) (Q : Value → Shared → Prop) (E : Value → Shared → Prop), Q (.int (g i j) s.toks) { s with toks := s.toks + 1 } → wpAny (model X.prog X.w) X.A (f (.int i t) (.int j u)) Q E s) :
    OpR X f (rI0 fun i j => .int (g i j)) := by
  intro pins s σ H x y v u Q I rx ry h
  obtain ⟨i, j, rfl, rfl, q⟩ := h
  obtain ⟨t, rfl⟩ := rx
  obtain ⟨t', rfl⟩ := ry
  exact rule i j t t' s _ _ ⟨.int (g i j), H, I.tok _, ⟨_, rfl⟩, q⟩
theorem opB0 {f : Value → Value → Sem Value} {g : Int → Int → Bool}
    (rule : ∀ (i j : Int) (t u : Tok) (s : Shared) (Q : Value → Shared → Prop) (E : Value → Shared → Prop), Q (.bool (g i j)) s → wpAny (model X.prog X.w) X.A (f (.int i t) (.int j u)) Q E s) :
    OpR X f (rI0 fun i j => .bl (g i j)) := by
  intro pins s σ H x y v u Q I rx ry h
  obtain ⟨i, j, rfl, rfl, q⟩ := h
  obtain ⟨t, rfl⟩ := rx
  obtain ⟨t', rfl⟩ := ry
  exact rule i j t t' s _ _ ⟨.bl (g i j), H, I, rfl, q⟩

def CDiv (i j : Int) : Prop := 0 < j ∧ j < 1073741824
def CPow (i j : Int) : Prop := 0 ≤ j ∧ j ≤ 1000000 ∧ i.natAbs < 2 ^ 64
def CMul (i j : Int) : Prop := (-(2 ^ 64) < i ∧ i < 2 ^ 64) ∨ (-(2 ^ 64) < j ∧ j < 2 ^ 64)
theorem CMul.ok {i j : Int} (h : CMul i j) : IntMulOk i j := by
  rcases h with ⟨h1, h2⟩ | ⟨h1, h2⟩
  · exact .of_left (intBits_le_64 h1 h2)
  · exact .of_right (intBits_le_64 h1 h2)

theorem op_add : OpR X (binaryOp .Add) (rI0 fun i j => .int (i + j)) := opI0 fun _ _ _ _ _ _ _ q => add_int q
theorem op_sub : OpR X (binaryOp .Sub) (rI0 fun i j => .int (i - j)) := opI0 fun _ _ _ _ _ _ _ q => sub_int q
theorem op_mul : OpR X (binaryOp .Mult) (rI CMul fun i j => .int (i * j)) := opI fun _ _ _ _ _ _ _ hc q => mul_int q hc.ok
theorem op_fdiv : OpR X (binaryOp .FloorDiv) (rI CDiv fun i j => .int (i / j)) := opI fun i j _ _ _ _ _ hc q => by
  have h1 : (0 : Int) < j := hc.1
  have h2 : j < 1073741824 := hc.2
  exact floordiv_int (by omega) (by rw [Int.fdiv_eq_ediv_of_nonneg i (by omega)]; exact q) (.inl (PyProof.noPylong_small (by omega)))
theorem op_mod : OpR X (binaryOp .Mod) (rI (fun _ j => 0 < j) fun i j => .int (i % j)) := opI fun i j _ _ _ _ _ hc q => by
  have h1 : (0 : Int) < j := hc
  exact mod_int' (by omega) (by rw [Int.fmod_eq_emod_of_nonneg i (by omega)]; exact q)
theorem op_pow : OpR X (binaryOp .Pow) (rI CPow fun i j => .int (i ^ j.toNat)) := opI fun _ _ _ _ _ _ _ hc q => pow_int_small hc.1 hc.2.1 hc.2.2 q


theorem unI {f : Value → Sem Value} {g : Int → Int}
    (rule : ∀ (i : Int) (t : Tok) (s : Shared) (Q : Value → Shared → Prop) (E : Value → Shared → Prop), Q (.int (g i) s.toks) { s with toks := s.toks + 1 } → wpAny (model X.prog X.w) X.A (f (.int i t)) Q E s) :
    UnR X f (rU fun i => .int (g i)) := by
  intro pins s σ H x v Q I rx h
  obtain ⟨i, rfl, q⟩ := h
  obtain ⟨t, rfl⟩ := rx
  exact rule i t s _ _ ⟨.int (g i), H, I.tok _, ⟨_, rfl⟩, q⟩
theorem un_neg : UnR X (unaryOp .USub) (rU fun i => .int (-i)) := unI fun _ _ _ _ _ q => neg_int q

end

def scal : V → V → Bool
  | .non, .non => true | .non, .int _ => true | .int _, .non => true | .non, .bl _ => true | .bl _, .non => true | .non, .str _ => true | .str _, .non => true
  | .int _, .int _ => true | .bl _, .bl _ => true | .str _, .str _ => true | .byt _, .byt _ => true
  | .int _, .str _ => true | .str _, .int _ => true | .bl _, .str _ => true | .str _, .bl _ => true
  | _, _ => false
def rEq : R2 := fun x y H Q => scal x y = true ∧ Q (.bl (decide (x = y))) H
def rNe : R2 := fun x y H Q => scal x y = true ∧ Q (.bl (!decide (x = y))) H

theorem dec_int {i j : Int} : decide (V.int i = V.int j) = (i == j) := by
  rw [Bool.eq_iff_iff]
  simp
theorem dec_bl {i j : Bool} : decide (V.bl i = V.bl j) = (i == j) := by
  rw [Bool.eq_iff_iff]
  simp
theorem dec_str {i j : Str} : decide (V.str i = V.str j) = (i == j) := by
  rw [Bool.eq_iff_iff]
  simp
theorem dec_byt {i j : Array UInt8} : decide (V.byt i = V.byt j) = (i.toList == j.toList) := by
  rw [Bool.eq_iff_iff]
  cases i
  cases j
  simp

section
variable {X : Cx} {a b c : Expr} {ta tb tc : TE} {pos : Pos}
theorem fin_bl {pins : List (Addr × Obj)} {σ : St} {H : Hp} {s : Shared} {Q : VK} {k k' : Bool} (I : Inv X pins σ H s) (q : Q (.bl k) H) (e : k = k') : EP X pins σ Q (.bool k') s := by
  subst e
  exact ⟨.bl k, H, I, rfl, q⟩
theorem op_eq : OpR X (compareOp .Eq) rEq := by
  intro pins s σ H x y v u Q I rx ry h
  obtain ⟨hs, q⟩ := h
  cases x with
  | non =>
    cases rx
    cases y with
    | non => cases ry; exact PySem.EqNone.eq_none_none (fin_bl I q (by simp))
    | bl j => cases ry; exact PySem.EqNone.eq_none_bool (fin_bl I q (by simp))
    | int j => obtain ⟨t', rfl⟩ := ry; exact PySem.EqNone.eq_none_int (fin_bl I q (by simp))
    | str j => obtain ⟨t', rfl⟩ := ry; exact PySem.EqNone.eq_none_str (fin_bl I q (by simp))
    | _ => exact absurd (show false = true from hs) Bool.false_ne_true
  | bl i =>
    cases rx
    cases y with
    | non => cases ry; exact PySem.EqNone.eq_bool_none (fin_bl I q (by simp))
    | bl j => cases ry; exact eq_bool (fin_bl I q dec_bl)
    | str j => obtain ⟨t', rfl⟩ := ry; exact PySem.EqMixed.eq_bool_str (fin_bl I q (by simp))
    | _ => exact absurd (show false = true from hs) Bool.false_ne_true
  | int i =>
    obtain ⟨t, rfl⟩ := rx
    cases y with
    | non => cases ry; exact PySem.EqNone.eq_int_none (fin_bl I q (by simp))
    | int j => obtain ⟨t', rfl⟩ := ry; exact eq_int (fin_bl I q dec_int)
    | str j => obtain ⟨t', rfl⟩ := ry; exact PySem.EqMixed.eq_int_str (fin_bl I q (by simp))
    | _ => exact absurd (show false = true from hs) Bool.false_ne_true
  | str i =>
    obtain ⟨t, rfl⟩ := rx
    cases y with
    | non => cases ry; exact PySem.EqNone.eq_str_none (fin_bl I q (by simp))
    | bl j => cases ry; exact PySem.EqMixed.eq_str_bool (fin_bl I q (by simp))
    | int j => obtain ⟨t', rfl⟩ := ry; exact PySem.EqMixed.eq_str_int (fin_bl I q (by simp))
    | str j => obtain ⟨t', rfl⟩ := ry; exact eq_str (fin_bl I q dec_str)
    | _ => exact absurd (show false = true from hs) Bool.false_ne_true
  | byt i =>
    obtain ⟨t, rfl⟩ := rx
    cases y with
    | byt j => obtain ⟨t', rfl⟩ := ry; exact PySem.W.eq_bytes (fin_bl I q dec_byt)
    | _ => exact absurd (show false = true from hs) Bool.false_ne_true
  | _ => cases y <;> exact absurd (show false = true from hs) Bool.false_ne_true
theorem op_ne : OpR X (compareOp .NotEq) rNe := by
  intro pins s σ H x y v u Q I rx ry h
  obtain ⟨hs, q⟩ := h
  cases x with
  | non =>
    cases rx
    cases y with
    | non => cases ry; exact PySem.EqNone.ne_none_none (fin_bl I q (by simp))
    | bl j => cases ry; exact PySem.EqNone.ne_none_bool (fin_bl I q (by simp))
    | int j => obtain ⟨t', rfl⟩ := ry; exact PySem.EqNone.ne_none_int (fin_bl I q (by simp))
    | str j => obtain ⟨t', rfl⟩ := ry; exact PySem.EqNone.ne_none_str (fin_bl I q (by simp))
    | _ => exact absurd (show false = true from hs) Bool.false_ne_true
  | bl i =>
    cases rx
    cases y with
    | non => cases ry; exact PySem.EqNone.ne_bool_none (fin_bl I q (by simp))
    | bl j => cases ry; exact ne_bool (fin_bl I q (congrArg not dec_bl))
    | str j => obtain ⟨t', rfl⟩ := ry; exact PySem.EqMixed.ne_bool_str (fin_bl I q (by simp))
    | _ => exact absurd (show false = true from hs) Bool.false_ne_true
  | int i =>
    obtain ⟨t, rfl⟩ := rx
    cases y with
    | non => cases ry; exact PySem.EqNone.ne_int_none (fin_bl I q (by simp))
    | int j => obtain ⟨t', rfl⟩ := ry; exact ne_int (fin_bl I q (congrArg not dec_int))
    | str j => obtain ⟨t', rfl⟩ := ry; exact PySem.EqMixed.ne_int_str (fin_bl I q (by simp))
    | _ => exact absurd (show false = true from hs) Bool.false_ne_true
  | str i =>
    obtain ⟨t, rfl⟩ := rx
    cases y with
    | non => cases ry; exact PySem.EqNone.ne_str_none (fin_bl I q (by simp))
    | bl j => cases ry; exact PySem.EqMixed.ne_str_bool (fin_bl I q (by simp))
    | int j => obtain ⟨t', rfl⟩ := ry; exact PySem.EqMixed.ne_str_int (fin_bl I q (by simp))
    | str j => obtain ⟨t', rfl⟩ := ry; exact ne_str (fin_bl I q (congrArg not dec_str))
    | _ => exact absurd (show false = true from hs) Bool.false_ne_true
  | byt i =>
    obtain ⟨t, rfl⟩ := rx
    cases y with
    | byt j => obtain ⟨t', rfl⟩ := ry; exact PySem.W.ne_bytes (fin_bl I q (congrArg not dec_byt))
    | _ => exact absurd (show false = true from hs) Bool.false_ne_true
  | _ => cases y <;> exact absurd (show false = true from hs) Bool.false_ne_true

theorem op_lt : OpR X (compareOp .Lt) (rI0 fun i j => .bl (decide (i < j))) := opB0 fun _ _ _ _ _ _ _ q => lt_int q
theorem op_le : OpR X (compareOp .LtE) (rI0 fun i j => .bl (decide (i ≤ j))) := opB0 fun _ _ _ _ _ _ _ q => le_int q
theorem op_gt : OpR X (compareOp .Gt) (rI0 fun i j => .bl (decide (j < i))) := opB0 fun _ _ _ _ _ _ _ q => gt_int q
theorem op_ge : OpR X (compareOp .GtE) (rI0 fun i j => .bl (decide (j ≤ i))) := opB0 fun _ _ _ _ _ _ _ q => ge_int q
theorem op_in_str : OpR X (compareOp .In) (fun x y H Q => ∃ i j, x = .str i ∧ y = .str j ∧ Q (.bl (!(Builtin.Str.occurrences j i 0 j.length 1).isEmpty)) H) := by
  intro pins s σ H x y v u Q I rx ry h
  obtain ⟨i, j, rfl, rfl, q⟩ := h
  obtain ⟨t, rfl⟩ := rx
  obtain ⟨t', rfl⟩ := ry
  exact in_str (fin_bl I q rfl)



theorem OpR.or {f : Value → Value → Sem Value} {r r' : R2} (h : OpR X f r) (h' : OpR X f r') : OpR X f (fun x y H Q => r x y H Q ∨ r' x y H Q) := by
  intro pins s σ H x y v u Q I rx ry q
  rcases q with q | q
  · exact h pins s σ H x y v u Q I rx ry q
  · exact h' pins s σ H x y v u Q I rx ry q

theorem nomark (b : Expr) {op : CmpOp} (h : op ≠ .In := by decide) (h2 : op ≠ .NotIn := by decide) : behindInMarks op b = false := by
  have e1 : (op == CmpOp.In) = false := by cases op <;> first | rfl | exact absurd rfl h
  have e2 : (op == CmpOp.NotIn) = false := by cases op <;> first | rfl | exact absurd rfl h2
  cases b <;> simp [behindInMarks, e1, e2]
theorem pe_cmpR {op : CmpOp} {r : R2} (ho : OpR X (compareOp op) r) (ha : PE X a ta) (hb : PE X b tb) (hm : behindInMarks op b = false) : PE X (.Compare a [op] [b] pos) (tOp r ta tb) := by
  intro pins s σ H Q I h
  exact wpAny_Compare1 (binT ha hb I h fun v u s2 x y H2 I2 rx ry q => ho pins s2 σ H2 x y v u Q I2 rx ry q) hm
def tTest (t : TE) : TT := fun σ H Q => t σ H fun x H' => ∃ k, x = .bl k ∧ Q k H'
theorem pt_cmpR {op : CmpOp} {r : R2} (ho : OpR X (compareOp op) r) (ha : PE X a ta) (hb : PE X b tb) (hm : behindInMarks op b = false) : PT X (.Compare a [op] [b] pos) (tTest (tOp r ta tb)) := by
  intro pins s σ H Q I h
  refine wpAny_isTrue_Compare1 (thn (ha pins s σ H _ I h) fun v s1 ⟨x, H1, I1, r1, q1⟩ => thn (hb pins s1 σ H1 _ I1 q1) fun u s2 ⟨y, H2, I2, r2, q2⟩ =>
    thn (ho pins s2 σ H2 x y v u _ I2 r1 r2 q2) fun c s3 ⟨z, H3, I3, r3, k, e, q3⟩ => ?_) hm
  subst e
  cases r3
  exact wpAny_truthy_bool ⟨H3, I3, q3⟩
def tChain (r r' : R2) (ta tb tc : TE) : TE := fun σ H Q => ta σ H fun x H1 => tb σ H1 fun y H2 => r x y H2 fun z H3 => ∃ k, z = .bl k ∧
  (if k = true then tc σ H3 fun w' H4 => r' y w' H4 Q else Q (.bl false) H3)
theorem pe_chain {op op' : CmpOp} {r r' : R2} (ho : OpR X (compareOp op) r) (ho' : OpR X (compareOp op') r') (ha : PE X a ta) (hb : PE X b tb) (hc : PE X c tc)
    (hm : lastMarks [op, op'] [b, c] = false := by with_unfolding_all rfl) : PE X (.Compare a [op, op'] [b, c] pos) (tChain r r' ta tb tc) := by
  intro pins s σ H Q I h
  refine Compare_chain (thn (ha pins s σ H _ I h) fun v s1 ⟨x, H1, I1, r1, q1⟩ => chain_link (thn (hb pins s1 σ H1 _ I1 q1) fun u s2 ⟨y, H2, I2, r2, q2⟩ =>
    thn (ho pins s2 σ H2 x y v u _ I2 r1 r2 q2) fun d s3 ⟨z, H3, I3, r3, k, e, q3⟩ => ?_)) hm
  subst e
  cases r3
  refine wpAny_truthy_bool ?_
  cases k with
  | false => exact ite_ff ⟨.bl false, H3, I3, rfl, q3⟩
  | true => exact ite_tt (chain_last (thn (hc pins s3 σ H3 _ I3 q3) fun w' s4 ⟨z', H4, I4, r4, q4⟩ => ho' pins s4 σ H4 y z' u w' Q I4 r2 r4 q4))

def TruV (K : PySem.W.Frag) (x : V) (H : Hp) (k : Bool) : Prop :=
  match x with
  | .non => k = false
  | .bl b => k = b
  | .int i => k = (i != 0)
  | .str y => y.length ≤ sizeLine ∧ k = ((y.length : Int) != 0)
  | .byt y => y.size ≤ sizeLine ∧ k = ((y.size : Int) != 0)
  | .ref p => (∃ xs, SqL K H p xs ∧ k = !xs.isEmpty) ∨ (∃ xs, SqT K H p xs ∧ k = !xs.isEmpty) ∨ ∃ kvs, H p = some (.dK kvs) ∧ k = !kvs.isEmpty
  | _ => False
theorem isEmpty_kv {κ : Type} {kvs : List (κ × V)} {vs : List (κ × Value)} (r : KV kvs vs) : (!vs.isEmpty) = !kvs.isEmpty := by
  cases r <;> rfl
theorem isEmpty_of {xs : List V} {its : List Value} (r : Vals xs its) : (!its.toArray.isEmpty) = !xs.isEmpty := by
  cases r <;> simp
theorem line63 : (sizeLine : Nat) < 2 ^ 63 := by rw [sizeLine_eq]; decide
theorem tru_ok : TruR X (fun x H Q => ∃ k, TruV X.K x H k ∧ Q k H) := by
  intro pins s σ H x v Q I rx h
  obtain ⟨k, e, q⟩ := h
  have hl := line63
  have hs : sizeLine = 16777216 := sizeLine_eq
  cases x with
  | non =>
    cases rx
    have e' : k = false := e
    subst e'
    exact truthy_none ⟨H, I, q⟩
  | bl b =>
    cases rx
    have e' : k = b := e
    subst e'
    exact wpAny_truthy_bool ⟨H, I, q⟩
  | int i =>
    obtain ⟨t, rfl⟩ := rx
    have e' : k = (i != 0) := e
    subst e'
    exact PySem.P.truthy_int ⟨H, I, q⟩
  | str y =>
    obtain ⟨t, rfl⟩ := rx
    obtain ⟨hy, e'⟩ : y.length ≤ sizeLine ∧ k = ((y.length : Int) != 0) := e
    subst e'
    exact PySem.P.truthy_str (by omega) ⟨H, I.tok _, q⟩
  | byt y =>
    obtain ⟨t, rfl⟩ := rx
    obtain ⟨hy, e'⟩ : y.size ≤ sizeLine ∧ k = ((y.size : Int) != 0) := e
    subst e'
    exact PySem.W.truthy_bytes (by omega) ⟨H, I.tok _, q⟩
  | ref p =>
    cases rx
    have e' : (∃ xs, SqL X.K H p xs ∧ k = !xs.isEmpty) ∨ (∃ xs, SqT X.K H p xs ∧ k = !xs.isEmpty) ∨ ∃ kvs, H p = some (.dK kvs) ∧ k = !kvs.isEmpty := e
    rcases e' with ⟨xs, hx, e'⟩ | ⟨xs, hx, e'⟩ | ⟨kvs, hx, e'⟩
    · subst e'
      obtain ⟨its, r, pl, hz⟩ := I.list hx
      have hlen := r.length
      exact wpAny_truthy_list pl.isList (by simp only [List.size_toArray]; omega) ⟨H, I.tok _, by rw [isEmpty_of r]; exact q⟩
    · subst e'
      obtain ⟨its, r, pl, hz⟩ := I.tuple hx
      have hlen := r.length
      exact truthy_tuple pl (by simp only [List.size_toArray]; omega) ⟨H, I.tok _, by rw [isEmpty_of r]; exact q⟩
    · subst e'
      obtain ⟨hz, hS, vs, r, m⟩ : kvs.length ≤ sizeLine ∧ (p == sysModules) = false ∧ ∃ vs, KV kvs vs ∧ s.heap.DictOf (mixKind X.prog X.w) p vs := I.hok p _ hx
      have hlen : kvs.length = vs.length := Paired.length r
      exact wpAny_truthy_dict hS m (by omega) ⟨H, I.tok _, by rw [isEmpty_kv r]; exact q⟩
  | _ => exact (show False from e).elim
theorem pt_truth (ha : PE X a ta) (he : ∀ whole, isTrue a X.env whole = (do let v ← whole; standAt a.pos; holding [v] (truthy v))) :
    PT X a (fun σ H Q => ta σ H fun x H' => ∃ k, TruV X.K x H' k ∧ Q k H') := by
  intro pins s σ H Q I h
  exact isTrue_plain (thn (ha pins s σ H _ I h) fun v s1 ⟨x, H1, I1, r1, q1⟩ => tru_ok pins s1 σ H1 x v Q I1 r1 q1) (he _)

theorem op_add_str : OpR X (binaryOp .Add) (fun x y H Q => ∃ i j, x = .str i ∧ y = .str j ∧ i.length + j.length ≤ sizeLine ∧ Q (.str (i ++ j)) H) := by
  intro pins s σ H x y v u Q I rx ry h
  obtain ⟨i, j, rfl, rfl, hz, q⟩ := h
  obtain ⟨t, rfl⟩ := rx
  obtain ⟨t', rfl⟩ := ry
  exact add_str (fun t' tk => ⟨.str (i ++ j), H, I.tok _, ⟨_, rfl⟩, q⟩) hz


theorem vals1 {x : V} {us : List Value} (r : Vals [x] us) : ∃ u, us = [u] ∧ RelV x u := by
  cases r with
  | cons r1 r2 => cases r2; exact ⟨_, rfl, r1⟩
theorem vals2 {x y : V} {us : List Value} (r : Vals [x, y] us) : ∃ u w', us = [u, w'] ∧ RelV x u ∧ RelV y w' := by
  cases r with
  | cons r1 r2 =>
    cases r2 with
    | cons r3 r4 => cases r4; exact ⟨_, _, rfl, r1, r3⟩
theorem call_abs : CallR X (.builtin "abs") (fun xs H Q => ∃ i, xs = [.int i] ∧ Q (.int (if i < 0 then -i else i)) H) := by
  intro pins s σ H xs us Q I r h
  obtain ⟨i, rfl, q⟩ := h
  obtain ⟨u, rfl, t, rfl⟩ := vals1 r
  exact call_abs_int fun u tk => ⟨.int (if i < 0 then -i else i), H, I.tok _, ⟨_, rfl⟩, q⟩
theorem call_min2 (hc : X.calm = true) : CallR X (.builtin "min") (fun xs H Q => ∃ i j, xs = [.int i, .int j] ∧ Q (.int (if j < i then j else i)) H) := by
  intro pins s σ H xs us Q I r h
  obtain ⟨i, j, rfl, q⟩ := h
  obtain ⟨u, w', rfl, ⟨t, rfl⟩, ⟨t', rfl⟩⟩ := vals2 r
  refine min_two_ints (I.ok.hd hc) fun h' tk k => ⟨_, H, I.kept k, ?_, q⟩
  by_cases hj : j < i
  · rw [if_pos hj, if_pos hj]; exact ⟨_, rfl⟩
  · rw [if_neg hj, if_neg hj]; exact ⟨_, rfl⟩
end
end L2

namespace L2
open PySem PySem.Spec PyProof.Rows

structure ObjM (h : Heap) (x dx C : Addr) (mA : Str → Option Value) : Prop where
  obj : h.get? x = some (PySem.W.instObj C dx)
  ns : h.Ns1 dx mA
  ne : dx ≠ x

theorem lookIn_ns {h : Heap} {dx : Addr} {mA : Str → Option Value} (n : h.Ns1 dx mA) : ∃ od, h.get? dx = some od ∧ ∀ name, PySem.W.lookIn name od = some (mA name) := by
  obtain ⟨o, es, ep, ho, hd, hk, _, hm⟩ := n
  refine ⟨o, ho, fun name => ?_⟩
  have e := hm name
  unfold nsFind findBy at e
  rw [← Array.find?_toList] at e
  unfold PySem.W.lookIn
  rw [hd]
  dsimp only
  split
  · rename_i y q
    rw [q] at e
    exact congrArg some e
  · rename_i q
    rw [q] at e
    have a : es.toList.any (·.refKey) = false := by
      rw [List.any_eq_false]
      intro y hy
      obtain ⟨z, t, hkey⟩ := hk y (Array.mem_toList_iff.mp hy)
      simp [DictEntry.refKey, hkey]
    have a' : ¬ es.toList.any (·.refKey) = true := by rw [a]; exact Bool.false_ne_true
    rw [if_neg a']
    exact congrArg some e

theorem ObjM.look {h : Heap} {x dx C : Addr} {mA : Str → Option Value} (I : ObjM h x dx C mA) : ∃ od, PySem.W.InstAt h x (PySem.W.instObj C dx) C (some od) ∧ ∀ name, PySem.W.lookIn name od = some (mA name) :=
  let ⟨od, ho, hl⟩ := lookIn_ns I.ns
  ⟨od, ⟨I.obj, rfl, rfl, ho⟩, hl⟩

section
variable {prog : Program} {w : World} {A : Around} {E : Value → Shared → Prop} {s : Shared} {K : PySem.W.Frag} {x dx C f : Addr} {mA : Str → Option Value} {name : Str} {v : Value}

theorem get_map {expr : Bool} {Q : Value → Shared → Prop} (X : K.In s.heap) (I : ObjM s.heap x dx C mA) (hg : PySem.W.plainGet K C name = true) (hh : PySem.W.hasDictIn K C = true)
    (ha : PySem.W.findIn K (.ref C) name = some none) (hv : mA name = some v) (hv' : PySem.W.handedIn v = true) (h : Q v { s with toks := s.toks + 1 }) :
    wpAny (model prog w) A (getAttr (.ref x) name expr) Q E s := by
  obtain ⟨od, J, hl⟩ := I.look
  exact PySem.W.get_value X J (PySem.W.plainGet_of hg).1 (PySem.W.findObj_own hh ha rfl (by rw [hl, hv])) hv' h


theorem get_meth {pl : Sem Bool} {Q : Value × List Value → Shared → Prop} (X : K.In s.heap) (I : ObjM s.heap x dx C mA) (hg : PySem.W.plainGet K C name = true)
    (hf : PySem.W.findIn K (.ref C) name = some (some (.ref f))) (ht : PySem.W.isFn K (.ref f) = true) (hv : mA name = none) (h : Q (.ref f, [.ref x]) s) :
    wpAny (model prog w) A (getMethod (.ref x) name pl) Q E s := by
  obtain ⟨od, J, hl⟩ := I.look
  exact PySem.W.method_fn X J (PySem.W.plainGet_of hg).1 (PySem.W.plainGet_of hg).2 hf (beq_iff_eq.mp ht) (by show (PySem.W.lookIn name od).map (·.isSome) = some false; rw [hl, hv]; rfl) h

theorem set_map {ns : List Str} {Q : Unit → Shared → Prop} (X : K.In s.heap) (I : ObjM s.heap x dx C mA)
    (hs : PySem.W.findIn K (.ref C) "__setattr__" = some (some (.builtin "object.__setattr__"))) (hp : PySem.W.plainOver K C = true) (ht : PySem.W.takerIn K C name = some none) (hh : PySem.W.hasDictIn K C = true)
    (hw : PySem.Within mA ns) (hsz : ns.length ≤ sizeLine)
    (h : ∀ h', ObjM h' x dx C (fun y => if y = name then some v else mA y) → Heap.SameBut dx s.heap h' → Q () { s with heap := h', toks := s.toks + 2 }) :
    wpAny (model prog w) A (setAttr (.ref x) name v) Q E s := by
  obtain ⟨od, J, hl⟩ := I.look
  refine PySem.W.set_plain X J hs (PySem.W.osa_open (s := { s with toks := s.toks + 1 }) (r := none) X J hp ht fun b => ?_)
  obtain ⟨cd, hc, hd'⟩ := PySem.W.any_some hh
  have hx : s.heap.get? x = some ⟨.ref C, some dx, .plain, #[]⟩ := I.obj
  refine wpAny_bind (wpAny_pure (wpAny_bind (wpAny_bind (wpAny_loadPart hx (wpAny_bind (PySem.W.Looks.here (s := { s with toks := s.toks + 1 }) (PySem.W.looks_clsIn X hc) ?_))))))
  rw [hd']
  refine wpAny_pure (a := some dx) (wpAny_bind (wpAny_pure (wpAny_bind ?_)))
  refine wpAny_nsSet1 (s := { s with toks := s.toks + 1 }) I.ns fun h' hn2 hs2 => ?_
  obtain ⟨oD, esD, epD, hoD, hdD, hcD⟩ := hn2.count (PySem.Within.cons name v hw)
  refine wpAny_bind (wpAny_lookBehind hoD (by rw [hdD]; exact pastItsLine_dict (Nat.le_trans hcD (by rw [List.length_cons]; omega))) ?_)
  exact wpAny_pure (h _ ⟨(hs2.2 _ (Ne.symm I.ne)).trans I.obj, hn2, I.ne⟩ hs2)

theorem make_map {R : Result → Shared → Prop} {vs : List Value} {kw : List (Str × Value)} (X : K.In s.heap) (hm : PySem.W.makesIn K C = true)
    (hi : PySem.W.findIn K (.ref C) "__init__" = some (some (.ref f))) (hf : PySem.W.typeIn K (.ref f) = some (.type "function"))
    (h : codeAny (model prog w) (A.under (.builtin "type.__call__" ⟨.ref C :: vs, kw⟩)) (.call (.ref f) ⟨.ref (s.heap.objs.size + 1) :: vs, kw⟩) (PySem.W.InitBack (s.heap.objs.size + 1) R)
      { s with heap := (s.heap.push PySem.W.emptyDict).push (PySem.W.instObj C s.heap.objs.size) }) :
    codeAny (model prog w) A (.call (.ref C) ⟨vs, kw⟩) R s := by
  obtain ⟨hh, g, d, t, os⟩ := s
  exact PySem.W.make_core (PySem.W.makes_of X hm) (PySem.W.looks_findIn X hi) (fun self => PySem.W.bind_fn X self hf) (.inl rfl) h
end

def putF (f : Str) (v : V) : List (Str × V) → List (Str × V)
  | [] => [(f, v)]
  | (g, x) :: r => if g = f then (g, v) :: r else (g, x) :: putF f v r
theorem lookup_putF (f g : Str) (v : V) : ∀ fs : List (Str × V), (putF f v fs).lookup g = if g = f then some v else fs.lookup g
  | [] => by
    show List.lookup g [(f, v)] = _
    by_cases h : g = f
    · have hb : (g == f) = true := beq_iff_eq.mpr h
      simp only [List.lookup, hb, if_pos h]
    · have hb : (g == f) = false := beq_eq_false_iff_ne.mpr h
      simp only [List.lookup, hb, if_neg h]
  | (k, x) :: r => by
    have ih := lookup_putF f g v r
    rw [show putF f v ((k, x) :: r) = (if k = f then (k, v) :: r else (k, x) :: putF f v r) from rfl]
    by_cases hk : k = f
    · rw [if_pos hk]
      by_cases h : g = k
      · have hb : (g == k) = true := beq_iff_eq.mpr h
        simp only [List.lookup, hb, if_pos (h.trans hk)]
      · have hb : (g == k) = false := beq_eq_false_iff_ne.mpr h
        simp only [List.lookup, hb, if_neg (fun e : g = f => h (e.trans hk.symm))]
    · rw [if_neg hk]
      by_cases h : g = k
      · have hb : (g == k) = true := beq_iff_eq.mpr h
        simp only [List.lookup, hb, if_neg (fun e : g = f => hk (h.symm.trans e))]
      · have hb : (g == k) = false := beq_eq_false_iff_ne.mpr h
        simp only [List.lookup, hb]
        exact ih
theorem keys_putF (f : Str) (v : V) : ∀ fs : List (Str × V), f ∈ (putF f v fs).map (·.1) ∧ ∀ g, g ∈ fs.map (·.1) → g ∈ (putF f v fs).map (·.1)
  | [] => ⟨by simp [putF], fun g h => by simp at h⟩
  | (k, x) :: r => by
    obtain ⟨i1, i2⟩ := keys_putF f v r
    rw [show putF f v ((k, x) :: r) = (if k = f then (k, v) :: r else (k, x) :: putF f v r) from rfl]
    by_cases hk : k = f
    · rw [if_pos hk]
      subst hk
      exact ⟨by simp, fun g h => by simpa using h⟩
    · rw [if_neg hk]
      refine ⟨?_, fun g h => ?_⟩
      · rw [List.map_cons]
        exact List.mem_cons_of_mem _ i1
      · rw [List.map_cons] at h ⊢
        rcases List.mem_cons.mp h with e | e
        · exact List.mem_cons.mpr (.inl e)
        · exact List.mem_cons_of_mem _ (i2 g e)
theorem length_putF (f : Str) (v : V) : ∀ fs : List (Str × V), (putF f v fs).length ≤ fs.length + 1
  | [] => by simp [putF]
  | (k, x) :: r => by
    have ih := length_putF f v r
    rw [show putF f v ((k, x) :: r) = (if k = f then (k, v) :: r else (k, x) :: putF f v r) from rfl]
    by_cases hk : k = f
    · rw [if_pos hk, List.length_cons, List.length_cons]; omega
    · rw [if_neg hk, List.length_cons, List.length_cons]; omega

theorem RelO.some_of {v : V} {o : Option Value} (r : RelO (some v) o) : ∃ u, o = some u ∧ RelV v u := by
  cases o with
  | none => exact (show False from r).elim
  | some u => exact ⟨u, rfl, r⟩
theorem RelO.none_of {o : Option Value} (r : RelO none o) : o = none := by
  cases o with
  | none => rfl
  | some u => exact (show False from r).elim
theorem handed_of {v : V} {u : Value} (r : RelV v u) : PySem.W.handedIn u = true := by
  cases v with
  | non => cases (show u = Value.none from r); rfl
  | bl b => cases (show u = Value.bool b from r); rfl
  | int i => obtain ⟨t, e⟩ := (show ∃ t, u = Value.int i t from r); cases e; rfl
  | str x => obtain ⟨t, e⟩ := (show ∃ t, u = Value.str x t from r); cases e; rfl
  | byt b => obtain ⟨t, e⟩ := (show ∃ t, u = Value.bytes b t from r); cases e; rfl
  | flt b => obtain ⟨t, e⟩ := (show ∃ t, u = Value.float b t from r); cases e; rfl
  | ref a => cases (show u = Value.ref a from r); rfl
  | ty n => cases (show u = Value.type n from r); rfl

section
variable {P : Program} {w : World} {H H' : Hp} {h h' : Heap} {a C dx : Addr} {fs fs' : List (Str × V)}
theorem ins_get (hok : HOk P w H h) (e : H a = some (.ins C dx fs)) : ∃ mA, ObjM h a dx C mA ∧ (∀ f, RelO (fs.lookup f) (mA f)) ∧ PySem.Within mA (fs.map (·.1)) ∧ fs.length ≤ 1000 ∧ H dx = some (.own a) := by
  obtain ⟨d, z, ne, ob, mA, n, r, q⟩ := (show ObjOk P w H h a (.ins C dx fs) from hok a _ e)
  exact ⟨mA, ⟨ob, n, ne⟩, r, q, z, d⟩
end

structure Cls (K : PySem.W.Frag) (C : Addr) : Prop where
  pg : PySem.W.plainGet K C Str.empty = true
  hd : PySem.W.hasDictIn K C = true
  po : PySem.W.plainOver K C = true
  sa : PySem.W.findIn K (.ref C) "__setattr__" = some (some (.builtin "object.__setattr__"))
theorem Cls.get {K : PySem.W.Frag} {C : Addr} (c : Cls K C) (f : Str) : PySem.W.plainGet K C f = true := c.pg
def NoAttr (K : PySem.W.Frag) (C : Addr) (f : Str) : Prop := PySem.W.findIn K (.ref C) f = some none
theorem NoAttr.taker {K : PySem.W.Frag} {C : Addr} {f : Str} (n : NoAttr K C f) : PySem.W.takerIn K C f = some none := by
  unfold PySem.W.takerIn
  rw [show PySem.W.findIn K (.ref C) f = some none from n]
  rfl
structure Con (K : PySem.W.Frag) (C : Addr) (f : Str) (v : V) (u : Value) : Prop where
  at_ : PySem.W.findIn K (.ref C) f = some (some u)
  rel : RelV v u
  get : PySem.W.specialIn K u "__get__" = some none
  cp : PySem.W.copiedNames.contains f = false
structure Meth (K : PySem.W.Frag) (C : Addr) (m : Str) (f : Addr) : Prop where
  at_ : PySem.W.findIn K (.ref C) m = some (some (.ref f))
  fn : PySem.W.isFn K (.ref f) = true
  kp : PySem.W.keepIn K (.ref f) = true

section
variable {X : Cx} {pins : List (Addr × Obj)} {σ : St} {H : Hp} {s : Shared} {a C dx : Addr} {fs : List (Str × V)} {f : Str} {v : V} {A : Around} {E : Value → Shared → Prop}

theorem getattr_ok {b : Bool} {Q : Value → Shared → Prop} (I : Inv X pins σ H s) (e : H a = some (.ins C dx fs)) (c : Cls X.K C) (n : NoAttr X.K C f) (l : fs.lookup f = some v)
    (h : ∀ u s', Inw X pins σ H s' → RelV v u → Q u s') : wpAny (model X.prog X.w) A (getAttr (.ref a) f b) Q E s := by
  obtain ⟨mA, O, r, _, _, _⟩ := ins_get I.hok e
  obtain ⟨u, hu, ru⟩ := RelO.some_of (v := v) (o := mA f) (by rw [← l]; exact r f)
  exact get_map I.kIn O (c.get f) c.hd n hu (handed_of ru) (h u _ (I.tok _) ru)


theorem getmeth_ok {m : Str} {g : Addr} {pl : Sem Bool} {Q : Value × List Value → Shared → Prop} (I : Inv X pins σ H s) (e : H a = some (.ins C dx fs)) (c : Cls X.K C) (k : Meth X.K C m g) (l : fs.lookup m = none)
    (h : Q (.ref g, [.ref a]) s) : wpAny (model X.prog X.w) A (getMethod (.ref a) m pl) Q E s := by
  obtain ⟨mA, O, r, _, _, _⟩ := ins_get I.hok e
  have hn : mA m = none := RelO.none_of (by rw [← l]; exact r m)
  exact get_meth I.kIn O (c.get m) k.at_ k.fn hn h

theorem setattr_ok {y : V} {u : Value} {Q : Unit → Shared → Prop} (I : Inv X pins σ H s) (e : H a = some (.ins C dx fs)) (c : Cls X.K C) (n : NoAttr X.K C f) (hl : fs.length < 1000) (ry : RelV y u)
    (h : ∀ s', Inw X pins σ (upd H a (.ins C dx (putF f y fs))) s' → Q () s') : wpAny (model X.prog X.w) A (setAttr (.ref a) f u) Q E s := by
  obtain ⟨mA, O, r, wi, _, ho⟩ := ins_get I.hok e
  have hz : (fs.map (·.1)).length ≤ sizeLine := by rw [List.length_map, sizeLine_eq]; omega
  refine set_map I.kIn O c.sa c.po n.taker c.hd wi hz fun h' O' sb => h _ ?_
  have hd : ∃ o, h'.get? dx = some o := let ⟨o, _, _, e', _⟩ := O'.ns; ⟨o, e'⟩
  refine I.write (x := a) (e := dx) (by rw [e]; exact True.intro) (.inr ho) (fun b q hb z => (sb.2 b hb).trans z) hd ?_
  refine ⟨by rw [upd_ne O.ne]; exact ho, ?_, O.ne, O'.obj, _, O'.ns, fun g => ?_, fun g hg => ?_⟩
  · have := length_putF f y fs; omega
  · show RelO ((putF f y fs).lookup g) (if g = f then some u else mA g)
    rw [lookup_putF]
    by_cases q : g = f
    · rw [if_pos q, if_pos q]; exact ry
    · rw [if_neg q, if_neg q]; exact r g
  · by_cases q : g = f
    · rw [q]; exact (keys_putF f y fs).1
    · refine (keys_putF f y fs).2 g (wi g fun z => hg ?_)
      show (if g = f then some u else mA g) = none
      rw [if_neg q]; exact z

theorem Inw.made (I : Inw X pins σ H s) : Inw X pins σ (upd (upd H s.heap.objs.size (.own (s.heap.objs.size + 1))) (s.heap.objs.size + 1) (.ins C s.heap.objs.size []))
    { s with heap := (s.heap.push PySem.W.emptyDict).push (PySem.W.instObj C s.heap.objs.size) } := by
  have e1 : (s.heap.push PySem.W.emptyDict).get? s.heap.objs.size = some PySem.W.emptyDict := Heap.get?_push_size s.heap rfl
  have e2 : ((s.heap.push PySem.W.emptyDict).push (PySem.W.instObj C s.heap.objs.size)).get? (s.heap.objs.size + 1) = some (PySem.W.instObj C s.heap.objs.size) := by
    have := Heap.get?_push_size (s.heap.push PySem.W.emptyDict) (o := PySem.W.instObj C s.heap.objs.size) rfl
    rwa [Heap.size_push] at this
  have e3 : (s.heap.push PySem.W.emptyDict).Ns s.heap.objs.size (fun _ => none) := ⟨PySem.W.emptyDict, #[], _, e1, rfl, (fun e he => absurd he (by simp)), fun _ => rfl⟩
  have I1 := I.laid (a := s.heap.objs.size) (o := .own (s.heap.objs.size + 1)) (h' := s.heap.push PySem.W.emptyDict) (t' := s.toks) (fun b u q => Heap.get?_push_of_some _ q) (Nat.le_refl _) ⟨_, e1⟩
  refine I1.laid (a := s.heap.objs.size + 1) (o := .ins C s.heap.objs.size []) (t' := s.toks) (fun b u q => Heap.get?_push_of_some _ q) (Nat.le_of_eq (Heap.size_push _ _)) ?_
  have ne : s.heap.objs.size ≠ s.heap.objs.size + 1 := Nat.ne_of_lt (Nat.lt_succ_self _)
  refine ⟨by rw [upd_ne ne, upd_same], Nat.zero_le _, ne, e2, fun _ => none, (Heap.Ns1.of_empty e3).at fun o q => Heap.get?_push_of_some _ q, fun _ => True.intro, fun y hy => absurd rfl hy⟩

theorem attr_of {prog : Program} {w : World} {env : Env} {e : Expr} {f : Str} {pos : Pos} {s : Shared} {Q : Value → Shared → Prop} (hb : attributeBase e f env (eval e env) = eval e env)
    (h : wpAny (model prog w) A (eval e env) (fun o s₁ => wpAny (model prog w) A (getAttr o f true) Q E s₁) E s) : wpAny (model prog w) A (eval (.Attribute e f pos) env) Q E s :=
  Attribute_any_ h (by rw [arm_eval_Attribute, hb])
end

def tFld (K : PySem.W.Frag) (ta : TE) (f : Str) : TE := fun σ H Q => ta σ H fun x H1 => ∃ a C dx fs v, x = .ref a ∧ H1 a = some (.ins C dx fs) ∧ Cls K C ∧ NoAttr K C f ∧ fs.lookup f = some v ∧ Q v H1
def sFld (K : PySem.W.Frag) (ta tv : TE) (f : Str) : TS := fun D σ H => tv σ H fun y H1 => ta σ H1 fun x H2 => ∃ a C dx fs, x = .ref a ∧ H2 a = some (.ins C dx fs) ∧ Cls K C ∧ NoAttr K C f ∧ fs.length < 1000 ∧
  D.nx σ (upd H2 a (.ins C dx (putF f y fs)))

section
variable {X : Cx} {o e value : Expr} {f : Str} {pos pos' tpos : Pos} {ta tv : TE}
theorem pe_fld (he : PE X e ta) (hb : attributeBase e f X.env (eval e X.env) = eval e X.env) : PE X (.Attribute e f pos) (tFld X.K ta f) := by
  intro pins s σ H Q I h
  refine attr_of hb (thn (he pins s σ H _ I h) fun u s1 ⟨x, H1, I1, rx, a, C, dx, fs, v, ex, ea, c, n, l, q⟩ => ?_)
  subst ex
  obtain rfl : u = Value.ref a := rx
  exact getattr_ok I1 ea c n l fun u' s2 I2 ru => ⟨v, H1, I2, ru, q⟩
theorem ps_fld (ha : PE X o ta) (hv : PE X value tv) (hs : swapsWith value (some (.Attribute o f pos')) pos.line X.env = pure false) : PS X (.Assign [.Attribute o f pos'] value pos) (sFld X.K ta tv f) := by
  intro pins s σ H D I h
  refine plainObj_wpAny_Assign_Attribute (thn (hv pins s σ H _ I h) fun u s1 ⟨y, H1, I1, ry, q⟩ => thn (ha pins s1 σ H1 _ I1 q) fun ov s2 ⟨x, H2, I2, rx, a, C, dx, fs, ex, ea, c, n, l, q2⟩ => ?_) hs
  subst ex
  obtain rfl : ov = Value.ref a := rx
  exact setattr_ok I2 ea c n l ry fun s3 I3 => ⟨σ, _, I3, q2⟩

end

section
variable {X : Cx} {pins : List (Addr × Obj)} {σ : St} {H : Hp} {s : Shared} {A : Around} {E : Value → Shared → Prop} {Q : Value → Shared → Prop} {c : Value} {b : Bool}
inductive TyOf (K : PySem.W.Frag) (H : Hp) : V → Value → Prop where
  | non : TyOf K H .non (.type "NoneType")
  | bl (x : Bool) : TyOf K H (.bl x) (.type "bool")
  | int (i : Int) : TyOf K H (.int i) (.type "int")
  | str (x : Str) : TyOf K H (.str x) (.type "str")
  | flt (x : UInt64) : TyOf K H (.flt x) (.type "float")
  | lst {a : Addr} {xs : List V} (e : H a = some (.lst xs)) : TyOf K H (.ref a) (.type "list")
  | frz {a : Addr} {o : Obj} {xs : List V} (e : H a = some (.frz o (.lst xs))) : TyOf K H (.ref a) (.type "list")
  | tup {a : Addr} {xs : List V} (e : H a = some (.tup xs)) : TyOf K H (.ref a) (.type "tuple")
  | dK {a : Addr} {kvs : List (Key × V)} (e : H a = some (.dK kvs)) : TyOf K H (.ref a) (.type "dict")
  | dT {a : Addr} {kvs : List (List Key × V)} (e : H a = some (.dT kvs)) : TyOf K H (.ref a) (.type "dict")
  | ins {a C dx : Addr} {fs : List (Str × V)} (e : H a = some (.ins C dx fs)) (cl : Cls K C) (ha : PySem.W.findIn K (.ref C) "__class__" = some (some (.builtin "object.__class__")))
      (hn : PySem.W.specialIn K (.builtin "object.__class__") "__get__" = some (some (.builtin "getset_descriptor.__get__"))) (htk : PySem.W.takesIn K (.builtin "object.__class__") = some true)
      (hm : PySem.W.mroIn K C (.type "object") = some true) : TyOf K H (.ref a) (.ref C)
theorem isinst_ok {x : V} {u t : Value} (I : Inv X pins σ H s) (rx : RelV x u) (ty : TyOf X.K H x t) (e : PySem.W.kitOne X.K t c = some b) (h : ∀ tk, Q (.bool b) { s with toks := tk }) :
    wpAny (model X.prog X.w) A (call (.builtin "isinstance") [u, c]) Q E s := by
  cases ty with
  | non => cases (show u = Value.none from rx); exact PySem.W.kia_one PySem.W.kitx_none I.kIn True.intro e (fun z => nomatch z) h
  | bl y => cases (show u = Value.bool y from rx); exact PySem.W.kia_one PySem.W.kitx_bool I.kIn True.intro e (fun z => nomatch z) h
  | int i => obtain ⟨t, q⟩ := (show ∃ t, u = Value.int i t from rx); cases q; exact PySem.W.kia_one PySem.W.kitx_int I.kIn True.intro e (fun z => nomatch z) h
  | str y => obtain ⟨t, q⟩ := (show ∃ t, u = Value.str y t from rx); cases q; exact PySem.W.kia_one PySem.W.kitx_str I.kIn True.intro e (fun z => nomatch z) h
  | flt y => obtain ⟨t, q⟩ := (show ∃ t, u = Value.float y t from rx); cases q; exact PySem.W.kia_one PySem.W.kitx_float I.kIn True.intro e (fun z => nomatch z) h
  | @lst a xs ea =>
    cases (show u = Value.ref a from rx)
    obtain ⟨_, _, n, _, h1⟩ := (show ObjOk X.prog X.w H s.heap a (.lst xs) from I.hok a _ ea)
    exact PySem.W.kia_one PySem.W.kitx_list I.kIn ⟨_, h1, rfl⟩ e (fun z => nomatch z) h
  | @frz a ob xs ea =>
    cases (show u = Value.ref a from rx)
    obtain ⟨_, _, _, n, _, h1⟩ := (show ObjOk X.prog X.w H s.heap a (.frz ob (.lst xs)) from I.hok a _ ea)
    exact PySem.W.kia_one PySem.W.kitx_list I.kIn ⟨_, h1, rfl⟩ e (fun z => nomatch z) h
  | @tup a xs ea =>
    cases (show u = Value.ref a from rx)
    obtain ⟨_, _, _, p⟩ := (show ObjOk X.prog X.w H s.heap a (.tup xs) from I.hok a _ ea)
    obtain ⟨o, h1, h2, _⟩ := p
    exact PySem.W.kia_one PySem.W.kitx_tuple I.kIn ⟨o, h1, h2⟩ e (fun z => nomatch z) h
  | @dK a kvs ea =>
    cases (show u = Value.ref a from rx)
    obtain ⟨_, _, vs, _, p⟩ := (show ObjOk X.prog X.w H s.heap a (.dK kvs) from I.hok a _ ea)
    obtain ⟨o, es, ep, h1, h2, _⟩ := p
    exact PySem.W.kia_one PySem.W.kitx_dict I.kIn ⟨o, h1, h2.1⟩ e (fun z => nomatch z) h
  | @dT a kvs ea =>
    cases (show u = Value.ref a from rx)
    obtain ⟨_, _, xs, _, o, es, ep, h1, h2, _⟩ := (show ObjOk X.prog X.w H s.heap a (.dT kvs) from I.hok a _ ea)
    exact PySem.W.kia_one PySem.W.kitx_dict I.kIn ⟨o, h1, h2.1⟩ e (fun z => nomatch z) h
  | @ins a C dx fs ea cl ha hn htk hm =>
    cases (show u = Value.ref a from rx)
    obtain ⟨mA, O, _⟩ := ins_get I.hok ea
    obtain ⟨od, J, _⟩ := O.look
    exact PySem.W.kia_one (PySem.W.kitx_own (cl.get _) cl.hd ha hn htk hm) I.kIn J e (fun z => nomatch z) h
end
end L2

namespace L2
open PySem PySem.Spec PyProof.Rows

structure Room (k : Nat) (A : Around) : Prop where
  hd : A.handled = none
  dp : A.depth + 3 * k + 5 < recursionLimit
  un : A.units + 16 * k + 200 < cLine
theorem Room.mono {j k : Nat} {A : Around} (r : Room k A) (h : j ≤ k) : Room j A := ⟨r.hd, by have := r.dp; omega, by have := r.un; omega⟩
theorem Room.deeper {k : Nat} {A : Around} (r : Room (k + 1) A) (env : Env) : Room k (A.deeper env) :=
  ⟨r.hd, by have := r.dp; show A.depth + 1 + 3 * k + 5 < _; omega, by have := r.un; show A.units + 3 + 16 * k + 200 < _; omega⟩
theorem Room.in1 {k : Nat} {A : Around} (r : Room (k + 1) A) : Room k A.in1 :=
  ⟨r.hd, by have := r.dp; show A.depth + 3 * k + 5 < _; omega, by have := r.un; show A.units + 1 + 16 * k + 200 < _; omega⟩
theorem make_depth {A : Around} {C : Addr} {us : List Value} {kw : List (Str × Value)} : (A.under (.builtin "type.__call__" ⟨.ref C :: us, kw⟩)).depth = A.depth + 1 := by
  first | rfl | simp [Around.under, Code.weight, Code.isCreation, Code.isGuard, Code.isCaller, Code.frames, Code.isFrame, guardIds]
theorem make_units {A : Around} {C : Addr} {us : List Value} {kw : List (Str × Value)} : (A.under (.builtin "type.__call__" ⟨.ref C :: us, kw⟩)).units = A.units + 1 := by
  first | rfl | simp [Around.under, Code.cUnits, Code.frames, Code.isFrame]
theorem Room.make {k : Nat} {A : Around} (r : Room (k + 1) A) (C : Addr) (us : List Value) (kw : List (Str × Value)) : Room k (A.under (.builtin "type.__call__" ⟨.ref C :: us, kw⟩)) :=
  ⟨r.hd, by have := r.dp; rw [make_depth]; omega, by have := r.un; rw [make_units]; omega⟩
theorem Room.depth {k : Nat} {A : Around} (r : Room k A) : A.depth < recursionLimit := by have := r.dp; omega
theorem Room.units {k : Nat} {A : Around} (r : Room k A) : A.units + 64 < cLine := by have := r.un; omega

def tNil : TA := fun _ H Q => Q [] H
def tCons (ta : TE) (tr : TA) : TA := fun σ H Q => ta σ H fun x H1 => tr σ H1 fun xs H2 => Q (x :: xs) H2
section
variable {X : Cx} {e : Expr} {es : List Expr} {te : TE} {t : TA} {pos : Pos}
theorem pa_nil : PA X [] tNil := fun _ _ _ _ H Q I h => Calls.spliced_nil ⟨[], H, I, .nil, h⟩
theorem pa_cons (ha : PE X e te) (hr : PA X es t) (hs : starEach (e :: es) X.env = (false, eval e X.env) :: starEach es X.env := by rfl) : PA X (e :: es) (tCons te t) := by
  intro pos pins s σ H Q I h
  rw [hs]
  show wpAny _ _ (spliced ((false, eval e X.env) :: backTo pos (starEach es X.env))) _ _ s
  refine Calls.spliced_cons (thn (ha pins s σ H _ I h) fun u s1 ⟨x, H1, I1, r1, q1⟩ => ?_)
  exact thn (hr pos pins s1 σ H1 _ I1 q1) fun us s2 ⟨xs, H2, I2, r2, q2⟩ => ⟨x :: xs, H2, I2, .cons r1 r2, q2⟩

def tTup (t : TA) : TE := fun σ H Q => t σ H fun xs H1 => xs.length ≤ sizeLine ∧ ∀ p, H1 p = none → Q (.ref p) (upd H1 p (.tup xs))
def tLst (t : TA) : TE := fun σ H Q => t σ H fun xs H1 => xs.length ≤ sizeLine ∧ ∀ p, H1 p = none → Q (.ref p) (upd H1 p (.lst xs))
theorem pe_tup {x1} (h : PA X es t) : PE X (.Tuple es x1 pos) (tTup t) := by
  intro pins s σ H Q I hq
  refine wpAny_Tuple_spliced (thn (h pos pins s σ H _ I hq) fun us s1 ⟨xs, H1, I1, r, z, q⟩ => ⟨by rw [← r.length]; exact z, ?_⟩)
  have hf : H1 s1.heap.objs.size = none := I1.hok.fresh (Nat.le_refl _)
  refine ⟨.ref s1.heap.objs.size, upd H1 s1.heap.objs.size (.tup xs), I1.laid (t' := s1.toks) (fun b u e => Heap.get?_push_of_some _ e) (Nat.le_refl _) ?_, rfl, q _ hf⟩
  exact ⟨z, us, r, ⟨_, Heap.get?_push_size _ rfl, rfl, _, rfl⟩⟩
theorem pe_lst (h : PA X es t) : PE X (.List es pos) (tLst t) := by
  intro pins s σ H Q I hq
  refine wpAny_List_spliced (thn (h pos pins s σ H _ I hq) fun us s1 ⟨xs, H1, I1, r, z, q⟩ => ⟨by rw [← r.length]; exact z, ?_⟩)
  have hf : H1 s1.heap.objs.size = none := I1.hok.fresh (Nat.le_refl _)
  refine ⟨.ref s1.heap.objs.size, upd H1 s1.heap.objs.size (.lst xs), I1.laid (t' := s1.toks) (fun b u e => Heap.get?_push_of_some _ e) (Nat.le_refl _) ?_, rfl, q _ hf⟩
  exact ⟨z, us, 0, r, Heap.get?_push_size _ rfl⟩
end

abbrev Sp := List V → Hp → VK → XK → Prop
abbrev CXT := List Env → Hp → Shared → XK → Value → Shared → Prop

structure Env0w (P : Program) (w : World) (K : PySem.W.Frag) (mg : Str → Option Value) (base : Heap) (A : Around) (outer : List Env) (s : Shared) (H : Hp) : Prop where
  frames : A.frames = some outer
  mod : Mod K mg base
  bs : ∀ b o, base.get? b = some o → s.heap.get? b = some o ∧ H b = none
  bsz : base.objs.size ≤ s.heap.objs.size
  funs : s.heap.FunFrames base outer
  frf : ∀ b ∈ frs outer, H b = none
  hok : HOk P w H s.heap
  bare : AllBare s.gens
structure Env0 (P : Program) (w : World) (K : PySem.W.Frag) (mg : Str → Option Value) (base : Heap) (A : Around) (outer : List Env) (s : Shared) (H : Hp) : Prop extends Env0w P w K mg base A outer s H where
  pos : 0 < s.toks
def CE (outer : List Env) (P : Program) (w : World) (H : Hp) (s : Shared) (Q : VK) (u : Value) (s' : Shared) : Prop :=
  ∃ v H', s'.os = s.os ∧ AllBare s'.gens ∧ Un (frs outer) [] H H' s.heap s'.heap ∧ HOk P w H' s'.heap ∧ RelV v u ∧ Q v H'
def CR (CX : CXT) (outer : List Env) (P : Program) (w : World) (H : Hp) (s : Shared) (Q : VK) (E : XK) (r : Result) (s' : Shared) : Prop :=
  match r with
  | .ok (.ret u) => CE outer P w H s Q u s'
  | .ok _ => False
  | .error e => CX outer H s E e s'
structure FnOk (P : Program) (w : World) (K : PySem.W.Frag) (mg : Str → Option Value) (base : Heap) (CX : CXT) (k : Nat) (f : Addr) (fd : FuncData) (ps : List Str) (sp : Sp) : Prop where
  len : ∀ vs H Q E, sp vs H Q E → vs.length = ps.length
  run : ∀ (A : Around) (outer : List Env) (s : Shared) (H : Hp) (args : Args) (us : List Value) (vs : List V) (Q : VK) (E : XK), Room k A → Env0 P w K mg base A outer s H → BindsTo s fd args (ps.zip us) → Vals vs us → sp vs H Q E →
    codeAny (model P w) A (.call (.ref f) args) (CR CX outer P w H s Q E) s
structure FnOkL (P : Program) (w : World) (K : PySem.W.Frag) (mg : Str → Option Value) (base : Heap) (CX : CXT) (k : Nat) (f : Addr) (fd : FuncData) (ps : List Str) (sp : Sp) : Prop where
  len : ∀ vs H Q E, sp vs H Q E → vs.length = ps.length
  run : ∀ (A : Around) (outer : List Env) (s : Shared) (H : Hp) (args : Args) (us : List Value) (vs : List V) (Q : VK) (E : XK), Room k A → Env0w P w K mg base A outer s H → BindsTo s fd args (ps.zip us) → Vals vs us → sp vs H Q E →
    codeAny (model P w) A (.call (.ref f) args) (CR CX outer P w H s Q E) s
theorem FnOk.mono {P : Program} {w : World} {K : PySem.W.Frag} {mg : Str → Option Value} {base : Heap} {CX : CXT} {j k : Nat} {f : Addr} {fd : FuncData} {ps : List Str} {sp : Sp} (F : FnOk P w K mg base CX j f fd ps sp) (h : j ≤ k) :
    FnOk P w K mg base CX k f fd ps sp := ⟨F.len, fun A outer s H args us vs Q E hr => F.run A outer s H args us vs Q E (hr.mono h)⟩
theorem FnOk.imp {P : Program} {w : World} {K : PySem.W.Frag} {mg : Str → Option Value} {base : Heap} {CX : CXT} {k : Nat} {f : Addr} {fd : FuncData} {ps : List Str} {sp sp' : Sp} (F : FnOk P w K mg base CX k f fd ps sp)
    (h : ∀ vs H Q E, sp' vs H Q E → sp vs H Q E) : FnOk P w K mg base CX k f fd ps sp' :=
  ⟨fun vs H Q E q => F.len vs H Q E (h _ _ _ _ q), fun A outer s H args us vs Q E hr he hb hv hs => F.run A outer s H args us vs Q E hr he hb hv (h _ _ _ _ hs)⟩

theorem Env0.make {P : Program} {w : World} {K : PySem.W.Frag} {mg : Str → Option Value} {base : Heap} {A : Around} {outer : List Env} {s : Shared} {H : Hp} (e : Env0 P w K mg base A outer s H) (C : Addr) (us : List Value) (kw : List (Str × Value)) :
    Env0 P w K mg base (A.under (.builtin "type.__call__" ⟨.ref C :: us, kw⟩)) outer s H := ⟨⟨by first | exact e.frames | (simpa [Around.under, Code.envs, Code.isFrame, pushEnvs] using e.frames), e.mod, e.bs, e.bsz, e.funs, e.frf, e.hok, e.bare⟩, e.pos⟩
theorem Env0.in1 {P : Program} {w : World} {K : PySem.W.Frag} {mg : Str → Option Value} {base : Heap} {A : Around} {outer : List Env} {s : Shared} {H : Hp} (e : Env0 P w K mg base A outer s H) :
    Env0 P w K mg base A.in1 outer s H := ⟨⟨e.frames, e.mod, e.bs, e.bsz, e.funs, e.frf, e.hok, e.bare⟩, e.pos⟩

section
variable {X : Cx} {pins : List (Addr × Obj)} {σ : St} {H : Hp} {s s' : Shared}
theorem Inv.env0 (I : Inv X pins σ H s) : Env0 X.prog X.w X.K X.mg X.base X.A X.stack s H :=
  ⟨⟨I.ok.frames, I.ok.mod, I.bs, Nat.le_trans I.ok.bsz I.sz, I.stack, I.stkFree, I.hok, I.bare⟩, I.pos⟩
theorem Inw.after {Q : VK} {u : Value} (I : Inw X pins σ H s) (h : CE X.stack X.prog X.w H s Q u s') : EP X pins σ Q u s' := by
  obtain ⟨v, H', os, bare, un, hok, r, q⟩ := h
  obtain ⟨hh, g, d, t, os'⟩ := s'
  obtain rfl : os' = s.os := os
  exact ⟨v, H', I.call (h' := hh) (g' := g) (d' := d) (t' := t) (ch := []) un hok bare (fun b z => absurd z (by simp)), r, q⟩
end

def tCall (sp : Sp) (dvs : List V) (E : XK) (t : TA) : TE := fun σ H Q => t σ H fun vs H1 => sp (vs ++ dvs) H1 Q E
def tMeth (C : Addr) (m : Str) (sp : Sp) (dvs : List V) (E : XK) (ta : TE) (t : TA) : TE := fun σ H Q => ta σ H fun x H1 => ∃ a dx fs, x = .ref a ∧ H1 a = some (.ins C dx fs) ∧ fs.lookup m = none ∧
  t σ H1 fun vs H2 => sp (x :: (vs ++ dvs)) H2 Q E
def tMake (C : Addr) (sp : Sp) (dvs : List V) (E : XK) (t : TA) : TE := fun σ H Q => t σ H fun vs H1 => ∀ x dx, H1 x = none → H1 dx = none → dx ≠ x →
  sp (.ref x :: (vs ++ dvs)) (upd (upd H1 dx (.own x)) x (.ins C dx [])) (fun v H2 => v = .non ∧ Q (.ref x) H2) E

def Binds (K : PySem.W.Frag) (fd : FuncData) (ps : List Str) (ds : List Value) : Prop :=
  ∀ (s : Shared) (us : List Value), K.In s.heap → (us ++ ds).length = ps.length → BindsTo s fd ⟨us, []⟩ (ps.zip (us ++ ds))
theorem Binds.all {K : PySem.W.Frag} {fd : FuncData} {ps : List Str} (h : ∀ us : List Value, us.length = ps.length → bindArgs fd ⟨us, []⟩ = pure (ps.zip us)) : Binds K fd ps [] := fun s us _ hl => by
  rw [List.append_nil] at hl ⊢
  exact .of_eq (h us hl)

def Passes (CX : CXT) (X : Cx) (E : XK) : Prop := ∀ (pins : List (Addr × Obj)) (σ : St) (H : Hp) (s : Shared) (e : Value) (s' : Shared), Inv X pins σ H s → CX X.stack H s E e s' → X.xe e s'

section
variable {X : Cx} {CX : CXT} {k : Nat} {f C : Addr} {fd : FuncData} {ps : List Str} {sp : Sp} {dvs : List V} {ds : List Value} {E : XK} {x m : Str} {p pos apos : Pos} {e o : Expr} {es : List Expr} {ta : TE} {t : TA}

theorem run_fn {pins : List (Addr × Obj)} {σ : St} {H : Hp} {s : Shared} {Q : VK} {us : List Value} {vs : List V} (F : FnOk X.prog X.w X.K X.mg X.base CX k f fd ps sp) (hr : Room k X.A) (hb : Binds X.K fd ps ds) (hd : Vals dvs ds) (hx : Passes CX X E)
    (I : Inv X pins σ H s) (r : Vals vs us) (h : sp (vs ++ dvs) H Q E) : wpAny (model X.prog X.w) X.A (call (.ref f) us) (EP X pins σ Q) X.xe s := by
  have r2 : Vals (vs ++ dvs) (us ++ ds) := r.append hd
  have hl : (us ++ ds).length = ps.length := by rw [← r2.length]; exact F.len _ _ _ _ h
  refine wpAny_call (codeAny_mono (F.run X.A X.stack s H ⟨us, []⟩ (us ++ ds) (vs ++ dvs) Q E hr I.env0 (hb s us I.kIn hl) r2 h) fun r s' hq => ?_)
  cases r with
  | error e => exact hx pins σ H s e s' I hq
  | ok fl =>
    cases fl with
    | ret u => exact I.after hq
    | next => exact False.elim hq
    | brk => exact False.elim hq
    | cont => exact False.elim hq

theorem pe_call (F : FnOk X.prog X.w X.K X.mg X.base CX k f fd ps sp) (hr : Room k X.A) (hg : Gl X x) (hm : X.mg x = some (.ref f)) (hk : PySem.W.keepIn X.K (.ref f) = true) (hb : Binds X.K fd ps ds) (hd : Vals dvs ds) (hx : Passes CX X E)
    (ha : PA X (e :: es) t) (hdb : (x == ("__debug__" : Str)) = false := by decide) (he : starEach (e :: es) X.env = (false, eval e X.env) :: starEach es X.env := by rfl) (hpl : (backTo pos (starEach es X.env)).any (·.1) = false := by rfl) :
    PE X (.Call (.Name x p) (e :: es) [] pos) (tCall sp dvs E t) := by
  intro pins s σ H Q I h
  refine wpAny_Call_Name_kw (ld_glob I hg hm ?_ hdb)
  refine PySem.W.callWith_K (h₀ := X.base) I.ok.mod.kin hk (thn (ha pos pins s σ H _ I h) fun us s1 ⟨vs, H1, I1, r, q⟩ => ⟨I1.kIn, ?_⟩) he hpl
  exact run_fn F hr hb hd hx I1 r q

theorem pe_meth {pl : Sem Bool} (he : PE X o ta) (c : Cls X.K C) (hm : Meth X.K C m f) (F : FnOk X.prog X.w X.K X.mg X.base CX k f fd ps sp) (hr : Room k X.A) (hb : Binds X.K fd ps ds) (hd : Vals dvs ds) (hx : Passes CX X E) (ha : PA X (e :: es) t)
    (hst : starEach (e :: es) X.env = (false, eval e X.env) :: starEach es X.env := by rfl) (hpl : (backTo pos (starEach es X.env)).any (·.1) = false := by rfl)
    (ht : eval (.Call (.Attribute o m apos) (e :: es) [] pos) X.env = (do
      let ov ← eval o X.env
      standAt apos.atName
      let (f, first) ← holding [ov] (getMethod ov m pl)
      callWith pos f first (backTo pos (starEach (e :: es) X.env)) (backToKw pos (keywordEach [] X.env))) := by rfl) :
    PE X (.Call (.Attribute o m apos) (e :: es) [] pos) (tMeth C m sp dvs E ta t) := by
  intro pins s σ H Q I h
  refine PySem.W.methodCall_KW (pl := pl) (thn (he pins s σ H _ I h) fun u s1 ⟨x, H1, I1, rx, a, dx, fs, ex, ea, l, q⟩ => ?_) ht
  subst ex
  obtain rfl : u = Value.ref a := rx
  refine getmeth_ok I1 ea c hm l ?_
  refine PySem.W.callWith_K (first := [.ref a]) (h₀ := X.base) I.ok.mod.kin hm.kp (thn (ha pos pins s1 σ H1 _ I1 q) fun us s2 ⟨vs, H2, I2, r, q2⟩ => ⟨I2.kIn, ?_⟩) hst hpl
  exact run_fn (us := .ref a :: us) (vs := .ref a :: vs) F hr hb hd hx I2 (.cons rfl r) q2
theorem pe_meth0 {pl : Sem Bool} (he : PE X o ta) (c : Cls X.K C) (hm : Meth X.K C m f) (F : FnOk X.prog X.w X.K X.mg X.base CX k f fd ps sp) (hr : Room k X.A) (hb : Binds X.K fd ps ds) (hd : Vals dvs ds) (hx : Passes CX X E)
    (ht : eval (.Call (.Attribute o m apos) [] [] pos) X.env = (do
      let ov ← eval o X.env
      standAt apos.atName
      let (f, first) ← holding [ov] (getMethod ov m pl)
      callWith pos f first (backTo pos (starEach [] X.env)) (backToKw pos (keywordEach [] X.env))) := by rfl) :
    PE X (.Call (.Attribute o m apos) [] [] pos) (tMeth C m sp dvs E ta tNil) := by
  intro pins s σ H Q I h
  refine PySem.W.methodCall_KW (pl := pl) (thn (he pins s σ H _ I h) fun u s1 ⟨x, H1, I1, rx, a, dx, fs, ex, ea, l, q⟩ => ?_) ht
  subst ex
  obtain rfl : u = Value.ref a := rx
  refine getmeth_ok I1 ea c hm l ?_
  exact PySem.W.callWith_K0 (first := [.ref a]) I1.kIn hm.kp (run_fn (us := [.ref a]) (vs := [.ref a]) F hr hb hd hx I1 (.cons rfl .nil) q)

structure Mk (K : PySem.W.Frag) (C f : Addr) : Prop where
  makes : PySem.W.makesIn K C = true
  init : PySem.W.findIn K (.ref C) "__init__" = some (some (.ref f))
  fn : PySem.W.isFn K (.ref f) = true
  kp : PySem.W.keepIn K (.ref C) = true

theorem run_make {pins : List (Addr × Obj)} {σ : St} {H : Hp} {s : Shared} {Q : VK} {us : List Value} {vs : List V} (M : Mk X.K C f) (F : FnOk X.prog X.w X.K X.mg X.base CX k f fd ps sp) (hr : Room (k + 1) X.A) (hb : Binds X.K fd ps ds) (hd : Vals dvs ds)
    (hx : Passes CX X E) (I : Inv X pins σ H s) (r : Vals vs us)
    (h : ∀ x dx, H x = none → H dx = none → dx ≠ x → sp (.ref x :: (vs ++ dvs)) (upd (upd H dx (.own x)) x (.ins C dx [])) (fun v H2 => v = .non ∧ Q (.ref x) H2) E) :
    wpAny (model X.prog X.w) X.A (call (.ref C) us) (EP X pins σ Q) X.xe s := by
  have hq := h (s.heap.objs.size + 1) s.heap.objs.size (I.hok.fresh (Nat.le_succ _)) (I.hok.fresh (Nat.le_refl _)) (Nat.ne_of_lt (Nat.lt_succ_self _))
  have I2 : Inv X pins σ _ _ := ⟨Inw.made (C := C) I.toInw, I.pos⟩
  have r2 : Vals (V.ref (s.heap.objs.size + 1) :: (vs ++ dvs)) (Value.ref (s.heap.objs.size + 1) :: (us ++ ds)) := .cons rfl (r.append hd)
  have hl : (Value.ref (s.heap.objs.size + 1) :: us ++ ds).length = ps.length := by
    have e := r2.length
    rw [F.len _ _ _ _ hq] at e
    exact e.symm
  refine wpAny_call (make_map (f := f) I.kIn M.makes M.init (beq_iff_eq.mp M.fn) (codeAny_mono (F.run _ X.stack _ _ ⟨Value.ref (s.heap.objs.size + 1) :: us, []⟩ (Value.ref (s.heap.objs.size + 1) :: (us ++ ds)) _ _ E (hr.make C us [])
    (I2.env0.make C us []) (hb _ (Value.ref (s.heap.objs.size + 1) :: us) I2.kIn hl) r2 hq) fun r s' hq' => ?_))
  cases r with
  | error e => exact hx pins σ _ _ e s' I2 hq'
  | ok fl =>
    cases fl with
    | ret u =>
      obtain ⟨v, H', I3, rv, ev, q3⟩ := I2.after hq'
      subst ev
      exact ⟨rv, ⟨V.ref (s.heap.objs.size + 1), H', I3, rfl, q3⟩⟩
    | next => exact False.elim hq'
    | brk => exact False.elim hq'
    | cont => exact False.elim hq'
theorem pe_make (M : Mk X.K C f) (F : FnOk X.prog X.w X.K X.mg X.base CX k f fd ps sp) (hr : Room (k + 1) X.A) (hg : Gl X x) (hm : X.mg x = some (.ref C)) (hb : Binds X.K fd ps ds) (hd : Vals dvs ds) (hx : Passes CX X E)
    (ha : PA X (e :: es) t) (hdb : (x == ("__debug__" : Str)) = false := by decide) (he : starEach (e :: es) X.env = (false, eval e X.env) :: starEach es X.env := by rfl) (hpl : (backTo pos (starEach es X.env)).any (·.1) = false := by rfl) :
    PE X (.Call (.Name x p) (e :: es) [] pos) (tMake C sp dvs E t) := by
  intro pins s σ H Q I h
  refine wpAny_Call_Name_kw (ld_glob I hg hm ?_ hdb)
  refine PySem.W.callWith_K (h₀ := X.base) I.ok.mod.kin M.kp (thn (ha pos pins s σ H _ I h) fun us s1 ⟨vs, H1, I1, r, q⟩ => ⟨I1.kIn, ?_⟩) he hpl
  exact run_make M F hr hb hd hx I1 r q
end

section
variable {X : Cx} {CX : CXT} {k : Nat} {f C : Addr} {fd : FuncData} {ps ks : List Str} {sp : Sp} {E : XK} {x m : Str} {p pos apos kpos : Pos} {e o : Expr} {es : List Expr} {kws : List Keyword} {te ta : TE} {t tk : TA} {nm : Option Str}

structure KBinds (K : PySem.W.Frag) (fd : FuncData) (ps ks : List Str) (g : List Value → List Value → List Value) (gV : List V → List V → List V) : Prop where
  to : ∀ (s : Shared) (us ws : List Value), K.In s.heap → (g us ws).length = ps.length → BindsTo s fd ⟨us, ks.zip ws⟩ (ps.zip (g us ws))
  rel : ∀ {vs : List V} {us : List Value} {zs : List V} {ws : List Value}, Vals vs us → Vals zs ws → Vals (gV vs zs) (g us ws)
variable {g : List Value → List Value → List Value} {gV : List V → List V → List V}
end

structure FnScope (N P : List Str) (sc : Scope) : Prop where
  kind : sc.kind = .function
  co : sc.isCoroutine = false
  gen : sc.isGenerator = false
  nd : N.Nodup
  pre : N.take P.length = P
  par : ∀ x ∈ P, sc.names.lookup x = some .local ∨ sc.names.lookup x = some .cell
  nofree : ∀ y ∈ sc.names, y.2 ≠ .free

theorem bindL_out {kindOf : Str → Option NameKind} {x : Str} : ∀ {binds : List (Str × Value)} {m : Str → Option Value}, (∀ v, (x, v) ∉ binds) → bindL kindOf binds m x = m x
  | [], _, _ => rfl
  | (n, v) :: r, m, h => by
    unfold bindL
    rw [bindL_out fun w hw => h w (List.mem_cons_of_mem _ hw)]
    split
    · have : x ≠ n := by rintro rfl; exact h v List.mem_cons_self
      simp [this]
    · rfl
theorem bindC_out {kindOf : Str → Option NameKind} {x : Str} : ∀ {binds : List (Str × Value)} {m : Str → Option Value}, (∀ v, (x, v) ∉ binds) → bindC kindOf binds m x = m x
  | [], _, _ => rfl
  | (n, v) :: r, m, h => by
    unfold bindC
    rw [bindC_out fun w hw => h w (List.mem_cons_of_mem _ hw)]
    split
    · rfl
    · have : x ≠ n := by rintro rfl; exact h v List.mem_cons_self
      simp [this]
theorem bindL_get {kindOf : Str → Option NameKind} {x : Str} {v : Value} : ∀ {P : List Str} {vs : List Value} {i : Nat} {m : Str → Option Value}, P.Nodup → P[i]? = some x → vs[i]? = some v → kindOf x = some .local →
    bindL kindOf (P.zip vs) m x = some v
  | [], _, _, _, _, h, _, _ => by simp at h
  | _ :: _, [], _, _, _, _, h, _ => by simp at h
  | p :: P, w :: vs, 0, m, nd, h1, h2, hk => by
    simp at h1 h2; subst h1; subst h2
    show bindL kindOf ((p, w) :: P.zip vs) m p = _
    unfold bindL
    rw [bindL_out fun v hv => (List.nodup_cons.mp nd).1 (List.of_mem_zip hv).1, if_pos hk]
    simp
  | p :: P, w :: vs, i + 1, m, nd, h1, h2, hk => by
    show bindL kindOf ((p, w) :: P.zip vs) m x = _
    unfold bindL
    exact bindL_get (i := i) (List.nodup_cons.mp nd).2 (by simpa using h1) (by simpa using h2) hk
theorem bindC_get {kindOf : Str → Option NameKind} {x : Str} {v : Value} : ∀ {P : List Str} {vs : List Value} {i : Nat} {m : Str → Option Value}, P.Nodup → P[i]? = some x → vs[i]? = some v → kindOf x ≠ some .local →
    bindC kindOf (P.zip vs) m x = some v
  | [], _, _, _, _, h, _, _ => by simp at h
  | _ :: _, [], _, _, _, _, h, _ => by simp at h
  | p :: P, w :: vs, 0, m, nd, h1, h2, hk => by
    simp at h1 h2; subst h1; subst h2
    show bindC kindOf ((p, w) :: P.zip vs) m p = _
    unfold bindC
    rw [bindC_out fun v hv => (List.nodup_cons.mp nd).1 (List.of_mem_zip hv).1, if_neg hk]
    simp
  | p :: P, w :: vs, i + 1, m, nd, h1, h2, hk => by
    show bindC kindOf ((p, w) :: P.zip vs) m x = _
    unfold bindC
    exact bindC_get (i := i) (List.nodup_cons.mp nd).2 (by simpa using h1) (by simpa using h2) hk

def start (N : List Str) (vs : List V) : St := vs.map some ++ List.replicate (N.length - vs.length) none

def cxOf (CX : CXT) (P : Program) (w : World) (K : PySem.W.Frag) (mg : Str → Option Value) (base : Heap) (N : List Str) (qual : Str) (scope : Scope) (f : Addr) (cd : Value) (A : Around) (outer : List Env) (s : Shared) (H : Hp) (E : XK) : Cx where
  prog := P
  w := w
  K := K
  mg := mg
  base := base
  A := A.deeper (envOfC qual scope s.heap.objs.size f cd)
  N := N
  s₀ := s
  H₀ := H
  env := envOfC qual scope s.heap.objs.size f cd
  outer := outer
  stack := envOfC qual scope s.heap.objs.size f cd :: outer
  ex := []
  calm := true
  fn := fun _ => true
  pn := []
  xe := fun e s' => wpAny (model P w) (A.deeper (envOfC qual scope s.heap.objs.size f cd)) (leaving (envOfC qual scope s.heap.objs.size f cd) e) (fun _ s'' => CX outer H s E e s'') (fun e' s'' => CX outer H s E e' s'') s'

theorem cell_has {sc : Scope} {n : Nat} {x : Str} (h : sc.names.lookup x = some .cell) : ∃ c, (cellsFrom n sc.names []).lookup x = some c := by
  have q := PySem.W.cellsFrom_some sc.names n [] (.inl h)
  exact Option.isSome_iff_exists.mp q

theorem inv_start {CX : CXT} {P : Program} {w : World} {K : PySem.W.Frag} {mg : Str → Option Value} {base : Heap} {N ps : List Str} {qual : Str} {scope : Scope} {f : Addr} {cd : Value} {A : Around} {outer : List Env} {s s1 : Shared} {H : Hp} {E : XK} {us : List Value} {vs : List V}
    (S : FnScope N ps scope) (hd : A.handled = none) (e0 : Env0w P w K mg base A outer s H) (hl : vs.length = ps.length) (r : Vals vs us)
    (x : InCallC s s.heap.objs.size (bindL (envOfC qual scope s.heap.objs.size f cd).kindOf (ps.zip us) fun _ => none) (cellsFrom (s.heap.objs.size + 1) scope.names []) (bindC (envOfC qual scope s.heap.objs.size f cd).kindOf (ps.zip us) fun _ => none) s1) :
    Inw (cxOf CX P w K mg base N qual scope f cd A outer s H E) [] (start N vs) H s1 := by
  have hpl : ps.length ≤ N.length := by have := congrArg List.length S.pre; rw [List.length_take] at this; omega
  obtain ⟨h1, tk, rfl, hk⟩ := x.done
  have noA : ∀ b : Addr, b ∉ (cxOf CX P w K mg base N qual scope f cd A outer s H E).ex := fun b z => absurd (show b ∈ ([] : List Addr) from z) (by simp)
  refine ⟨⟨e0.mod, S.kind, rfl, rfl, Nat.le_refl _, fun y z c h1 h2 => ?_, fun y hy => ?_, fun y c _ h => ?_, fun _ => hd, Around.frames_deeper e0.frames, .inr ⟨rfl, rfl⟩, fun b z => absurd z (noA b), e0.bs, e0.bsz, fun b _ _ => noA b, fun b z => absurd z (noA b), e0.funs, e0.frf⟩,
    rfl, e0.bare, Un.kept hk, ⟨_, x.toInCall.ns, fun i y v h1 h2 h3 => ?_⟩, fun y c h => ⟨_, x.cell y c h⟩, e0.hok.fresh (Nat.le_refl _), fun y c h => ?_, fun p hp => absurd (show p ∈ ([] : List (Addr × Obj)) from hp) (by simp), e0.hok.kept hk, ?_⟩
  · exact name_of_addr x.apart (PySem.mem_of_lookup h1) (PySem.mem_of_lookup h2)
  · have hy : scope.names.lookup y = some .cell ∨ scope.names.lookup y = some .free := hy
    rcases hy with hy | hy
    · exact cell_has hy
    · exact absurd rfl (S.nofree _ (PySem.mem_of_lookup hy))
  · exact Nat.le_of_lt (x.above y c (PySem.mem_of_lookup h))
  · have hi : i < vs.length := by
      unfold start at h2
      by_cases hi : i < vs.length
      · exact hi
      · rw [List.getElem?_append_right (by simpa using hi)] at h2
        rw [List.getElem?_replicate] at h2
        split at h2 <;> cases h2
    have ha : vs[i]? = some v := by
      unfold start at h2
      rw [List.getElem?_append_left (by simpa using hi), List.getElem?_map] at h2
      cases e : vs[i]? with
      | none => rw [e] at h2; cases h2
      | some a => rw [e] at h2; cases h2; rfl
    obtain ⟨u, hu, rv⟩ := r.get ha
    have hp : ps[i]? = some y := by
      rw [← S.pre, List.getElem?_take_of_lt (by omega)]; exact h1
    have ndP : ps.Nodup := by rw [← S.pre]; exact S.nd.sublist (List.take_sublist _ _)
    refine ⟨u, rv, ?_⟩
    rcases S.par y (List.mem_of_getElem? hp) with k | k
    · exact .inl ⟨k, bindL_get ndP hp hu k⟩
    · obtain ⟨c, e⟩ := cell_has (n := s.heap.objs.size + 1) k
      refine .inr ⟨.inl k, c, e, ?_⟩
      have q := x.cell y c e
      rw [bindC_get ndP hp hu (by show scope.names.lookup y ≠ _; rw [k]; decide)] at q
      exact q
  · exact e0.hok.fresh (Nat.le_of_lt (x.above y c (PySem.mem_of_lookup h)))
  · unfold start
    show _ = N.length
    rw [List.length_append, List.length_map, List.length_replicate]
    omega

theorem fn_of {CX : CXT} {P : Program} {w : World} {K : PySem.W.Frag} {mg : Str → Option Value} {base : Heap} {k : Nat} {f : Addr} {name qual : Str} {params : Arguments} {body : List Stmt} {scope : Scope} {dV kV doc pm cdv ct oc : Value} {an od : Option Addr}
    {osl : Array (Option Value)} {N ps : List Str} {sp : Sp} (lk : K.lookup f = some ⟨oc, od, .func (PySem.W.fnOf name qual params body scope dV kV doc pm an cdv ct), osl⟩) (hcd : PySem.W.codeIn K cdv qual = true) (S : FnScope N ps scope)
    (len : ∀ vs H Q E, sp vs H Q E → vs.length = ps.length)
    (hbody : ∀ (A : Around) (outer : List Env) (s : Shared) (H : Hp) (vs : List V) (Q : VK) (E : XK), Room k (A.deeper (envOfC qual scope s.heap.objs.size f cdv)) → sp vs H Q E →
      ∃ t, PSs (cxOf CX P w K mg base N qual scope f cdv A outer s H E) body t ∧ t { nx := fun _ H' => Q .non H', rt := Q } (start N vs) H) :
    FnOk P w K mg base CX (k + 1) f (PySem.W.fnOf name qual params body scope dV kV doc pm an cdv ct) ps sp := by
  refine ⟨len, fun A outer s H args us vs Q E hr e0 hb r hsp => ?_⟩
  have hl := len _ _ _ _ hsp
  have KX : K.In s.heap := e0.mod.kin.keeps fun b o e => (e0.bs b o e).1
  have lim : s.heap.NoLimit := e0.mod.nolimit.keeps fun b o e => (e0.bs b o e).1
  have hkind : ∀ y ∈ ps.zip us, scope.names.lookup y.1 = some .local ∨ (scope.names.lookup y.1 = some .cell ∧ ((cellsFrom (s.heap.objs.size + 1) scope.names []).lookup y.1).isSome = true) := fun ⟨n, v⟩ hy => by
    rcases S.par n (List.of_mem_zip hy).1 with q | q
    · exact .inl q
    · exact .inr ⟨q, PySem.W.cellsFrom_some _ _ _ (.inl q)⟩
  refine codeAny_call_function hr.depth (KX _ _ lk) rfl S.co S.gen rfl (PySem.W.codeRec_of KX hcd) (hb _ _ _ _ ?_)
  refine wpAny_tok e0.pos (wpAny_newFunctionEnv_cells S.kind hkind fun env he s1 x z1 => ?_)
  subst he
  refine ⟨lim.keeps x.toInCall.keep, codeAny_func ?_⟩
  obtain ⟨t, ht, hq⟩ := hbody A outer s H vs Q E (hr.deeper _) hsp
  have I : Inw (cxOf CX P w K mg base N qual scope f cdv A outer s H E) [] (start N vs) H s1 := inv_start S hr.hd e0.toEnv0w hl r x
  refine wpAny_mono (ht [] s1 (start N vs) H _ ⟨I, z1⟩ hq) (fun fl s' hs => ?_) fun e s' hs => hs
  have fin : ∀ {σ' : St} {H' : Hp} {v : V} {u : Value}, Inw (cxOf CX P w K mg base N qual scope f cdv A outer s H E) [] σ' H' s' → RelV v u → Q v H' → CE outer P w H s Q u s' :=
    fun {σ' H' v u} J rv q => ⟨v, H', J.os, J.bare, J.base, J.hok, rv, q⟩
  cases fl with
  | ret u =>
    obtain ⟨v, σ', H', J, rv, q⟩ := hs
    exact fin J rv q
  | next =>
    obtain ⟨σ', H', J, q⟩ := hs
    exact fin (v := V.non) (u := Value.none) J rfl q
  | brk =>
    obtain ⟨_, _, _, q⟩ := hs
    exact False.elim q
  | cont =>
    obtain ⟨_, _, _, q⟩ := hs
    exact False.elim q
def PSsW (X : Cx) (st : List Stmt) (t : TS) : Prop :=
  ∀ (pins : List (Addr × Obj)) (s : Shared) (σ : St) (H : Hp) (D : Ends), Inw X pins σ H s → t D σ H → wpAny (model X.prog X.w) X.A (execs st X.env) (SP X pins D) X.xe s
def PSW (X : Cx) (st : Stmt) (t : TS) : Prop :=
  ∀ (pins : List (Addr × Obj)) (s : Shared) (σ : St) (H : Hp) (D : Ends), Inw X pins σ H s → t D σ H → wpAny (model X.prog X.w) X.A (exec st X.env) (SPs X pins D) X.xe s
theorem pssW_cons {X : Cx} {st : Stmt} {rest : List Stmt} {t u : TS} (h1 : PSW X st t) (h2 : PSs X rest u) : PSsW X (st :: rest) (tSeq t u) := by
  intro pins s σ H D I h
  refine wpAny_execs_cons (thn0 (h1 pins s σ H { D with nx := u D } I h) fun f s1 q => ?_)
  cases f with
  | next =>
    obtain ⟨σ', H', I', q⟩ := q
    exact h2 pins s1 σ' H' D I' q
  | ret v => exact SPs.w q
  | brk => exact SPs.w q
  | cont => exact SPs.w q
theorem PSsW.nox {X : Cx} {st : List Stmt} {t : TS} (h : PSsW X.nox st t) : PSsW X st t := fun pins s σ H D I hw =>
  wpAny_mono (h pins s σ H D (I.wish _) hw) (fun _ _ q => q.unwish) fun _ _ z => False.elim z
theorem fn_ofL {CX : CXT} {P : Program} {w : World} {K : PySem.W.Frag} {mg : Str → Option Value} {base : Heap} {k : Nat} {f : Addr} {name qual : Str} {params : Arguments} {body : List Stmt} {scope : Scope} {dV kV doc pm cdv ct oc : Value} {an od : Option Addr}
    {osl : Array (Option Value)} {N ps : List Str} {sp : Sp} (lk : K.lookup f = some ⟨oc, od, .func (PySem.W.fnOf name qual params body scope dV kV doc pm an cdv ct), osl⟩) (hcd : PySem.W.codeIn K cdv qual = true) (S : FnScope N ps scope)
    (len : ∀ vs H Q E, sp vs H Q E → vs.length = ps.length)
    (hbody : ∀ (A : Around) (outer : List Env) (s : Shared) (H : Hp) (vs : List V) (Q : VK) (E : XK), Room k (A.deeper (envOfC qual scope s.heap.objs.size f cdv)) → sp vs H Q E →
      ∃ t, PSsW (cxOf CX P w K mg base N qual scope f cdv A outer s H E) body t ∧ t { nx := fun _ H' => Q .non H', rt := Q } (start N vs) H) :
    FnOkL P w K mg base CX (k + 1) f (PySem.W.fnOf name qual params body scope dV kV doc pm an cdv ct) ps sp := by
  refine ⟨len, fun A outer s H args us vs Q E hr e0 hb r hsp => ?_⟩
  have hl := len _ _ _ _ hsp
  have KX : K.In s.heap := e0.mod.kin.keeps fun b o e => (e0.bs b o e).1
  have lim : s.heap.NoLimit := e0.mod.nolimit.keeps fun b o e => (e0.bs b o e).1
  have hkind : ∀ y ∈ ps.zip us, scope.names.lookup y.1 = some .local ∨ (scope.names.lookup y.1 = some .cell ∧ ((cellsFrom (s.heap.objs.size + 1) scope.names []).lookup y.1).isSome = true) := fun ⟨n, v⟩ hy => by
    rcases S.par n (List.of_mem_zip hy).1 with q | q
    · exact .inl q
    · exact .inr ⟨q, PySem.W.cellsFrom_some _ _ _ (.inl q)⟩
  refine codeAny_call_function hr.depth (KX _ _ lk) rfl S.co S.gen rfl (PySem.W.codeRec_of KX hcd) (hb _ _ _ _ ?_)
  refine wpAny_newFunctionEnv_cells S.kind hkind fun env he s1 x => ?_
  subst he
  refine ⟨lim.keeps x.toInCall.keep, codeAny_func ?_⟩
  obtain ⟨t, ht, hq⟩ := hbody A outer s H vs Q E (hr.deeper _) hsp
  have I : Inw (cxOf CX P w K mg base N qual scope f cdv A outer s H E) [] (start N vs) H s1 := inv_start S hr.hd e0 hl r x
  refine wpAny_mono (ht [] s1 (start N vs) H _ I hq) (fun fl s' hs => ?_) fun e s' hs => hs
  have fin : ∀ {σ' : St} {H' : Hp} {v : V} {u : Value}, Inw (cxOf CX P w K mg base N qual scope f cdv A outer s H E) [] σ' H' s' → RelV v u → Q v H' → CE outer P w H s Q u s' :=
    fun {σ' H' v u} J rv q => ⟨v, H', J.os, J.bare, J.base, J.hok, rv, q⟩
  cases fl with
  | ret u =>
    obtain ⟨v, σ', H', J, rv, q⟩ := hs
    exact fin J rv q
  | next =>
    obtain ⟨σ', H', J, q⟩ := hs
    exact fin (v := V.non) (u := Value.none) J rfl q
  | brk =>
    obtain ⟨_, _, _, q⟩ := hs
    exact False.elim q
  | cont =>
    obtain ⟨_, _, _, q⟩ := hs
    exact False.elim q
end L2

namespace L2
open PySem PySem.Spec PyProof.Rows
section
variable {X : Cx} {x : Str} {p pos : Pos} {e : Expr} {es : List Expr} {t : TA} {id T : String} {r : List V → Hp → VK → Prop}

def tCB (r : List V → Hp → VK → Prop) (t : TA) : TE := fun σ H Q => t σ H fun vs H1 => r vs H1 Q
theorem pe_callB (hc : CallR X (.builtin id) r) (hg : Gl X x) (hm : X.mg x = none) (hv : bootBuiltins x = some (.builtin id)) (ha : PA X (e :: es) t) (hn : x ≠ "__name__" := by decide) (hdb : (x == ("__debug__" : Str)) = false := by decide)
    (he : starEach (e :: es) X.env = (false, eval e X.env) :: starEach es X.env := by rfl) (hpl : (backTo pos (starEach es X.env)).any (·.1) = false := by rfl) : PE X (.Call (.Name x p) (e :: es) [] pos) (tCB r t) := by
  intro pins s σ H Q I h
  refine wpAny_Call_Name_kw (ld_blt I hg hm hv ?_ hn hdb)
  exact PyProof.Rows.callWith_builtin1 (thn (ha pos pins s σ H _ I h) fun us s1 ⟨vs, H1, I1, r1, q1⟩ => hc pins s1 σ H1 vs us Q I1 r1 q1) he hpl
theorem pe_callTy (hc : CallR X (.type T) r) (hg : Gl X x) (hm : X.mg x = none) (hv : bootBuiltins x = some (.type T)) (ha : PA X (e :: es) t) (hn : x ≠ "__name__" := by decide) (hdb : (x == ("__debug__" : Str)) = false := by decide)
    (he : starEach (e :: es) X.env = (false, eval e X.env) :: starEach es X.env := by rfl) (hpl : (backTo pos (starEach es X.env)).any (·.1) = false := by rfl) : PE X (.Call (.Name x p) (e :: es) [] pos) (tCB r t) := by
  intro pins s σ H Q I h
  refine wpAny_Call_Name_kw (ld_blt I hg hm hv ?_ hn hdb)
  exact PyProof.Rows.callWith_type1 (thn (ha pos pins s σ H _ I h) fun us s1 ⟨vs, H1, I1, r1, q1⟩ => hc pins s1 σ H1 vs us Q I1 r1 q1) he hpl
end
end L2

namespace HT
open PySem PyProof.Rows



section
open PySem.SeqAt
open PySem.AutoSeq1 (wpAny_loadPart')
open PySem.MeetsSeq PySem.MeetsSeq2 PySem.MeetsSeq3

end

section
variable {prog : Program} {w : World} {A : Around} {E : Value → Shared → Prop} {s : Shared}



def sIx (n d : Nat) : Option Int → Nat
  | none => d
  | some v => if v < 0 then (v + (n : Int)).toNat else min v.toNat n
theorem sIx_nat (n d k : Nat) : sIx n d (some (k : Int)) = min k n := by
  show (if (k : Int) < 0 then ((k : Int) + (n : Int)).toNat else min (k : Int).toNat n) = min k n
  rw [if_neg (by omega), Int.toNat_natCast]
theorem sIx_le (n d : Nat) (hd : d ≤ n) (o : Option Int) : sIx n d o ≤ n := by
  cases o with
  | none => exact hd
  | some v =>
    show (if v < 0 then (v + (n : Int)).toNat else min v.toNat n) ≤ n
    by_cases hv : v < 0
    · rw [if_pos hv]; omega
    · rw [if_neg hv]; exact Nat.min_le_right _ _

end
end HT

namespace L2
open PySem PySem.Spec PyProof.Rows

abbrev TO := St → Hp → (Option Int → Hp → Prop) → Prop
def PO (X : Cx) (e : Option Expr) (t : TO) : Prop :=
  ∀ (pins : List (Addr × Obj)) (s : Shared) (σ : St) (H : Hp) (Q : Option Int → Hp → Prop), Inv X pins σ H s → t σ H Q →
    wpAny (model X.prog X.w) X.A (evalPart e X.env) (fun u s' => ∃ o H', Inv X pins σ H' s' ∧ IsPart u o ∧ Q o H') X.xe s
def tNoPart : TO := fun _ H Q => Q none H
def tPart (t : TE) : TO := fun σ H Q => t σ H fun x H1 => ∃ i, x = .int i ∧ Q (some i) H1

theorem intsAre_of {ns : List Int} : ∀ {us : List Value}, Vals (ns.map V.int) us → IntsAre us ns := by
  induction ns with
  | nil => intro us r; rw [List.map_nil] at r; cases r; exact .nil
  | cons n ns ih =>
    intro us r
    rw [List.map_cons] at r
    cases r with
    | cons r1 r2 =>
      obtain ⟨t, e⟩ := r1
      subst e
      exact .cons n t (ih r2)

section
variable {X : Cx} {e : Expr} {te : TE} {lo hi : Option Expr} {tl th : TO} {pos p2 : Pos}

theorem po_some (h : PE X e te) : PO X (some e) (tPart te) := by
  intro pins s σ H Q I hw
  rw [evalPart_some]
  refine thn (h pins s σ H _ I hw) fun u s1 ⟨x, H1, I1, r1, q1⟩ => ?_
  obtain ⟨i, rfl, q⟩ := q1
  obtain ⟨t, rfl⟩ := r1
  exact ⟨some i, H1, I1, .int i t, q⟩

def SlR (X : Cx) (r : V → Option Int → Option Int → Hp → VK → Prop) : Prop :=
  ∀ (pins : List (Addr × Obj)) (s : Shared) (σ : St) (H : Hp) (x : V) (v vl vu : Value) (lo hi : Option Int) (sl : Addr) (Q : VK), Inv X pins σ H s → RelV x v → s.heap.IsSliceOf sl vl vu .none → IsPart vl lo → IsPart vu hi → r x lo hi H Q →
    ∃ T id, typeLookup (.type T) "__getitem__" = pure (some (.builtin id)) ∧ s.TypeIs v T ∧ wpAny (model X.prog X.w) X.A (getItem v (.ref sl)) (EP X pins σ Q) X.xe s
theorem SlR.or {r r' : V → Option Int → Option Int → Hp → VK → Prop} (h : SlR X r) (h' : SlR X r') : SlR X (fun x lo hi H Q => r x lo hi H Q ∨ r' x lo hi H Q) := by
  intro pins s σ H x v vl vu lo hi sl Q I rx hs pl pu q
  rcases q with q | q
  · exact h pins s σ H x v vl vu lo hi sl Q I rx hs pl pu q
  · exact h' pins s σ H x v vl vu lo hi sl Q I rx hs pl pu q
def tSl (r : V → Option Int → Option Int → Hp → VK → Prop) (te : TE) (tl th : TO) : TE := fun σ H Q => te σ H fun x H1 => tl σ H1 fun l H2 => th σ H2 fun u H3 => r x l u H3 Q
theorem pe_slice {r : V → Option Int → Option Int → Hp → VK → Prop} (hr : SlR X r) (he : PE X e te) (hl : PO X lo tl) (hu : PO X hi th) : PE X (.Subscript e (.Slice lo hi none p2) pos) (tSl r te tl th) := by
  intro pins s σ H Q I h
  refine Subscript_ (thn (he pins s σ H _ I h) fun v s1 ⟨x, H1, I1, r1, q1⟩ => ?_)
  refine wpAny_Slice (thn (hl pins s1 σ H1 _ I1 q1) fun vl s2 ⟨l, H2, I2, pl, q2⟩ => thn (hu pins s2 σ H2 _ I2 q2) fun vu s3 ⟨u, H3, I3, pu, q3⟩ => ?_)
  rw [evalPart_none]
  refine wpAny_pure ?_
  have I4 : Inw X pins σ H3 { s3 with heap := s3.heap.push { cls := .type "slice", data := .fields #[vl, vu, .none] } } := I3.kept (t' := s3.toks) fun b ob q => Heap.get?_push_of_some _ q
  obtain ⟨T, id, hT, ht, hg⟩ := hr pins { s3 with heap := s3.heap.push { cls := .type "slice", data := .fields #[vl, vu, .none] } } σ H3 x v vl vu l u s3.heap.objs.size Q ⟨I4, I3.pos⟩ r1 (Heap.IsSliceOf.new ..) pl pu q3
  show wpAny (model X.prog X.w) X.A (subscriptTail e (.Slice lo hi none p2) v (.ref s3.heap.objs.size)) (EP X pins σ Q) X.xe { s3 with heap := s3.heap.push { cls := .type "slice", data := .fields #[vl, vu, .none] } }
  exact tail_any (ops := [.ref s3.heap.objs.size, v]) ht hT hg (by with_unfolding_all rfl)

def cutV (xs : List V) (lo hi : Option Int) : List V := (xs.drop (HT.sIx xs.length 0 lo)).take (HT.sIx xs.length xs.length hi - HT.sIx xs.length 0 lo)
theorem cutV_length (xs : List V) (lo hi : Option Int) : (cutV xs lo hi).length ≤ xs.length := by
  unfold cutV
  rw [List.length_take, List.length_drop]
  omega

end
end L2

namespace L2
open PySem PySem.Spec PyProof.Rows

def ixN (n : Nat) (i : Int) : Option Nat := if 0 ≤ i then (if i < n then some i.toNat else none) else if -(n : Int) ≤ i then some (i + n).toNat else none
def atI {α : Type} (xs : List α) (i : Int) : Option α := (ixN xs.length i).bind fun j => xs[j]?
theorem ixN_seq {n : Nat} {i : Int} {j : Nat} (h : ixN n i = some j) : seqIndex? i n = some j ∧ j < n ∧ -(n : Int) ≤ i ∧ i < n := by
  unfold ixN at h
  by_cases h0 : 0 ≤ i
  · rw [if_pos h0] at h
    by_cases h1 : i < n
    · rw [if_pos h1] at h
      have e : i.toNat = j := Option.some.inj h
      exact ⟨by rw [seqIndex_of h0 h1, e], by omega, by omega, h1⟩
    · rw [if_neg h1] at h; cases h
  · rw [if_neg h0] at h
    by_cases h1 : -(n : Int) ≤ i
    · rw [if_pos h1] at h
      have e : (i + n).toNat = j := Option.some.inj h
      exact ⟨by rw [seqIndex_neg (by omega) h1, e], by omega, h1, by omega⟩
    · rw [if_neg h1] at h; cases h
theorem atI_get {α : Type} {xs : List α} {i : Int} {v : α} (h : atI xs i = some v) : ∃ j, seqIndex? i xs.length = some j ∧ xs[j]? = some v ∧ j < xs.length ∧ -(xs.length : Int) ≤ i ∧ i < xs.length := by
  unfold atI at h
  cases e : ixN xs.length i with
  | none => rw [e] at h; cases h
  | some j =>
    rw [e] at h
    obtain ⟨h1, h2, h3, h4⟩ := ixN_seq e
    exact ⟨j, h1, h, h2, h3, h4⟩
theorem atI_nat {α : Type} {xs : List α} {j : Nat} {v : α} (h : xs[j]? = some v) : atI xs (j : Int) = some v := by
  have hj : j < xs.length := (List.getElem?_eq_some_iff.mp h).1
  have e : ixN xs.length (j : Int) = some j := by
    unfold ixN
    rw [if_pos (by omega), if_pos (by omega)]; simp
  unfold atI; rw [e]; exact h

def PlainIx (b : Expr) : Prop := ∀ o i, subscripted b false o i = operate [o, i] (getItem o i)
def IxR (X : Cx) (r : R2) : Prop :=
  ∀ (value slice : Expr) (pins : List (Addr × Obj)) (s : Shared) (σ : St) (H : Hp) (x y : V) (v u : Value) (Q : VK), Inv X pins σ H s → RelV x v → RelV y u → r x y H Q →
    subscripted slice false v u = operate [v, u] (getItem v u) → wpAny (model X.prog X.w) X.A (subscriptTail value slice v u) (EP X pins σ Q) X.xe s
def MtR (X : Cx) (id : String) (r : V → List V → Hp → VK → Prop) : Prop :=
  ∀ (pins : List (Addr × Obj)) (s : Shared) (σ : St) (H : Hp) (x : V) (xs : List V) (v : Value) (us : List Value) (Q : VK), Inv X pins σ H s → RelV x v → Vals xs us → r x xs H Q →
    wpAny (model X.prog X.w) X.A (call (.builtin id) (v :: us)) (EP X pins σ Q) X.xe s
section
variable {X : Cx} {a b : Expr} {ta tb : TE} {pos : Pos}
theorem IxR.or {r r' : R2} (h : IxR X r) (h' : IxR X r') : IxR X (fun x y H Q => r x y H Q ∨ r' x y H Q) := by
  intro value slice pins s σ H x y v u Q I rx ry q hs
  rcases q with q | q
  · exact h value slice pins s σ H x y v u Q I rx ry q hs
  · exact h' value slice pins s σ H x y v u Q I rx ry q hs
theorem MtR.or {id : String} {r r' : V → List V → Hp → VK → Prop} (h : MtR X id r) (h' : MtR X id r') : MtR X id (fun x xs H Q => r x xs H Q ∨ r' x xs H Q) := by
  intro pins s σ H x xs v us Q I rx rs q
  rcases q with q | q
  · exact h pins s σ H x xs v us Q I rx rs q
  · exact h' pins s σ H x xs v us Q I rx rs q
theorem pe_ix {r : R2} (hr : IxR X r) (ha : PE X a ta) (hb : PE X b tb) (hs : PlainIx b) : PE X (.Subscript a b pos) (tOp r ta tb) := by
  intro pins s σ H Q I h
  exact Subscript_ (binT ha hb I h fun v u s2 x y H2 I2 rx ry q => hr a b pins s2 σ H2 x y v u Q I2 rx ry q (hs _ _))

def rIxL (K : PySem.W.Frag) : R2 := fun x y H Q => ∃ p xs i v, x = .ref p ∧ y = .int i ∧ SqL K H p xs ∧ atI xs i = some v ∧ Q v H
def rIxT (K : PySem.W.Frag) : R2 := fun x y H Q => ∃ p xs i v, x = .ref p ∧ y = .int i ∧ SqT K H p xs ∧ atI xs i = some v ∧ Q v H
def rIxS : R2 := fun x y H Q => ∃ z i c, x = .str z ∧ y = .int i ∧ z.length ≤ sizeLine ∧ atI z.cps.toList i = some c ∧ Q (.str ⟨#[c]⟩) H
theorem ix_list : IxR X (rIxL X.K) := by
  intro value slice pins s σ H x y v u Q I rx ry h hs
  obtain ⟨p, xs, i, z, rfl, rfl, hq, he, q⟩ := h
  cases rx
  obtain ⟨t, rfl⟩ := ry
  obtain ⟨its, r, pl, hz⟩ := I.list hq
  obtain ⟨j, h1, h2, h3, h4, h5⟩ := atI_get he
  obtain ⟨w, ew, rw'⟩ := r.get h2
  have hl := r.length
  have hn := line63
  have fin : EP X pins σ Q w s := ⟨z, H, I, rw', q⟩
  by_cases h0 : 0 ≤ i
  · have hj : i.toNat = j := by
      rw [seqIndex_of h0 h5] at h1
      exact Option.some.inj h1
    exact item_listR pl.isList h0 (by omega) (by rw [hj]; simpa using ew) fin hs
  · have hj : (i + (its.toArray.size : Int)).toNat = j := by
      rw [seqIndex_neg (by omega) h4] at h1
      rw [List.size_toArray, ← hl]
      exact Option.some.inj h1
    exact subscriptTail_builtinR (x := w) pl.isList.typeIs slot_list_getitem.lookup
      (wpAny_getItem_list_neg (Q := fun r s' => r = w ∧ EP X pins σ Q r s') pl.isList (by omega) (by rw [List.size_toArray] <;> omega) (by omega) (by rw [hj]; simpa using ew) ⟨rfl, fin⟩) hs
theorem ix_tup : IxR X (rIxT X.K) := by
  intro value slice pins s σ H x y v u Q I rx ry h hs
  obtain ⟨p, xs, i, z, rfl, rfl, hq, he, q⟩ := h
  cases rx
  obtain ⟨t, rfl⟩ := ry
  obtain ⟨its, r, pl, hz⟩ := I.tuple hq
  obtain ⟨j, h1, h2, h3, h4, h5⟩ := atI_get he
  obtain ⟨w, ew, rw'⟩ := r.get h2
  have hl := r.length
  have hn := line63
  have fin : EP X pins σ Q w s := ⟨z, H, I, rw', q⟩
  exact subscriptTail_builtinR (x := w) pl.typeIs slot_tuple_getitem.lookup
    (getItem_tuple (j := j) (Q := fun r s' => r = w ∧ EP X pins σ Q r s') pl (by omega) (by omega) (by rw [List.size_toArray, ← hl]; exact h1) (by simpa using ew) ⟨rfl, fin⟩) hs
theorem ix_str : IxR X rIxS := by
  intro value slice pins s σ H x y v u Q I rx ry h hs
  obtain ⟨z, i, c, rfl, rfl, hz, he, q⟩ := h
  obtain ⟨t, rfl⟩ := rx
  obtain ⟨t', rfl⟩ := ry
  obtain ⟨j, h1, h2, h3, h4, h5⟩ := atI_get he
  have hl : z.cps.toList.length = z.length := by simp [Str.length]
  rw [hl] at h1 h4 h5
  have hn := line63
  exact tail_any (typeIs_str s z t) slot_str_getitem.lookup (getItem_str (c := c) (by
    have e1 : decide (i < -(2 ^ 63 : Int)) = false := decide_eq_false (by omega)
    have e2 : decide (i ≥ 2 ^ 63) = false := decide_eq_false (by omega)
    rw [e1, e2, Bool.or_false]) (by rw [h1]; simpa using h2) ⟨.str ⟨#[c]⟩, H, I.tok _, ⟨_, rfl⟩, q⟩) hs

theorem Inw.lst {pins : List (Addr × Obj)} {σ : St} {H : Hp} {s : Shared} {p : Addr} {xs : List V} (I : Inw X pins σ H s) (h : H p = some (.lst xs)) :
    ∃ (its : List Value) (n : Nat), Vals xs its ∧ s.heap.get? p = some { cls := .type "list", data := .seq its.toArray n } ∧ xs.length ≤ sizeLine := by
  obtain ⟨z, its, n, r, e⟩ := I.hok p _ h
  exact ⟨its, n, r, e, z⟩
def rSetL : V → V → V → Hp → (Hp → Prop) → Prop := fun o i v H Q => ∃ p xs k j, o = .ref p ∧ i = .int k ∧ H p = some (.lst xs) ∧ ixN xs.length k = some j ∧ Q (upd H p (.lst (xs.set j v)))

theorem slice_bounds (lo hi : Option Int) (n : Nat) : (sliceBounds lo hi none n).1 = ((HT.sIx n 0 lo : Nat) : Int) ∧ (sliceBounds lo hi none n).2.1 = ((HT.sIx n n hi : Nat) : Int) ∧ (sliceBounds lo hi none n).2.2 = 1 := by
  refine ⟨?_, ?_, rfl⟩
  · cases lo with
    | none => simp [sliceBounds, HT.sIx]
    | some i =>
      simp only [sliceBounds, HT.sIx, Option.getD_none, show (1 : Int) > 0 by decide, if_true]
      by_cases h : i < 0
      · simp only [h, if_true] <;> omega
      · simp only [h, if_false] <;> omega
  · cases hi with
    | none => simp [sliceBounds, HT.sIx]
    | some i =>
      simp only [sliceBounds, HT.sIx, Option.getD_none, show (1 : Int) > 0 by decide, if_true]
      by_cases h : i < 0
      · simp only [h, if_true] <;> omega
      · simp only [h, if_false] <;> omega
theorem slicePick_cut (its : List Value) (lo hi : Option Int) : slicePick its.toArray lo hi none = ((its.drop (HT.sIx its.length 0 lo)).take (HT.sIx its.length its.length hi - HT.sIx its.length 0 lo)).toArray := by
  obtain ⟨h1, h2, h3⟩ := slice_bounds lo hi its.toArray.size
  unfold slicePick
  rw [h1, h2, h3]
  simp only [sliceRange_one, pick_run, List.size_toArray] <;> rfl
def rSlL (K : PySem.W.Frag) : V → Option Int → Option Int → Hp → VK → Prop := fun x lo hi H Q => ∃ a xs, x = .ref a ∧ SqL K H a xs ∧ ∀ p, H p = none → Q (.ref p) (upd H p (.lst (cutV xs lo hi)))
theorem sl_list : SlR X (rSlL X.K) := by
  intro pins s σ H x v vl vu lo hi sl Q I rx hs pl pu h
  obtain ⟨a, xs, rfl, hx, q⟩ := h
  cases rx
  obtain ⟨its, r, ht, hz⟩ := I.list hx
  have hlen := r.length
  refine ⟨"list", _, slot_list_getitem.lookup, ht.isList.typeIs, ?_⟩
  refine wpAny_getItem_list_slice ht.isList hs pl pu .none (by simp) ?_ (by rw [List.size_toArray] <;> omega)
  rw [slicePick_cut, ← hlen]
  refine ⟨.ref s.heap.objs.size, _, I.laid (t' := s.toks) (o := .lst (cutV xs lo hi)) (fun b ob q => Heap.get?_push_of_some _ q) (Nat.le_refl _) ?_, rfl, q _ (I.hok.fresh (Nat.le_refl _))⟩
  exact ⟨Nat.le_trans (cutV_length xs lo hi) hz, _, 0, (r.drop (HT.sIx xs.length 0 lo)).take (HT.sIx xs.length xs.length hi - HT.sIx xs.length 0 lo), Heap.get?_push_size _ rfl⟩

def flatV : V → Bool
  | .non => true
  | .bl _ => true
  | .int _ => true
  | .str _ => true
  | _ => false
def eqV : V → V → Bool
  | .non, .non => true
  | .bl a, .bl b => a == b
  | .bl a, .int b => (if a then 1 else 0) == b
  | .int a, .bl b => a == (if b then 1 else 0)
  | .int a, .int b => a == b
  | .str a, .str b => a == b
  | _, _ => false
theorem eqAt_V {A : Around} {s : Shared} {y x : V} {u v : Value} (ry : RelV y u) (rx : RelV x v) (fy : flatV y = true) (fx : flatV x = true) : SeqAt.EqAt A s u v (eqV y x) := by
  cases y with
  | non =>
    cases ry
    cases x with
    | non => cases rx; exact SeqAt.EqAt.same _
    | bl b => cases rx; exact SeqAt.EqAt.none_bool b
    | int b => obtain ⟨t, rfl⟩ := rx; exact SeqAt.EqAt.none_int b t
    | str b => obtain ⟨t, rfl⟩ := rx; exact SeqAt.EqAt.none_str b t
    | _ => exact absurd (show false = true from fx) Bool.false_ne_true
  | bl a =>
    cases ry
    cases x with
    | non => cases rx; exact SeqAt.EqAt.bool_none a
    | bl b => cases rx; exact SeqAt.EqAt.bool_bool a b
    | int b => obtain ⟨t, rfl⟩ := rx; exact SeqAt.EqAt.bool_int a b t
    | str b => obtain ⟨t, rfl⟩ := rx; exact SeqAt.EqAt.bool_str a b t
    | _ => exact absurd (show false = true from fx) Bool.false_ne_true
  | int a =>
    obtain ⟨t', rfl⟩ := ry
    cases x with
    | non => cases rx; exact SeqAt.EqAt.int_none a t'
    | bl b => cases rx; exact SeqAt.EqAt.int_bool a t' b
    | int b => obtain ⟨t, rfl⟩ := rx; exact SeqAt.EqAt.int_int a t' b t
    | str b => obtain ⟨t, rfl⟩ := rx; exact SeqAt.EqAt.int_str a t' b t
    | _ => exact absurd (show false = true from fx) Bool.false_ne_true
  | str a =>
    obtain ⟨t', rfl⟩ := ry
    cases x with
    | non => cases rx; exact SeqAt.EqAt.str_none a t'
    | bl b => cases rx; exact SeqAt.EqAt.str_bool a t' b
    | int b => obtain ⟨t, rfl⟩ := rx; exact SeqAt.EqAt.str_int a t' b t
    | str b => obtain ⟨t, rfl⟩ := rx; exact SeqAt.EqAt.str_str a t' b t
    | _ => exact absurd (show false = true from fx) Bool.false_ne_true
  | _ => exact absurd (show false = true from fy) Bool.false_ne_true
def eqU (x : V) (u : Value) : Bool := match u with
  | .none => eqV .non x
  | .bool b => eqV (.bl b) x
  | .int i _ => eqV (.int i) x
  | .str z _ => eqV (.str z) x
  | _ => false
theorem eqU_of {x y : V} {u : Value} (r : RelV y u) (f : flatV y = true) : eqU x u = eqV y x := by
  cases y with
  | non => cases r; rfl
  | bl b => cases r; rfl
  | int i => obtain ⟨t, rfl⟩ := r; rfl
  | str z => obtain ⟨t, rfl⟩ := r; rfl
  | _ => exact absurd (show false = true from f) Bool.false_ne_true
theorem any_eqU {x : V} : ∀ {xs : List V} {us : List Value}, Vals xs us → xs.all flatV = true → us.any (eqU x) = xs.any fun y => eqV y x
  | _, _, .nil, _ => rfl
  | y :: xs, u :: us, .cons r t, f => by
    rw [List.all_cons, Bool.and_eq_true] at f
    rw [List.any_cons, List.any_cons, eqU_of r f.1, any_eqU t f.2]
theorem mem_eqAt {A : Around} {s : Shared} {x : V} {v : Value} (rx : RelV x v) (fx : flatV x = true) : ∀ {xs : List V} {us : List Value}, Vals xs us → xs.all flatV = true → ∀ u ∈ us, SeqAt.EqAt A s u v (eqU x u)
  | _, _, .nil, _ => fun u hu => by cases hu
  | y :: xs, u :: us, .cons r t, f => fun u' hu => by
    rw [List.all_cons, Bool.and_eq_true] at f
    rcases List.mem_cons.mp hu with rfl | hu
    · rw [eqU_of r f.1]; exact eqAt_V r rx f.1 fx
    · exact mem_eqAt rx fx t f.2 u' hu
def inV (x : V) (xs : List V) : Bool := xs.any fun y => eqV y x
def rIn (K : PySem.W.Frag) (neg : Bool) : R2 := fun x y H Q => ∃ p xs, y = .ref p ∧ (SqL K H p xs ∨ SqT K H p xs) ∧ flatV x = true ∧ xs.all flatV = true ∧ Q (.bl (if neg then !inV x xs else inV x xs)) H
theorem op_in_seq : OpR X (compareOp .In) (rIn X.K false) := by
  intro pins s σ H x y v u Q I rx ry h
  obtain ⟨p, xs, rfl, hq, fx, fs, q⟩ := h
  cases ry
  rcases hq with hq | hq
  · obtain ⟨its, r, pl, hz⟩ := I.list hq
    refine SeqAt.in_listAt (eqU x) pl.isList (fun w hw => mem_eqAt rx fx r fs w (by simpa using hw)) ⟨.bl _, H, I, rfl, ?_⟩
    rw [show its.toArray.any (eqU x) = its.any (eqU x) by simp, any_eqU r fs]
    exact q
  · obtain ⟨its, r, pl, hz⟩ := I.tuple hq
    refine SeqAt.in_tupleAt (eqU x) pl (fun w hw => mem_eqAt rx fx r fs w (by simpa using hw)) ⟨.bl _, H, I, rfl, ?_⟩
    rw [show its.toArray.any (eqU x) = its.any (eqU x) by simp, any_eqU r fs]
    exact q

theorem call_len_seq : CallR X (.builtin "len") (fun xs H Q => ∃ p ys, xs = [.ref p] ∧ (SqL X.K H p ys ∨ SqT X.K H p ys) ∧ Q (.int ys.length) H) := by
  intro pins s σ H xs us Q I r h
  obtain ⟨p, ys, rfl, hq, q⟩ := h
  obtain ⟨u, rfl, rx⟩ := vals1 r
  cases rx
  have hn := line63
  rcases hq with hq | hq
  · obtain ⟨its, r', pl, hz⟩ := I.list hq
    have hlen := r'.length
    exact Calls.call_len_list pl.isList (by simp only [List.size_toArray] <;> omega) ⟨.int ys.length, H, I.tok _, ⟨s.toks + 1, by rw [List.size_toArray, hlen]⟩, q⟩
  · obtain ⟨its, r', pl, hz⟩ := I.tuple hq
    have hlen := r'.length
    exact len_tuple pl (by simp only [List.size_toArray] <;> omega) ⟨.int ys.length, H, I.tok _, ⟨s.toks + 1, by rw [List.size_toArray, hlen]⟩, q⟩
theorem call_len_str : CallR X (.builtin "len") (fun xs H Q => ∃ z, xs = [.str z] ∧ z.length ≤ sizeLine ∧ Q (.int z.length) H) := by
  intro pins s σ H xs us Q I r h
  obtain ⟨z, rfl, hz, q⟩ := h
  obtain ⟨u, rfl, t, rfl⟩ := vals1 r
  have hn := line63
  exact len_str (by omega) ⟨.int z.length, H, I.tok _, ⟨_, rfl⟩, q⟩
theorem CallR.or {f : Value} {r r' : List V → Hp → VK → Prop} (h : CallR X f r) (h' : CallR X f r') : CallR X f (fun xs H Q => r xs H Q ∨ r' xs H Q) := by
  intro pins s σ H xs us Q I rs q
  rcases q with q | q
  · exact h pins s σ H xs us Q I rs q
  · exact h' pins s σ H xs us Q I rs q
theorem call_list_of : CallR X (.type "list") (fun xs H Q => ∃ p ys, xs = [.ref p] ∧ (SqL X.K H p ys ∨ SqT X.K H p ys) ∧ ∀ l, H l = none → Q (.ref l) (upd H l (.lst ys))) := by
  intro pins s σ H xs us Q I r h
  obtain ⟨p, ys, rfl, hq, q⟩ := h
  obtain ⟨u, rfl, rx⟩ := vals1 r
  cases rx
  have fin : ∀ (its : List Value), Vals ys its → ys.length ≤ sizeLine → ∀ (h' : Heap) (c' : Nat), (∀ b o', s.heap.get? b = some o' → h'.get? b = some o') →
      h'.get? s.heap.objs.size = some { cls := .type "list", dict := none, data := .seq its.toArray c', slots := #[] } → EP X pins σ Q (.ref s.heap.objs.size) { s with heap := h' } := fun its r' hz h' c' kp e =>
    ⟨.ref s.heap.objs.size, _, I.laid (t' := s.toks) kp (Nat.le_refl _) (show ObjOk X.prog X.w _ h' _ (.lst ys) from ⟨hz, its, c', r', e⟩), rfl, q _ (I.hok.fresh (Nat.le_refl _))⟩
  rcases hq with hq | hq
  · obtain ⟨its, r', pl, hz⟩ := I.list hq
    have hlen := r'.length
    obtain ⟨o, ho, hc, n, hd⟩ := pl.isList
    exact call_list_seq p (.inl rfl) ho hc hd (fun h' c' kp e => fin its r' hz h' c' kp e) (by simp only [List.size_toArray] <;> omega)
  · obtain ⟨its, r', pl, hz⟩ := I.tuple hq
    have hlen := r'.length
    obtain ⟨o, ho, hc, n, hd⟩ := pl
    exact call_list_seq p (.inr rfl) ho hc hd (fun h' c' kp e => fin its r' hz h' c' kp e) (by simp only [List.size_toArray] <;> omega)

def tyV (K : PySem.W.Frag) (T : String) (x : V) (H : Hp) : Prop := match x with
  | .str _ => T = "str"
  | .int _ => T = "int"
  | .ref p => (T = "list" ∧ ∃ xs, SqL K H p xs) ∨ (T = "tuple" ∧ ∃ o, K.lookup p = some o ∧ o.cls = .type "tuple" ∧ o.dict = none) ∨
      (T = "dict" ∧ ((∃ kvs, H p = some (.dK kvs)) ∨ ∃ kvs, H p = some (.dT kvs))) ∨ (T = "set" ∧ ∃ S n, H p = some (.set S n))
  | _ => False
theorem tyV_is {pins : List (Addr × Obj)} {σ : St} {H : Hp} {s : Shared} {T : String} {x : V} {v : Value} (I : Inv X pins σ H s) (r : RelV x v) (ty : tyV X.K T x H) :
    s.TypeIs v T ∧ ∀ a, v = .ref a → ∃ ob, s.heap.get? a = some ob ∧ ob.dict = none := by
  cases x with
  | str z =>
    obtain ⟨t, rfl⟩ := r
    cases (show T = "str" from ty)
    exact ⟨typeIs_str s z t, fun _ e => nomatch e⟩
  | int i =>
    obtain ⟨t, rfl⟩ := r
    cases (show T = "int" from ty)
    exact ⟨typeIs_int s i t, fun _ e => nomatch e⟩
  | ref p =>
    cases r
    rcases ty with ⟨rfl, xs, hq⟩ | ⟨rfl, o, hk, hc, hd⟩ | ⟨rfl, hk⟩ | ⟨rfl, S, n, hk⟩
    · obtain ⟨its, _, pl, _⟩ := I.list hq
      refine ⟨pl.isList.typeIs, fun a e => ?_⟩
      cases e
      obtain ⟨o, n, e, c, hd, _⟩ := pl
      exact ⟨o, e, hd⟩
    · refine ⟨⟨o, I.kIn p o hk, hc⟩, fun a e => ?_⟩
      cases e
      exact ⟨o, I.kIn _ o hk, hd⟩
    · have z : ∃ o, s.heap.get? p = some o ∧ o.ExactDict := by
        rcases hk with ⟨kvs, hk⟩ | ⟨kvs, hk⟩
        · obtain ⟨_, _, _, _, o, _, _, e, ex, _⟩ := I.hok p _ hk
          exact ⟨o, e, ex⟩
        · obtain ⟨_, _, _, _, o, _, _, e, ex, _⟩ := I.hok p _ hk
          exact ⟨o, e, ex⟩
      obtain ⟨o, e, ex⟩ := z
      refine ⟨⟨o, e, ex.1⟩, fun a e2 => ?_⟩
      cases e2
      exact ⟨o, e, ex.2.1⟩
    · obtain ⟨o, _, _, _, e, ex, _⟩ := I.hok p _ hk
      refine ⟨⟨o, e, ex.1⟩, fun a e2 => ?_⟩
      cases e2
      exact ⟨o, e, ex.2.1⟩
  | _ => exact False.elim ty
def tBM0 (K : PySem.W.Frag) (T : String) (r : V → List V → Hp → VK → Prop) (to : TE) : TE := fun σ H Q => to σ H fun x H1 => tyV K T x H1 ∧ r x [] H1 Q
def tBM (K : PySem.W.Frag) (T : String) (r : V → List V → Hp → VK → Prop) (to : TE) (t : TA) : TE := fun σ H Q => to σ H fun x H1 => tyV K T x H1 ∧ t σ H1 fun xs H2 => r x xs H2 Q
variable {o e : Expr} {es : List Expr} {to : TE} {t : TA} {name : Str} {apos cpos : Pos} {T id : String} {r : V → List V → Hp → VK → Prop}
theorem pe_bm0 (pa : PlainAttrs T) (slot : Slot T name id) (hty : typeOf (.builtin id) = pure (.type "method_descriptor")) (hm : MtR X id r) (ho : PE X o to)
    (hbase : attributeBase o name X.env (eval o X.env) = eval o X.env := by rfl) (hline : (apos.endLine == cpos.line) = true := by rfl) : PE X (.Call (.Attribute o name apos) [] [] cpos) (tBM0 X.K T r to) := by
  intro pins s σ H Q I h
  refine wpAny_Call_method0_late hbase hline (thn (ho pins s σ H _ I h) fun v s1 ⟨x, H1, I1, r1, ty, q1⟩ => ?_)
  obtain ⟨h1, h2⟩ := tyV_is I1 r1 ty
  exact ⟨T, id, pa, slot, hty, h1, h2, Calls.callWith_builtin rfl (PySem.evalArgs_none (hm pins s1 σ H1 x [] v [] Q I1 r1 .nil q1))⟩
theorem pe_bm (pa : PlainAttrs T) (slot : Slot T name id) (hty : typeOf (.builtin id) = pure (.type "method_descriptor")) (hm : MtR X id r) (ho : PE X o to) (ha : PA X (e :: es) t)
    (hbase : attributeBase o name X.env (eval o X.env) = eval o X.env := by rfl)
    (hfew : ((backTo cpos (starEach (e :: es) X.env)).all (fun x => !x.1) && (backToKw cpos (keywordEach [] X.env)).all (fun x => x.1.isSome)
      && decide ((e :: es).length + ([] : List Keyword).length + (if ([] : List Keyword).isEmpty then 0 else 1) < 30)) = true := by rfl)
    (hline : (apos.endLine == cpos.line) = true := by rfl) (hs : starEach (e :: es) X.env = (false, eval e X.env) :: starEach es X.env := by rfl) (hplain : (backTo cpos (starEach es X.env)).any (·.1) = false := by rfl) :
    PE X (.Call (.Attribute o name apos) (e :: es) [] cpos) (tBM X.K T r to t) := by
  intro pins s σ H Q I h
  refine wpAny_Call_method_late hbase hfew hline rfl (thn (ho pins s σ H _ I h) fun v s1 ⟨x, H1, I1, r1, ty, q1⟩ => ?_)
  obtain ⟨h1, h2⟩ := tyV_is I1 r1 ty
  refine ⟨T, id, pa, slot, hty, h1, h2, ?_⟩
  have hA := ha cpos pins s1 σ H1 _ I1 q1
  rw [hs] at hA ⊢
  refine Calls.callWith_builtin (by show (false || (backTo cpos (starEach es X.env)).any (·.1)) = false; rw [hplain] <;> rfl) (Calls.evalArgs_plain ?_)
  exact thn hA fun us s2 ⟨vs, H2, I2, r2, q2⟩ => hm pins s2 σ H2 x vs v us Q I2 r1 r2 q2
/- xs.append(e), list.index on a module's tuple .. are MtR facts of 06m -/
end
end L2

namespace L2
open PySem PySem.Spec PyProof.Rows

def MtM (X : Cx) (id : String) (r : V → List V → Hp → VK → Prop) : Prop :=
  ∀ (pins : List (Addr × Obj)) (s : Shared) (σ : St) (H : Hp) (x : V) (xs : List V) (v : Value) (us : List Value) (Q : VK), Inv X pins σ H s → RelV x v → Vals xs us → r x xs H Q →
    wpAny (model X.prog X.w) X.A (call (.builtin id) (v :: us)) (EP X pins σ Q) X.xe s

theorem Vals.one : ∀ {x : V} {us : List Value}, Vals [x] us → ∃ u, us = [u] ∧ RelV x u
  | _, _, .cons r .nil => ⟨_, rfl, r⟩
theorem Vals.two : ∀ {x y : V} {us : List Value}, Vals [x, y] us → ∃ u v, us = [u, v] ∧ RelV x u ∧ RelV y v
  | _, _, _, .cons r (.cons q .nil) => ⟨_, _, rfl, r, q⟩
theorem Vals.zero : ∀ {us : List Value}, Vals [] us → us = []
  | _, .nil => rfl
theorem Vals.dropLast {xs : List V} {us : List Value} (h : Vals xs us) : Vals xs.dropLast us.dropLast := by
  induction h with
  | nil => exact .nil
  | cons r t ih =>
    cases t with
    | nil => exact .nil
    | cons q t' => exact .cons r ih
theorem Vals.reverse {xs : List V} {us : List Value} (h : Vals xs us) : Vals xs.reverse us.reverse := by
  induction h with
  | nil => exact .nil
  | cons r t ih => rw [List.reverse_cons, List.reverse_cons]; exact Vals.append ih (.cons r .nil)

section
variable {X : Cx} {pins : List (Addr × Obj)} {σ : St} {H : Hp} {s : Shared} {l b : Addr} {xs ys zs : List V}

theorem Inw.lset {its its' : List Value} {n : Nat} {f : Array Value → Array Value} {t' : Nat} (I : Inw X pins σ H s) (hH : H l = some (.lst xs))
    (e : s.heap.get? l = some { cls := .type "list", data := .seq its.toArray n }) (hf : f its.toArray = its'.toArray) (hv : Vals ys its') (hz : ys.length ≤ sizeLine) :
    Inw X pins σ (upd H l (.lst ys)) { s with heap := s.heap.update l (Obj.mapSeq f), toks := t' } := by
  have q := PySem.IsL.update e f
  rw [hf] at q
  refine I.write (x := l) (e := l) (by rw [hH]; exact trivial) (.inl rfl) (fun b' u hb hu => (Heap.get?_update_other s.heap (Obj.mapSeq f) (Ne.symm hb)).trans hu) ⟨_, q⟩ ?_
  exact ⟨hz, its', _, hv, q⟩
theorem Inw.lnew {its : List Value} {t' : Nat} (I : Inw X pins σ H s) (hv : Vals ys its) (hz : ys.length ≤ sizeLine) :
    Inw X pins σ (upd H s.heap.objs.size (.lst ys)) { s with heap := s.heap.push { cls := .type "list", data := .seq its.toArray }, toks := t' } :=
  I.laid (fun _ _ q => Heap.get?_push_of_some _ q) (Nat.le_refl _) ⟨hz, its, 0, hv, Heap.get?_push_size _ rfl⟩
theorem Inw.fresh (I : Inw X pins σ H s) : H s.heap.objs.size = none := I.hok.fresh (Nat.le_refl _)
theorem Inw.lstM (I : Inw X pins σ H s) (hH : H l = some (.lst xs)) : xs.length ≤ sizeLine ∧ ∃ (its : List Value) (n : Nat), Vals xs its ∧ xs.length = its.length ∧ s.heap.get? l = some { cls := .type "list", data := .seq its.toArray n } := by
  obtain ⟨z, its, n, r, e⟩ := I.hok l _ hH
  exact ⟨z, its, n, r, r.length, e⟩

end

section
variable {X : Cx}

def rAppend : V → List V → Hp → VK → Prop := fun x vs H Q => ∃ l xs y, x = .ref l ∧ vs = [y] ∧ H l = some (.lst xs) ∧ xs.length < sizeLine ∧ Q .non (upd H l (.lst (xs ++ [y])))
theorem mt_append : MtM X "list.append" rAppend := by
  intro pins s σ H x vs v us Q I rx rv h
  obtain ⟨l, xs, y, rfl, rfl, hH, hz, q⟩ := h
  cases rx
  obtain ⟨u, rfl, ru⟩ := rv.one
  obtain ⟨z, its, n, r, hl, e⟩ := I.lstM hH
  refine call_meets F.slot_list_append ⟨_, e, rfl⟩ F.entry_list_append (F.args_list_append_2 _ _) (PySem.list_append l its.toArray n u (by rw [List.size_toArray]; omega)) ⟨e, ?_⟩
  refine ⟨.non, _, I.lset (its' := its ++ [u]) hH e (by simp) (r.append (.cons ru .nil)) ?_, rfl, q⟩
  rw [List.length_append, List.length_singleton]
  omega


def rPop : V → List V → Hp → VK → Prop := fun x vs H Q => ∃ l xs y, x = .ref l ∧ vs = [] ∧ H l = some (.lst xs) ∧ xs[xs.length - 1]? = some y ∧ Q y (upd H l (.lst xs.dropLast))



def rClear : V → List V → Hp → VK → Prop := fun x vs H Q => ∃ l xs, x = .ref l ∧ vs = [] ∧ H l = some (.lst xs) ∧ Q .non (upd H l (.lst []))
theorem mt_clear : MtM X "list.clear" rClear := by
  intro pins s σ H x vs v us Q I rx rv h
  obtain ⟨l, xs, rfl, rfl, hH, q⟩ := h
  cases rx
  have hus := rv.zero
  subst hus
  obtain ⟨z, its, n, r, hl, e⟩ := I.lstM hH
  refine call_meets F.slot_list_clear ⟨_, e, rfl⟩ F.entry_list_clear (F.args_list_clear_1 _) (AutoSeq1.list_clear_list_0 l its.toArray n (by rw [List.size_toArray]; omega)) ⟨e, ?_⟩
  exact ⟨.non, _, I.lset (its' := []) (ys := []) hH e rfl .nil (Nat.zero_le _), rfl, q⟩

def rCat : R2 := fun x y H Q => ∃ l b xs zs, x = .ref l ∧ y = .ref b ∧ H l = some (.lst xs) ∧ H b = some (.lst zs) ∧ xs.length + zs.length ≤ sizeLine ∧ ∀ p, H p = none → Q (.ref p) (upd H p (.lst (xs ++ zs)))
theorem op_cat : OpR X (binaryOp .Add) rCat := by
  intro pins s σ H x y v u Q I rx ry h
  obtain ⟨l, b, xs, zs, rfl, rfl, hH, hB, hz, q⟩ := h
  cases rx
  cases ry
  obtain ⟨z, its, n, r, hl, e⟩ := I.lstM hH
  obtain ⟨z2, its2, n2, r2, hl2, e2⟩ := I.lstM hB
  refine PySem.P.add_list e e2 ?_ (by rw [List.size_toArray, List.size_toArray]; omega)
  have ea : its.toArray ++ its2.toArray = (its ++ its2).toArray := by simp
  rw [ea]
  exact ⟨.ref _, _, I.lnew (t' := s.toks) (r.append r2) (by rw [List.length_append]; omega), rfl, q _ I.fresh⟩

end

section
variable {prog : Program} {w : World} {A : Around} {E : Value → Shared → Prop} {s : Shared}
set_option maxRecDepth 100000 in
end

section
variable {X : Cx}
end
end L2

namespace Att
open PySem PySem.W PySem.Calls PyProof.Rows

theorem ints_of_wellAll {P : Params} {h : Heap} : ∀ (ns : List Int) (vs : List Value), WellAll P h vs (ns.map WData.int) → IntsAre vs ns := by
  intro ns
  induction ns with
  | nil =>
    intro vs w
    rw [List.map_nil] at w
    cases w
    exact .nil
  | cons n ns ih =>
    intro vs w
    rw [List.map_cons] at w
    cases w with
    | cons a b =>
      cases a
      exact .cons _ _ (ih _ b)

theorem script_of {l : OpenLaw} {n : Nat} (hn : l.most = some n) {P : Params} {h : Heap} {args : List WData} {vals : List Value}
    (hpre : l.row.toRowW.claim.pre args = true) (hwl : WellAll P h vals args) :
    ∃ a vs ns, vals = [Value.ref a] ∧ args = [WData.list (ns.map WData.int)] ∧ h.get? a = some { cls := .type "list", data := .seq vs.toArray } ∧ IntsAre vs ns ∧ ns.length ≤ n := by
  have hsh : WShape.hasAll [] args [.list .int] = true := (pre_splitW hpre).1
  have hc : l.pre.holds [] { args := args } = true := (pre_splitW hpre).2
  obtain ⟨d, r, rfl, h1, h2⟩ := hasAllW_cons hsh
  obtain rfl := hasAllW_nil h2
  obtain ⟨xs, rfl, h3⟩ := hasW_list h1
  obtain ⟨ns, rfl⟩ := items_int h3
  have hlen : ns.length ≤ n := by
    unfold OpenLaw.pre at hc
    have h4 : (WTm.not (.lt (.lit (.int (n : Int))) (.len (.arg 0)))).holds [] { args := [.list (ns.map .int)] } = true := by
      have h4 := (holds_andW hc).1
      rw [hn] at h4
      exact h4
    have h5 := condW_of h4 (w_not (w_lt w_lit (w_len_list (w_arg rfl))))
    rw [List.length_map] at h5
    refine Nat.le_of_not_lt fun q => ?_
    have q' : (n : Int) < ((ns.length : Nat) : Int) := by omega
    first
      | (rw [decide_eq_true q'] at h5; exact absurd h5 (by decide))
      | (simp at h5; omega)
  cases hwl with
  | cons w1 w2 =>
    cases w2
    cases w1 with
    | list ho hall => exact ⟨_, _, ns, rfl, rfl, ho, ints_of_wellAll ns _ hall, hlen⟩

theorem post_true (l : OpenLaw) (args : List WData) : l.row.toRowW.claim.post args (.bool true) args = true :=
  postW_of (r := l.row.toRowW) (X := (true == true))
    (show WShape.has [] (.bool true) .bool = true by first | rfl | decide | simp [WShape.has, WShape.arms, WShape.armsAll])
    (show (WTm.eq .res (.lit (.bool true))).value [] { args := args, res := some (.bool true), after := args } = some (.bool (true == true)) from w_eq_bool (w_res rfl) w_lit) rfl


theorem attach_call {l : OpenLaw} {n : Nat} {q : Program} {loose : List Str} {XP : (Str → Option Value) → Heap → Prop} {YP : World → Heap → Prop} {d : DefRec}
    (hn : l.most = some n) (hdf : d.params.defaults = [])
    (call : ∀ (w : World) (s₀ s₁ : Shared) (mg mb : Str → Option Value) (fa : Addr) (o : Obj) (pm cd doc : Value) (a : Addr) (vs : List Value) (ns : List Int),
      Ground q loose [] XP w s₀ mg mb s₁.heap → YP w s₁.heap →
      s₁.heap.get? fa = some o → o.data = .func (docDef d.name d.params d.body d.scope pm cd doc) → s₁.heap.CodeRec cd d.name → mg d.name = some (.ref fa) →
      s₁.heap.get? a = some { cls := .type "list", data := .seq vs.toArray } → IntsAre vs ns → ns.length ≤ n → s₁.gens = #[] →
      codeAny (model l.prog w) callerA (.call (.ref fa) ⟨[.ref a], []⟩) (fun r s' => r = .ok (.ret (.bool true)) ∧ OldK s₁.heap s'.heap ∧ s'.os = s₁.os ∧ AllBare s'.gens) s₁) :
    WalkO q loose XP YP l.row.toRowW d [] (fun f vs => PySem.call f vs) := by
  intro w s₀ s₁ mg mb G Y fa o pm cd doc dV kV ho hd hcd hD hmg hg args vals as hpre hlay hrd hwl hlo
  obtain rfl : dV = .none := Dflts.none hD hdf
  obtain rfl : kV = .none := Dflts.noKw hD
  obtain ⟨a, vs, ns, rfl, rfl, hobj, hints, hlen⟩ := script_of hn hpre hwl
  refine enter_call (codeAny_mono (call w s₀ s₁ mg mb fa o pm cd doc a vs ns G Y ho (fd_plain hd) hcd hmg hobj hints hlen hg) fun r s' hq => ?_)
  obtain ⟨rfl, h2, h3, h4⟩ := hq
  exact ⟨.inl ⟨.bool true, .bool true, [], rfl, fun _ => rfl, .bool true, post_true l _, fun _ => ⟨List.Pairwise.nil, fun _ hm => (nomatch hm)⟩⟩, h2, h3, h4⟩


section
variable {prog : Program} {w : World} {A : Around} {E : Value → Shared → Prop} {s : Shared} {K : Frag}





def ledger (h : Heap) (L d : Addr) : List (Addr × Obj) := (List.range h.objs.size).filterMap fun a => if a = L ∨ a = d then none else (h.get? a).map fun o => (a, o)

end
end Att

namespace L2
open PySem PySem.Spec PyProof.Rows

theorem vals_ints : ∀ {vs : List Value} {ns : List Int}, IntsAre vs ns → Vals (ns.map V.int) vs
  | _, _, .nil => .nil
  | _, _, .cons n t h => .cons ⟨t, rfl⟩ (vals_ints h)

def Only (H : Hp) : Prop := ∀ b, H b = none ∨ ∃ o xs, H b = some (.frz o (.lst xs))

theorem law_call {P : Program} {w : World} {K : PySem.W.Frag} {mg mb : Str → Option Value} {CX : CXT} {k : Nat} {fa a : Addr} {fd : FuncData} {x : Str} {sp : Sp} {s₁ : Shared} {vs : List Value} {ns : List Int}
    (KX : K.In s₁.heap) (hns : s₁.heap.Ns mainGlobals mg) (hb : s₁.heap.Ns builtinsNs mb) (hbb : ∀ x : Str, x ≠ "__name__" → mb x = bootBuiltins x) (hlim : s₁.heap.NoLimit) (hg : s₁.gens = #[])
    (ha : s₁.heap.get? a = some { cls := .type "list", data := .seq vs.toArray }) (hi : IntsAre vs ns) (hl : ns.length ≤ sizeLine) (hr : Room k callerA)
    (F : ∀ base : Heap, K.In base → base.Ns mainGlobals mg → FnOkL P w K mg base CX k fa fd [x] sp) (hbind : ∀ (s : Shared) (u : Value), BindsTo s fd ⟨[u], []⟩ [(x, u)])
    (hsp : ∀ H : Hp, Only H → SqL K H a (ns.map V.int) → sp [.ref a] H (fun v _ => v = .bl true) fun _ _ _ => False)
    (hCX : ∀ H e s', CX [] H s₁ (fun _ _ _ => False) e s' → False) :
    codeAny (model P w) callerA (.call (.ref fa) ⟨[.ref a], []⟩) (fun r s' => r = .ok (.ret (.bool true)) ∧ OldK s₁.heap s'.heap ∧ s'.os = s₁.os ∧ AllBare s'.gens) s₁ := by
  have rv := vals_ints hi
  have lenV := hi.length
  -- from an abstract heap in which nothing but the script may be tracked
  have core : ∀ H : Hp, Only H → SqL K H a (ns.map V.int) → HOk P w H s₁.heap → (∀ b, H b ≠ none → b = a) → (H a ≠ none → K.lookup a = none) →
      codeAny (model P w) callerA (.call (.ref fa) ⟨[.ref a], []⟩) (fun r s' => r = .ok (.ret (.bool true)) ∧ OldK s₁.heap s'.heap ∧ s'.os = s₁.os ∧ AllBare s'.gens) s₁ := by
    intro H hO hS hok hA hK
    have base_of : ∀ {b : Addr} {o : Obj}, s₁.heap.get? b = some o → H b = none → (hidT s₁.heap H).get? b = some o := fun e n => hidT_get e n
    have noA : ∀ {b : Addr} {o : Obj} {es : Array DictEntry} {ep : Nat}, s₁.heap.get? b = some o → o.data = .dict es ep → H b = none := fun {b o es ep} e d => by
      cases q : H b with
      | none => rfl
      | some u =>
        have e' : b = a := hA b (by rw [q]; simp)
        subst e'
        rw [ha] at e; cases e
        have d' : Data.seq vs.toArray _ = Data.dict es ep := d
        cases d'
    have nsK : ∀ {b : Addr} {m : Str → Option Value}, s₁.heap.Ns b m → (hidT s₁.heap H).Ns b m := fun {b m} ⟨o, es, ep, e, d, r⟩ => ⟨o, es, ep, base_of e (noA e d), d, r⟩
    have hKb : K.In (hidT s₁.heap H) := fun b o e => base_of (KX b o e) (by
      cases q : H b with
      | none => rfl
      | some u =>
        have e' : b = a := hA b (by rw [q]; simp)
        subst e'
        rw [hK (by rw [q]; simp)] at e; cases e)
    have hM : Mod K mg (hidT s₁.heap H) := ⟨hKb, nsK hns, ⟨mb, nsK hb, hbb⟩, let ⟨mc, h1, h2⟩ := hlim; ⟨mc, nsK h1, h2⟩⟩
    have e0 : Env0w P w K mg (hidT s₁.heap H) callerA [] s₁ H := ⟨rfl, hM, fun b o e => of_hidT e, Nat.le_of_eq (hidT_size _ _), trivial, fun b hb => absurd (show b ∈ ([] : List Addr) from hb) (by simp), hok, .of_eq hg⟩
    refine codeAny_mono ((F _ hKb (nsK hns)).run callerA [] s₁ H ⟨[.ref a], []⟩ [.ref a] [.ref a] _ _ hr e0 (hbind s₁ (.ref a)) (.cons rfl .nil) (hsp H hO hS)) fun r s' h => ?_
    cases r with
    | error e => exact (hCX H e s' h).elim
    | ok fl =>
      cases fl with
      | next => exact False.elim h
      | brk => exact False.elim h
      | cont => exact False.elim h
      | ret u =>
        obtain ⟨v, H', os, bare, un, hok', r', q⟩ := h
        have q' : v = .bl true := q
        subst q'
        obtain rfl : u = Value.bool true := r'
        refine ⟨rfl, OldK.of_keep fun b o e => ?_, os, bare⟩
        cases q : H b with
        | none => exact un.keep b o e q (by intro z; exact absurd (show b ∈ ([] : List Addr) from z) (by simp)) (by simp)
        | some u =>
          rcases hO b with z | ⟨ob, xs, z⟩
          · rw [q] at z; cases z
          · have z2 := un.frzs b ob _ z
            obtain ⟨e1, _⟩ := hok b _ z
            obtain ⟨e2, _⟩ := hok' b _ z2
            rw [e] at e1; cases e1
            exact e2
  cases hk : K.lookup a with
  | some o =>
    -- the script is one of the module's own objects
    have e := KX a o hk
    rw [ha] at e
    cases e
    refine core (fun _ => none) (fun _ => .inl rfl) (.inr ⟨_, vs.toArray, _, hk, rfl, rfl, rfl, by rw [List.size_toArray, lenV]; exact hl, by simpa using rv⟩) (fun b u z => by have z' : (none : Option HO) = some u := z; cases z') (fun b z => absurd rfl z) fun z => absurd rfl z
  | none =>
    refine core (fun b => if b = a then some (.frz { cls := .type "list", data := .seq vs.toArray } (.lst (ns.map V.int))) else none) (fun b => ?_) (.inl (.inr ⟨{ cls := .type "list", data := .seq vs.toArray }, if_pos rfl⟩)) (fun b u z => ?_) (fun b z => ?_) fun _ => hk
    · by_cases hb : b = a
      · exact .inr ⟨_, _, if_pos hb⟩
      · exact .inl (if_neg hb)
    · by_cases hb : b = a
      · have z' := (if_pos hb).symm.trans z
        cases z'
        subst hb
        exact ⟨ha, by rw [List.length_map]; exact hl, vs, _, rv, ha⟩
      · have z' := (if_neg hb).symm.trans z
        cases z'
    · by_cases hb : b = a
      · exact hb
      · exact absurd (if_neg hb) z
end L2

namespace L2
open PySem PySem.Spec PyProof.Rows

abbrev KOf {K : PySem.W.Frag} {h : Heap} (_ : K.In h) : PySem.W.Frag := K

theorem walk_of {l : PySem.W.OpenLaw} {n k : Nat} {q : Program} {loose : List Str} {XP : (Str → Option Value) → Heap → Prop} {YP : World → Heap → Prop} {d : DefRec} {K : Params → PySem.W.Frag} {CX : World → CXT} {sp : World → Sp} {x : Str}
    (hn : l.most = some n) (hn2 : n ≤ sizeLine) (hdf : d.params.defaults = []) (hr : Room k callerA)
    (hY : ∀ (w : World) (h : Heap), YP w h → (K w.params).In h)
    (F : ∀ (w : World) (mg : Str → Option Value) (fa : Addr) (h : Heap), (K w.params).In h → h.Ns mainGlobals mg → mg d.name = some (.ref fa) →
      ∃ fd : FuncData, (∀ (s : Shared) (u : Value), BindsTo s fd ⟨[u], []⟩ [(x, u)]) ∧
        ∀ base : Heap, (K w.params).In base → base.Ns mainGlobals mg → FnOkL l.prog w (K w.params) mg base (CX w) k fa fd [x] (sp w))
    (hsp : ∀ (w : World) (H : Hp) (a : Addr) (ns : List Int), ns.length ≤ n → Only H → SqL (K w.params) H a (ns.map V.int) → sp w [.ref a] H (fun v _ => v = .bl true) fun _ _ _ => False)
    (hCX : ∀ (w : World) (H : Hp) (s : Shared) (e : Value) (s' : Shared), CX w [] H s (fun _ _ _ => False) e s' → False) :
    PySem.W.WalkO q loose XP YP l.row.toRowW d [] (fun f vs => PySem.call f vs) := by
  refine Att.attach_call hn hdf fun w s₀ s₁ mg mb fa o pm cd doc a vs ns G Y ho hd hcd hmg hobj hints hlen hg => ?_
  have KX := hY w _ Y
  obtain ⟨fd, hb, hF⟩ := F w mg fa _ KX G.T.g hmg
  exact law_call KX G.T.g G.T.b G.T.builtins G.T.nolimit hg hobj hints (Nat.le_trans hlen hn2) hr hF hb (fun H hO hS => hsp w H a ns hlen hO hS) fun H e s' => hCX w H s₁ e s'
end L2

/- THE LAST THEOREM (shape; LID, My.* are yours):
   My.Adr: a structure of the addresses that your layer names (classes, functions); My.Txt K t: a structure (Prop) of the equations over K;
   My.txt_mk : {K} {implicit addresses ..} (e1 : nsIn K mainGlobals "law" = some (some (.ref f))) (e2 : K.lookup f = some ⟨oc, od, .func (fnOf "law" "law" params body scope dV kV doc pm an cdv ct), sl⟩) (e3 : codeIn K cdv "law" = true) .. : ∃ t, My.Txt K t

set_option maxRecDepth 100000 in
set_option maxHeartbeats 0 in
theorem PySem.Challenge.cw_LID_holds : PySem.Challenge.rw_LID.Holds := by
  w_on; o_law; k_head; (case hw => w_witness2)
  k_fill
  refine L2.walk_of (l := PySem.Challenge.rw_LID) (n := 63) (k := 40) (x := "script") (CX := fun w => ..) (sp := fun _ => My.sp_law) rfl (by decide) rfl ⟨rfl, by decide, by decide⟩ (fun w h Y => PySem.W.kIn_of Y) ?F ?S ?C
  case F =>
    intro w mg fa h KX G hmg
    have T : ∃ t, My.Txt (L2.KOf KX) t := by
      dsimp only [L2.KOf]                          -- K must stand as «<heap const> w.params» for k_is
      refine' My.txt_mk ?e1 ?e2 ?e3 ..
      (case e1 => PySem.W.k_is)                    -- in the order: a name -> its address -> its object -> its parts
      (case e2 => PySem.W.k_is)
      ..
    obtain ⟨t, T⟩ := T
    have e0 := hmg.symm.trans (PySem.W.mg_of KX G T.law)
    cases e0                                       -- fa is the law's own address
    exact ⟨_, fun s u => .of_eq rfl, fun base kb nb => My.law_fn T kb nb⟩     -- if «.of_eq rfl» comes too early: refine' ⟨_, ?b, fun base kb nb => My.law_fn T kb nb⟩; exact fun s u => .of_eq rfl
  case S => exact fun w H a ns hl hO hS => ..
  case C => exact ..
(the tactic k_is has no namespace: write k_is) -/

namespace L2
open PySem PySem.Spec PyProof.Rows

def inClass (s : Stmt) (j : Nat) : Stmt := match s with
  | .ClassDef _ _ _ body _ _ _ _ _ _ _ => body.getD j (.Pass ⟨0, 0, 0, 0⟩)
  | _ => .Pass ⟨0, 0, 0, 0⟩
def defArgs (s : Stmt) : Arguments := match s with
  | .FunctionDef _ a _ _ _ _ _ _ _ _ => a
  | _ => { posonlyargs := [], args := [], vararg := none, kwonlyargs := [], kw_defaults := [], kwarg := none, defaults := [] }
def defBody (s : Stmt) : List Stmt := match s with
  | .FunctionDef _ _ b _ _ _ _ _ _ _ => b
  | _ => []
def defScope (s : Stmt) : Scope := match s with
  | .FunctionDef _ _ _ _ _ _ sc _ _ _ => sc
  | _ => { kind := .function, names := [], isGenerator := false, isCoroutine := false }

abbrev CX0 : CXT := fun _ _ _ _ _ _ => False
abbrev E0 : XK := fun _ _ _ => False
theorem pass0 {X : Cx} : Passes CX0 X E0 := fun _ _ _ _ _ _ _ h => h.elim

structure Fun (K : PySem.W.Frag) (x qual : Str) (st : Stmt) (f : Addr) (fd : FuncData) : Prop where
  ex : ∃ (oc : Value) (od : Option Addr) (kV doc pm : Value) (an : Option Addr) (cdv ct : Value) (osl : Array (Option Value)),
    fd = PySem.W.fnOf x qual (defArgs st) (defBody st) (defScope st) .none kV doc pm an cdv ct ∧ K.lookup f = some ⟨oc, od, .func fd, osl⟩ ∧ PySem.W.codeIn K cdv qual = true
  kp : PySem.W.keepIn K (.ref f) = true
section
variable {P : Program} {w : World} {K : PySem.W.Frag} {mg : Str → Option Value} {base : Heap}
theorem Fun.ok {x qual : Str} {st : Stmt} {f : Addr} {fd : FuncData} {N ps : List Str} {k : Nat} {sp : Sp} (F : Fun K x qual st f fd) (S : FnScope N ps (defScope st)) (len : ∀ vs H Q E, sp vs H Q E → vs.length = ps.length)
    (hbody : ∀ (cdv : Value) (A : Around) (outer : List Env) (s : Shared) (H : Hp) (vs : List V) (Q : VK) (E : XK), Room k (A.deeper (envOfC qual (defScope st) s.heap.objs.size f cdv)) → sp vs H Q E →
      ∃ t, PSs (cxOf CX0 P w K mg base N qual (defScope st) f cdv A outer s H E).nox (defBody st) t ∧ t { nx := fun _ H' => Q .non H', rt := Q } (start N vs) H) : FnOk P w K mg base CX0 (k + 1) f fd ps sp := by
  obtain ⟨oc, od, kV, doc, pm, an, cdv, ct, osl, rfl, lk, hcd⟩ := F.ex
  refine fn_of lk hcd S len fun A outer s H vs Q E hr hsp => ?_
  obtain ⟨t, h, q⟩ := hbody cdv A outer s H vs Q E hr hsp
  exact ⟨t, h.nox, q⟩
theorem Fun.okL {x qual : Str} {st : Stmt} {f : Addr} {fd : FuncData} {N ps : List Str} {k : Nat} {sp : Sp} (F : Fun K x qual st f fd) (S : FnScope N ps (defScope st)) (len : ∀ vs H Q E, sp vs H Q E → vs.length = ps.length)
    (hbody : ∀ (cdv : Value) (A : Around) (outer : List Env) (s : Shared) (H : Hp) (vs : List V) (Q : VK) (E : XK), Room k (A.deeper (envOfC qual (defScope st) s.heap.objs.size f cdv)) → sp vs H Q E →
      ∃ t, PSsW (cxOf CX0 P w K mg base N qual (defScope st) f cdv A outer s H E).nox (defBody st) t ∧ t { nx := fun _ H' => Q .non H', rt := Q } (start N vs) H) : FnOkL P w K mg base CX0 (k + 1) f fd ps sp := by
  obtain ⟨oc, od, kV, doc, pm, an, cdv, ct, osl, rfl, lk, hcd⟩ := F.ex
  refine fn_ofL lk hcd S len fun A outer s H vs Q E hr hsp => ?_
  obtain ⟨t, h, q⟩ := hbody cdv A outer s H vs Q E hr hsp
  exact ⟨t, h.nox, q⟩
theorem Fun.binds {x qual : Str} {st : Stmt} {f : Addr} {fd : FuncData} {ps : List Str} (F : Fun K x qual st f fd)
    (h : ∀ (kV doc pm : Value) (an : Option Addr) (cdv ct : Value) (us : List Value), us.length = ps.length → bindArgs (PySem.W.fnOf x qual (defArgs st) (defBody st) (defScope st) .none kV doc pm an cdv ct) ⟨us, []⟩ = pure (ps.zip us)) : Binds K fd ps [] := by
  obtain ⟨oc, od, kV, doc, pm, an, cdv, ct, osl, rfl, lk, hcd⟩ := F.ex
  exact .all (h kV doc pm an cdv ct)
theorem fun_mk {x qual : Str} {st : Stmt} {f : Addr} {oc : Value} {od an : Option Addr} {osl : Array (Option Value)} {kV doc pm cdv ct : Value} (l : K.lookup f = some ⟨oc, od, .func (PySem.W.fnOf x qual (defArgs st) (defBody st) (defScope st) .none kV doc pm an cdv ct), osl⟩)
    (c : PySem.W.codeIn K cdv qual = true) (k : PySem.W.keepIn K (.ref f) = true) : Fun K x qual st f (PySem.W.fnOf x qual (defArgs st) (defBody st) (defScope st) .none kV doc pm an cdv ct) := ⟨⟨oc, od, kV, doc, pm, an, cdv, ct, osl, rfl, l, c⟩, k⟩
end
theorem hu_of {A : Around} {k : Nat} (hr : Room k A) : A.units + 1 < cLine := Nat.lt_of_le_of_lt (Nat.add_le_add_left (by decide : 1 ≤ 64) _) hr.units
theorem small1000 {n : Nat} (h : n ≤ 1000) : n < sizeLine := Nat.lt_of_le_of_lt h (by decide)

section
variable {X : Cx}
theorem pv (i : Nat) {x : Str} {pos : Pos} (hN : X.N[i]? = some x := by rfl) (hv : Vis X.env.scope x := by first | exact Or.inl rfl | exact Or.inr (Or.inl rfl) | exact Or.inr (Or.inr rfl)) (hd : (x == ("__debug__" : Str)) = false := by decide)
    (hcd : (x == ("__classdict__" : Str)) = false := by decide) : PE X (.Name x pos) (tVar i) := pe_var hN hv hd hcd
end

theorem iteF {A B : Prop} (h : B) : if false = true then A else B := by
  rw [if_neg Bool.false_ne_true]
  exact h
theorem iteT {A B : Prop} (h : A) : if true = true then A else B := by
  rw [if_pos rfl]
  exact h
theorem ite2 {c A B : Prop} [Decidable c] (h1 : c → A) (h2 : ¬ c → B) : if c then A else B := by
  by_cases h : c
  · rw [if_pos h]
    exact h1 h
  · rw [if_neg h]
    exact h2 h

def Same (H H' : Hp) : Prop := ∀ b o, H b = some o → H' b = some o
theorem Same.refl (H : Hp) : Same H H := fun _ _ h => h
theorem Same.trans {H H1 H2 : Hp} (a : Same H H1) (b : Same H1 H2) : Same H H2 := fun c o h => b c o (a c o h)
theorem Same.free {H H' : Hp} (e : Same H H') {l : Addr} (h : H' l = Option.none) : H l = Option.none := by
  cases q : H l with
  | none => rfl
  | some o =>
    rw [e l o q] at h
    cases h
theorem Same.seq {K : PySem.W.Frag} {H H' : Hp} {a : Addr} {xs : List V} (e : Same H H') (h : SqL K H a xs) : SqL K H' a xs := by
  rcases h with (h | ⟨o, h⟩) | h
  · exact .inl (.inl (e _ _ h))
  · exact .inl (.inr ⟨o, e _ _ h⟩)
  · exact .inr h

end L2

set_option maxHeartbeats 4000000
namespace L2
open PySem
def closOf (env : Env) : List (Str × NameKind) → List (Str × Addr) → List (Str × Addr)
  | [], cs => cs
  | (n, k) :: r, cs => if (k == .free) = true then closOf env r ((n, (env.cells.lookup n).getD 0) :: cs) else closOf env r cs
theorem closureFor_of {sc : Scope} {env : Env} (h : ∀ n, (n, NameKind.free) ∈ sc.names → ∃ c, env.cells.lookup n = some c) : closureFor sc env = pure (closOf env sc.names []) := by
  simp only [closureFor]
  generalize sc.names = l at h
  generalize ([] : List (Str × Addr)) = cs
  induction l generalizing cs with
  | nil => rfl
  | cons x r ih =>
    obtain ⟨n, k⟩ := x
    have hr : ∀ n, (n, NameKind.free) ∈ r → ∃ c, env.cells.lookup n = some c := fun n hn => h n (List.mem_cons_of_mem _ hn)
    rw [List.forIn_cons, closOf]
    by_cases hk : (k == NameKind.free) = true
    · have hk' : k = .free := by cases k <;> first | rfl | exact absurd hk (by decide)
      subst hk'
      obtain ⟨c, hc⟩ := h n List.mem_cons_self
      have e : cellOf env n = pure c := by unfold cellOf; rw [hc]
      simp only [e]
      rw [if_pos hk, if_pos hk, hc]
      exact ih hr _
    · rw [if_neg hk, if_neg hk]
      exact ih hr _
theorem closOf_lookup {env : Env} {x : Str} {c : Addr} : ∀ (l : List (Str × NameKind)) (cs : List (Str × Addr)), (∀ n, (n, NameKind.free) ∈ l → ∃ c, env.cells.lookup n = some c) → (∀ y d, cs.lookup y = some d → env.cells.lookup y = some d) →
    (closOf env l cs).lookup x = some c → env.cells.lookup x = some c
  | [], cs, _, hc, e => hc x c e
  | (n, k) :: r, cs, h, hc, e => by
    have hr : ∀ n, (n, NameKind.free) ∈ r → ∃ c, env.cells.lookup n = some c := fun n hn => h n (List.mem_cons_of_mem _ hn)
    rw [closOf] at e
    split at e
    · rename_i hk
      have hk' : k = .free := by cases k <;> first | rfl | exact absurd hk (by decide)
      subst hk'
      obtain ⟨c', hc'⟩ := h n List.mem_cons_self
      refine closOf_lookup r _ hr (fun y d hy => ?_) e
      rw [List.lookup_cons] at hy
      split at hy
      · rename_i hyn
        have : y = n := eq_of_beq hyn
        subst this
        rw [hc'] at hy
        rw [hc']; exact hy
      · exact hc y d hy
    · exact closOf_lookup r cs hr hc e
theorem closOf_has {env : Env} {x : Str} : ∀ (l : List (Str × NameKind)) (cs : List (Str × Addr)), ((x, NameKind.free) ∈ l ∨ ∃ d, cs.lookup x = some d) → ∃ d, (closOf env l cs).lookup x = some d
  | [], cs, h => by
    rcases h with h | h
    · cases h
    · exact h
  | (n, k) :: r, cs, h => by
    rw [closOf]
    split
    · rename_i hk
      refine closOf_has r _ ?_
      by_cases hx : x = n
      · subst hx; exact .inr ⟨_, by rw [List.lookup_cons]; simp; rfl⟩
      · rcases h with h | ⟨d, h⟩
        · rcases List.mem_cons.mp h with e | e
          · exact absurd (congrArg Prod.fst e) hx
          · exact .inl e
        · refine .inr ⟨d, ?_⟩
          rw [List.lookup_cons]
          have : (x == n) = false := by simpa using hx
          rw [this]; exact h
    · rename_i hk
      refine closOf_has r _ ?_
      rcases h with h | h
      · rcases List.mem_cons.mp h with e | e
        · have : k = .free := (congrArg Prod.snd e).symm
          subst this
          exact absurd rfl hk
        · exact .inl e
      · exact .inr h

theorem relabel_of {env : Env} {x : Str} {k' : NameKind} : ∀ {names : List (Str × NameKind)}, (names.map fun (n, k) => if (k == NameKind.free && env.scope.kind == .function && env.kindOf n == some .cell) then (n, NameKind.cell) else (n, k)).lookup x = some k' →
    ∃ k, names.lookup x = some k ∧ (k' = k ∨ (k = .free ∧ k' = .cell))
  | [], h => by simp at h
  | (n, k) :: r, h => by
    have ih := @relabel_of env x k' r
    have h' : List.lookup x ((if (k == NameKind.free && env.scope.kind == .function && env.kindOf n == some .cell) = true then (n, NameKind.cell) else (n, k)) :: (r.map fun (n, k) => if (k == NameKind.free && env.scope.kind == .function && env.kindOf n == some .cell) then (n, NameKind.cell) else (n, k))) = some k' := h
    cases hx : x == n with
    | true =>
      refine ⟨k, by rw [List.lookup_cons, hx], ?_⟩
      by_cases hc : (k == NameKind.free && env.scope.kind == .function && env.kindOf n == some .cell) = true
      · rw [if_pos hc, List.lookup_cons, hx] at h'
        have hk : (k == NameKind.free) = true := by
          rw [Bool.and_eq_true, Bool.and_eq_true] at hc
          exact hc.1.1
        exact .inr ⟨eq_of_beq hk, (Option.some.inj h').symm⟩
      · rw [if_neg hc, List.lookup_cons, hx] at h'
        exact .inl (Option.some.inj h').symm
    | false =>
      rw [List.lookup_cons, hx]
      by_cases hc : (k == NameKind.free && env.scope.kind == .function && env.kindOf n == some .cell) = true
      · rw [if_pos hc, List.lookup_cons, hx] at h'; exact ih h'
      · rw [if_neg hc, List.lookup_cons, hx] at h'; exact ih h'
theorem relabel_cell {env : Env} {x : Str} (hf : env.scope.kind = .function) (hx : env.kindOf x = some .cell) : ∀ {names : List (Str × NameKind)}, names.lookup x = some .free →
    (names.map fun (n, k) => if (k == NameKind.free && env.scope.kind == .function && env.kindOf n == some .cell) then (n, NameKind.cell) else (n, k)).lookup x = some .cell
  | [], h => by simp at h
  | (n, k) :: r, h => by
    have ih := @relabel_cell env x hf hx r
    show List.lookup x ((if (k == NameKind.free && env.scope.kind == .function && env.kindOf n == some .cell) = true then (n, NameKind.cell) else (n, k)) :: (r.map fun (n, k) => if (k == NameKind.free && env.scope.kind == .function && env.kindOf n == some .cell) then (n, NameKind.cell) else (n, k))) = some .cell
    cases hxn : x == n with
    | true =>
      rw [List.lookup_cons, hxn] at h
      have hk : k = .free := Option.some.inj h
      have hn : n = x := (eq_of_beq hxn).symm
      subst hk hn
      rw [if_pos (by rw [hf, hx]; decide), List.lookup_cons, hxn]
    | false =>
      rw [List.lookup_cons, hxn] at h
      by_cases hc : (k == NameKind.free && env.scope.kind == .function && env.kindOf n == some .cell) = true
      · rw [if_pos hc, List.lookup_cons, hxn]; exact ih h
      · rw [if_neg hc, List.lookup_cons, hxn]; exact ih h
def compOk (NX : List Str) (sX sc : Scope) (N : List Str) (pick : List (Option Nat)) : Bool :=
  decide (sc.kind = .function) && (sc.names.all fun y => decide (y.2 ≠ .cell)) && (sc.names.all fun y => decide (y.2 ≠ .local) || decide (sc.names.lookup y.1 = some .local)) &&
  (sc.names.all fun y => decide (y.2 ≠ .free) || decide (sX.names.lookup y.1 = some .cell)) && decide (pick.length = N.length) &&
  ((List.range N.length).all fun i => match pick[i]?, N[i]? with
    | some (some j), some x => decide (NX[j]? = some x) && decide (sc.names.lookup x = some .free) && decide (sX.names.lookup x = some .cell)
    | _, _ => true)
structure CompSc (NX : List Str) (sX sc : Scope) (N : List Str) (pick : List (Option Nat)) : Prop where
  kind : sc.kind = .function
  nocell : ∀ y ∈ sc.names, y.2 ≠ .cell
  names : ∀ y ∈ sc.names, y.2 = .local → sc.names.lookup y.1 = some .local
  free : ∀ n, (n, NameKind.free) ∈ sc.names → sX.names.lookup n = some .cell
  len : pick.length = N.length
  pk : ∀ (i j : Nat) (x : Str), pick[i]? = some (some j) → N[i]? = some x → NX[j]? = some x ∧ sc.names.lookup x = some .free ∧ sX.names.lookup x = some .cell
theorem compSc_of {NX : List Str} {sX sc : Scope} {N : List Str} {pick : List (Option Nat)} (h : compOk NX sX sc N pick = true) : CompSc NX sX sc N pick := by
  unfold compOk at h
  rw [Bool.and_eq_true, Bool.and_eq_true, Bool.and_eq_true, Bool.and_eq_true, Bool.and_eq_true] at h
  obtain ⟨⟨⟨⟨⟨h1, h2⟩, h3⟩, h4⟩, h5⟩, h6⟩ := h
  rw [List.all_eq_true] at h2 h3 h4 h6
  refine ⟨of_decide_eq_true h1, fun y hy => of_decide_eq_true (h2 y hy), fun y hy hl => ?_, fun n hn => ?_, of_decide_eq_true h5, fun i j x e1 e2 => ?_⟩
  · have q := h3 y hy
    rw [Bool.or_eq_true] at q
    rcases q with q | q
    · exact absurd hl (of_decide_eq_true q)
    · exact of_decide_eq_true q
  · have q := h4 _ hn
    rw [Bool.or_eq_true] at q
    rcases q with q | q
    · exact absurd rfl (of_decide_eq_true q)
    · exact of_decide_eq_true q
  · have q := h6 i (List.mem_range.mpr (List.getElem?_eq_some_iff.mp e2).1)
    rw [e1, e2] at q
    have q' : (decide (NX[j]? = some x) && decide (sc.names.lookup x = some .free) && decide (sX.names.lookup x = some .cell)) = true := q
    rw [Bool.and_eq_true, Bool.and_eq_true] at q'
    exact ⟨of_decide_eq_true q'.1.1, of_decide_eq_true q'.1.2, of_decide_eq_true q'.2⟩

section
variable {prog : Program} {w : World} {A : Around} {E : Value → Shared → Prop} {R : Result → Shared → Prop} {s : Shared}
theorem compLoop_any {elt target iter : Expr} {ifs : List Expr} {scope : Scope} {pos : Pos} {it acc : Value} {env : Env} (I : Nat → Shared → Prop)
    (turn : ∀ n s, I n s → wpAny (model prog w) A (pyNext it) (fun r s₁ => match r with
      | none => R (.ok .next) s₁
      | some v => wpAny (model prog w) A (letOwnedTupleGo target it v) (fun _ s₀ => wpAny (model prog w) A (assign target env v) (fun _ s₂ =>
          wpAny (model prog w) A (forIn ifs true fun c r => if r = true then do let ok ← isTrue c env (eval c env); pure (ForInStep.yield ok) else pure (ForInStep.yield r)) (fun ok s₃ =>
            if ok = true then wpAny (model prog w) A (eval elt env) (fun x s₄ =>
              wpAny (model prog w) A (call (.builtin "list.append") [acc, x]) (fun _ s₅ => ∃ m, m < n ∧ I m s₅) (notedBy (model prog w) A env fun e s' => R (.error e) s') s₄) (notedBy (model prog w) A env fun e s' => R (.error e) s') s₃
            else ∃ m, m < n ∧ I m s₃) (notedBy (model prog w) A env fun e s' => R (.error e) s') s₂) (notedBy (model prog w) A env fun e s' => R (.error e) s') s₀) (notedBy (model prog w) A env fun e s' => R (.error e) s') s₁) (notedBy (model prog w) A env fun e s' => R (.error e) s') s)
    (n : Nat) (h : I n s) :
    codeAny (model prog w) A (.compLoop (.ListComp elt [⟨target, iter, ifs, 0⟩] scope pos) 0 it acc env) R s := by
  refine codeAny_loop rfl I (fun n s hI => ?_) n h
  show wpAny _ A ((compTurn (.ListComp elt [⟨target, iter, ifs, 0⟩] scope pos) 0 it acc env).onRaise (fun x => do noteFrame x env; theTreesLotGoes x)) _ _ s
  refine wpAny_noted ?_
  rw [compTurn_list]
  refine wpAny_bind (wpAny_standAt (wpAny_bind (wpAny_mono (turn n s hI) (fun r s₁ h₁ => ?_) fun _ _ h' => h')))
  cases r with
  | none => exact wpAny_pure h₁
  | some v =>
    refine wpAny_bind (wpAny_mono h₁ (fun _ s₀ h₀ => ?_) fun _ _ h' => h')
    refine wpAny_bind (wpAny_mono h₀ (fun _ s₂ h₂ => wpAny_bind (wpAny_mono h₂ (fun ok s₃ h₃ => ?_) fun _ _ h' => h')) fun _ _ h' => h')
    cases ok with
    | false => exact wpAny_pure ⟨rfl, h₃⟩
    | true =>
      exact wpAny_bind (wpAny_bind (wpAny_mono h₃ (fun x s₄ h₄ => wpAny_bind (wpAny_mono h₄ (fun _ s₅ h₅ => wpAny_pure (wpAny_pure ⟨rfl, h₅⟩)) fun _ _ h' => h')) fun _ _ h' => h'))
end
end L2

namespace L2
open PySem PySem.Spec PyProof.Rows
theorem Inw.track {X : Cx} {pins : List (Addr × Obj)} {σ : St} {H : Hp} {s : Shared} {a : Addr} {o : HO} (I : Inw X pins σ H s) (hn : H a = none) (hL : a ≠ X.env.locals) (h1 : X.s₀.heap.objs.size ≤ a)
    (h2 : ∀ x c, X.env.cells.lookup x = some c → c ≠ a) (h3 : ∀ p ∈ X.pn ++ pins, p.1 ≠ a) (new : ObjOk X.prog X.w (upd H a o) s.heap a o) : Inw X pins σ (upd H a o) s := by
  have ne : ∀ b u, H b = some u → b ≠ a := fun b u e => ne_of_none e hn
  have old : ∀ b ob, X.s₀.heap.get? b = some ob → b ≠ a := fun b ob e z => by
    subst z; exact absurd (Nat.lt_of_lt_of_le (Heap.lt_size e) h1) (Nat.lt_irrefl _)
  refine ⟨I.ok, I.os, I.bare, ⟨I.base.keep, I.base.slot, fun b ob e n hx => ?_, I.base.there, fun b xs e => ?_, fun b ob u e => ?_, fun b ps e => ?_⟩, I.loc, I.cell, ?_, fun x c e => ?_, fun p hp => ?_, fun b u e => ?_, I.len⟩
  · rw [upd_ne (old b ob e)]; exact I.base.free b ob e n hx
  · have q := I.base.tups b xs e; rw [upd_ne (ne b _ q)]; exact q
  · have q := I.base.frzs b ob u e; rw [upd_ne (ne b _ q)]; exact q
  · obtain ⟨more, q⟩ := I.base.tbls b ps e; exact ⟨more, by rw [upd_ne (ne b _ q)]; exact q⟩
  · rw [upd_ne (Ne.symm hL)]; exact I.free
  · rw [upd_ne (h2 x c e)]; exact I.freeC x c e
  · obtain ⟨e, n, ne', nf, d⟩ := I.pin p hp
    exact ⟨e, by rw [upd_ne (h3 p hp)]; exact n, ne', nf, d⟩
  · by_cases hb : b = a
    · subst hb; rw [upd_same] at e; cases e; exact new
    · rw [upd_ne hb] at e
      exact (I.hok b u e).stay (fun _ _ _ q => q) (fun c q => by rw [upd_ne (ne c _ q)]; exact q) fun c xs q => by rw [upd_ne (ne c _ q)]; exact q

def Cx.blk (X : Cx) (sc : Scope) (N : List Str) (C : Addr) (s₀ : Shared) (H₀ : Hp) (ex : List Addr) : Cx :=
  { X with N := N, s₀ := s₀, H₀ := H₀, env := compEnvC sc (closOf X.env sc.names []) C X.env, outer := X.stack, ex := ex, fn := fun _ => false, pn := [], xe := fun _ _ => False }
def pickS (pick : List (Option Nat)) (σ : St) : St := pick.map fun o => match o with
  | none => none
  | some j => match σ[j]? with
    | some (some v) => some v
    | _ => none
theorem pickS_get {pick : List (Option Nat)} {σ : St} {i : Nat} {v : V} (h : (pickS pick σ)[i]? = some (some v)) : ∃ j, pick[i]? = some (some j) ∧ σ[j]? = some (some v) := by
  unfold pickS at h
  rw [List.getElem?_map] at h
  cases e : pick[i]? with
  | none => rw [e] at h; cases h
  | some o =>
    rw [e] at h
    cases o with
    | none => cases h
    | some j =>
      refine ⟨j, rfl, ?_⟩
      have h' : (match σ[j]? with | some (some v) => some v | _ => none) = some v := Option.some.inj h
      cases e2 : σ[j]? with
      | none => rw [e2] at h'; cases h'
      | some o2 =>
        rw [e2] at h'
        cases o2 with
        | none => cases h'
        | some v' => cases h'; rfl
section
variable {X : Cx} {pins : List (Addr × Obj)} {σ : St} {H : Hp} {s₂ : Shared} {NX N : List Str} {sX sc : Scope} {pick : List (Option Nat)} {fp : List Addr}
theorem blk_cell (I : Inv X pins σ H s₂) (ck : CompSc NX sX sc N pick) (hX : X.env.scope = sX) {x : Str} {c : Addr} (e : (closOf X.env sc.names []).lookup x = some c) : X.env.cells.lookup x = some c :=
  closOf_lookup sc.names [] (fun n hn => I.ok.has n (.inl (by show X.env.scope.names.lookup n = _; rw [hX]; exact ck.free n hn))) (fun _ _ h => by simp at h) e
theorem blk_clos (I : Inv X pins σ H s₂) (ck : CompSc NX sX sc N pick) (hX : X.env.scope = sX) : closureFor sc X.env = pure (closOf X.env sc.names []) :=
  closureFor_of fun n hn => I.ok.has n (.inl (by show X.env.scope.names.lookup n = _; rw [hX]; exact ck.free n hn))
theorem blk_fp (I : Inv X pins σ H s₂) (ck : CompSc NX sX sc N pick) (hX : X.env.scope = sX) {C D : Addr} {od : Obj} {H' : Hp} (hC : s₂.heap.objs.size ≤ C) (hD : s₂.heap.objs.size ≤ D) (hf : ∀ b ∈ fp, FpOk X pins H b) (hfl : ∀ b ∈ fp, b < s₂.heap.objs.size) (hn : ∀ b ∈ fp, H' b = none) :
    ∀ b ∈ fp, FpOk (X.blk sc N C s₂ H fp) [(D, od)] H' b := fun b hb => by
  obtain ⟨f0, f1, f2, f3, f4, f5⟩ := hf b hb
  have hlt := hfl b hb
  refine ⟨hn b hb, Nat.ne_of_lt (Nat.lt_of_lt_of_le hlt hC), fun z => ?_, .inl hb, fun x c e => f4 x c (blk_cell I ck hX e), fun p hp => ?_⟩
  · rcases List.mem_cons.mp (I.stkSub b z) with e | e
    · exact f1 e
    · exact f2 e
  · have hp' : p ∈ [(D, od)] := hp
    rw [List.mem_singleton] at hp'
    subst hp'
    exact Nat.ne_of_gt (Nat.lt_of_lt_of_le hlt hD)
theorem blk_inv (I : Inv X pins σ H s₂) (ck : CompSc NX sX sc N pick) (hN : X.N = NX) (hX : X.env.scope = sX) (hf : ∀ b ∈ fp, FpOk X pins H b) (hfl : ∀ b ∈ fp, b < s₂.heap.objs.size) {h₁ : Heap} {C D : Addr} {od : Obj} {m : Str → Option Value} {tk : Nat}
    (old : ∀ b o, s₂.heap.get? b = some o → h₁.get? b = some o) (hD : s₂.heap.objs.size ≤ D) (hC : s₂.heap.objs.size ≤ C) (hDC : D ≠ C) (hod : h₁.get? D = some od) (hodc : ∀ v, od.data ≠ .cell v) (ns : h₁.Ns C m) :
    Inw (X.blk sc N C s₂ H fp) [(D, od)] (pickS pick σ) H { s₂ with heap := h₁, toks := tk } := by
  have kX : X.env.scope.kind = .function := I.ok.kind
  have noStk : ∀ b, s₂.heap.objs.size ≤ b → b ∉ frs X.stack := fun b hb z => by
    rcases List.mem_cons.mp (I.stkSub b z) with e | e
    · exact absurd (Nat.lt_of_lt_of_le I.lt (by rw [← e]; exact hb)) (Nat.lt_irrefl _)
    · exact I.nofs hb e
  have ok : (X.blk sc N C s₂ H fp).Ok := by
    refine ⟨I.ok.mod, ck.kind, I.ok.glob, I.ok.blt, hC, fun x y c h1 h2 => ?_, fun x hx => ?_, fun x c h _ => ?_, I.ok.hd, I.ok.frames, .inl rfl, fun b hb => ?_, I.bs, Nat.le_trans I.ok.bsz I.sz, fun b o e hb => ?_, fun b hb z => ?_, I.stack, I.stkFree⟩
    · exact I.ok.inj x y c (blk_cell I ck hX h1) (blk_cell I ck hX h2)
    · have hx' : (relabel sc X.env).names.lookup x = some .cell ∨ (relabel sc X.env).names.lookup x = some .free := hx
      refine closOf_has sc.names [] (.inl ?_)
      rcases hx' with h | h
      · obtain ⟨k, h1, h2⟩ := relabel_of h
        rcases h2 with h2 | ⟨h2, _⟩
        · exact absurd h2.symm (ck.nocell _ (PySem.mem_of_lookup h1))
        · rw [h2] at h1; exact PySem.mem_of_lookup h1
      · obtain ⟨k, h1, h2⟩ := relabel_of h
        rcases h2 with h2 | ⟨_, h2⟩
        · rw [← h2] at h1; exact PySem.mem_of_lookup h1
        · cases h2
    · cases h
    · have hlt := hfl b hb
      exact ⟨Nat.ne_of_lt (Nat.lt_of_lt_of_le hlt hC), fun x c e => (hf b hb).2.2.2.2.1 x c (blk_cell I ck hX e)⟩
    · rcases (hf b hb).2.2.2.1 with z | z
      · exact I.ok.noex b o e z
      · exact absurd (Nat.lt_of_lt_of_le (Heap.lt_size e) (Nat.le_trans I.ok.bsz z)) (Nat.lt_irrefl _)
    · rcases List.mem_cons.mp (I.stkSub b z) with e | e
      · exact (hf b hb).2.1 e
      · exact (hf b hb).2.2.1 e
  refine ⟨ok, rfl, I.bare, Un.kept old, ⟨m, ns, fun i x v h1 h2 h3 => ?_⟩, fun x c e => ?_, I.hok.fresh hC, fun x c e => I.freeC x c (blk_cell I ck hX e), fun p hp => ?_, I.hok.kept old, ?_⟩
  · obtain ⟨j, hp, hσ⟩ := pickS_get h2
    obtain ⟨hNX, hfr, hcl⟩ := ck.pk i j x hp h1
    have kx : X.env.kindOf x = some .cell := by show X.env.scope.names.lookup x = _; rw [hX]; exact hcl
    obtain ⟨mX, _, hl⟩ := I.loc
    obtain ⟨u, r, l⟩ := hl j x v (by rw [hN]; exact hNX) hσ (.inr (.inl kx))
    refine ⟨u, r, .inr ⟨.inl (relabel_cell kX kx hfr), ?_⟩⟩
    rcases l with ⟨k, _⟩ | ⟨_, c, e, z⟩
    · rw [kx] at k; cases k
    · obtain ⟨d, hd⟩ := closOf_has (env := X.env) (x := x) sc.names [] (.inl (PySem.mem_of_lookup hfr))
      have hd' := blk_cell I ck hX hd
      rw [e] at hd'; cases hd'
      obtain ⟨o, ho, hc⟩ := z
      exact ⟨c, hd, o, old _ _ ho, hc⟩
  · obtain ⟨v, o, ho, hc⟩ := I.cell x c (blk_cell I ck hX e)
    exact ⟨v, o, old _ _ ho, hc⟩
  · have hp' : p ∈ [(D, od)] := hp
    rw [List.mem_singleton] at hp'
    subst hp'
    exact ⟨hod, I.hok.fresh hD, hDC, noStk D hD, hodc⟩
  · unfold pickS
    rw [List.length_map]
    exact ck.len
end

def PIfs (X : Cx) (ifs : List Expr) (t : TT) : Prop :=
  ∀ (pins : List (Addr × Obj)) (s : Shared) (σ : St) (H : Hp) (Q : Bool → Hp → Prop), Inv X pins σ H s → t σ H Q →
    wpAny (model X.prog X.w) X.A (forIn ifs true fun c r => if r = true then do let ok ← isTrue c X.env (eval c X.env); pure (ForInStep.yield ok) else pure (ForInStep.yield r)) (TP X pins σ Q) X.xe s
def tYes : TT := fun _ H Q => Q true H
theorem pifs_nil {X : Cx} : PIfs X [] tYes := fun _ _ _ H _ I h => wpAny_tests_nil ⟨H, I, h⟩
theorem pifs_one {X : Cx} {c : Expr} {t : TT} (h : PT X c t) : PIfs X [c] t := fun pins s σ H Q I q => wpAny_tests_one (h pins s σ H Q I q)

def tComp (wi : TI) (pick : List (Option Nat)) (g : TG) (ti : TT) (te : TE) : TE := fun σ H Q => wi σ H fun J H1 => ∃ W : Nat → Nat → List V → St → Hp → Prop, (∃ m, W 0 m [] (pickS pick σ) H1) ∧ ∀ i m ys σ' H', W i m ys σ' H' → ys.length ≤ sizeLine ∧
  ((J.stop i H' ∧ ∀ p, H' p = none → Q (.ref p) (upd H' p (.lst ys))) ∨
   (J.go i H' ∧ ∃ N : List V → St → Hp → Prop, (∀ zs τ L, N zs τ L → ∃ m', m' < m ∧ W (i + 1) m' zs τ L) ∧ ∀ x H2, J.yld i H' x H2 → g x σ' H2 fun σ3 H3 => ti σ3 H3 fun b H4 => if b = true then te σ3 H4 fun v H5 => N (ys ++ [v]) σ3 H5 else N ys σ3 H4))

section
variable {X : Cx} {tg iter elt : Expr} {ifs : List Expr} {NX N : List Str} {sX sc : Scope} {pick : List (Option Nat)} {wi : TI} {g : TG} {ti : TT} {te : TE} {pos : Pos}
theorem comp_block {pins : List (Addr × Obj)} {σ : St} {H : Hp} {s₂ : Shared} {it : Addr} {fp : List Addr} {tn : Nat → Heap → Prop} {J : It} {Qv : V → Hp → Prop} {E : Value → Shared → Prop} {RR : Value → Addr → Result → Shared → Prop}
    (ck : CompSc NX sX sc N pick) (hN : X.N = NX) (hX : X.env.scope = sX) (hc : X.calm = true)
    (hg : ∀ C s₀ H₀ ex, PG (X.blk sc N C s₀ H₀ ex) tg g) (hifs : ∀ C s₀ H₀ ex, PIfs (X.blk sc N C s₀ H₀ ex) ifs ti) (he : ∀ C s₀ H₀ ex, PE (X.blk sc N C s₀ H₀ ex) elt te)
    (I : Inv X pins σ H s₂) (T : Turn X.prog X.w X.K tg J fp it tn) (st : tn 0 s₂.heap) (hf : ∀ b ∈ fp, FpOk X pins H b)
    (hW : ∃ W : Nat → Nat → List V → St → Hp → Prop, (∃ m, W 0 m [] (pickS pick σ) H) ∧ ∀ i m ys σ' H', W i m ys σ' H' → ys.length ≤ sizeLine ∧
      ((J.stop i H' ∧ ∀ p, H' p = none → Qv (.ref p) (upd H' p (.lst ys))) ∨
       (J.go i H' ∧ ∃ N : List V → St → Hp → Prop, (∀ zs τ L, N zs τ L → ∃ m', m' < m ∧ W (i + 1) m' zs τ L) ∧ ∀ x H2, J.yld i H' x H2 → g x σ' H2 fun σ3 H3 => ti σ3 H3 fun b H4 => if b = true then te σ3 H4 fun v H5 => N (ys ++ [v]) σ3 H5 else N ys σ3 H4)))
    (fin : ∀ (D C : Addr) (s' : Shared) (H' : Hp) (ys : List V) (m : Str → Option Value), D ≠ C → s₂.heap.objs.size ≤ C → H' C = none → s'.heap.Ns C m → Inw X pins σ (upd H' D (.lst ys)) s' → Qv (.ref D) (upd H' D (.lst ys)) → RR (.ref D) C (.ok .next) s') :
    wpAny (model X.prog X.w) X.A (newList []) (fun acc s₃ => wpAny (model X.prog X.w) X.A (newFunctionEnv sc X.env.globals (closOf X.env sc.names []) [] X.env.qual none .none (some X.env)) (fun cenv s₄ =>
      codeAny (model X.prog X.w) X.A (.compStart (.ListComp elt [⟨tg, iter, ifs, 0⟩] sc pos) 0 (.ref it) acc { cenv with scope := relabel sc X.env }) (RR acc cenv.locals) s₄) E s₃) E s₂ := by
  obtain ⟨W, ⟨m0, w0⟩, turn⟩ := hW
  refine wpAny_newObj_type (wpAny_newFunctionEnv ck.nocell (by intro y hy; simp at hy) (fun h₁ hns₁ hsb₁ => ?_) ck.kind)
  dsimp only at hns₁ hsb₁ ⊢
  generalize hH2 : s₂.heap.push { cls := .type "list", dict := none, data := .seq ([] : List Value).toArray } = H2 at hns₁ hsb₁ ⊢
  have hC : H2.objs.size = s₂.heap.objs.size + 1 := by rw [← hH2, Heap.size_push]
  have hDC : s₂.heap.objs.size ≠ H2.objs.size := by rw [hC]; exact Nat.ne_of_lt (Nat.lt_succ_self _)
  have hCle : s₂.heap.objs.size ≤ H2.objs.size := by rw [hC]; exact Nat.le_succ _
  have old : ∀ b o, s₂.heap.get? b = some o → h₁.get? b = some o := fun b o e =>
    hsb₁.extBut b o (Nat.ne_of_lt (Nat.lt_of_lt_of_le (Heap.lt_size e) hCle)) (Heap.get?_push_of_some _ (hH2 ▸ Heap.get?_push_of_some _ e))
  have hacc : h₁.get? s₂.heap.objs.size = some { cls := .type "list", data := .seq ([] : List Value).toArray } := hsb₁.extBut _ _ hDC (Heap.get?_push_of_some _ (hH2 ▸ Heap.get?_push_size _ rfl))
  have hfl : ∀ b ∈ fp, b < s₂.heap.objs.size := fun b hb => by
    obtain ⟨o, e, _⟩ := T.obj 0 _ st b hb
    exact Heap.lt_size e
  have st₁ : tn 0 h₁ := T.keep 0 _ _ st fun b _ o e => old b o e
  generalize hDd : s₂.heap.objs.size = D at *
  generalize hCc : H2.objs.size = C at *
  have loop : ∀ s₃ : Shared, s₃ = { s₂ with heap := h₁, toks := s₂.toks + ([] : List (Str × Value)).length } →
      codeAny (model X.prog X.w) X.A (.compLoop (.ListComp elt [⟨tg, iter, ifs, 0⟩] sc pos) 0 (.ref it) (.ref D) (X.blk sc N C s₂ H fp).env) (RR (.ref D) C) s₃ := by
    rintro s₃ rfl
    have I0 : Inw (X.blk sc N C s₂ H fp) [(D, { cls := .type "list", data := .seq ([] : List Value).toArray })] (pickS pick σ) H { s₂ with heap := h₁, toks := s₂.toks + ([] : List (Str × Value)).length } :=
      blk_inv I ck hN hX hf (fun b hb => by rw [hDd]; exact hfl b hb) old (Nat.le_of_eq hDd) (by rw [hDd]; exact hCle) hDC hacc (fun v z => by cases z) hns₁
    have fpk : ∀ {od : Obj} {H' : Hp}, (∀ b ∈ fp, H' b = none) → ∀ b ∈ fp, FpOk (X.blk sc N C s₂ H fp) [(D, od)] H' b := fun {od H'} hn =>
      blk_fp I ck hX (by rw [hDd]; exact hCle) (Nat.le_of_eq hDd) hf (fun b hb => by rw [hDd]; exact hfl b hb) hn
    refine compLoop_any (fun n s' => ∃ (i : Nat) (ys : List V) (its : List Value) (c : Nat) (σ' : St) (H' : Hp), Inv (X.blk sc N C s₂ H fp) [(D, { cls := .type "list", data := .seq its.toArray c })] σ' H' s' ∧ Vals ys its ∧ tn i s'.heap ∧ (∀ b ∈ fp, H' b = none) ∧ W i n ys σ' H') ?_ m0
      ⟨0, [], [], 0, pickS pick σ, H, ⟨I0, I.pos⟩, .nil, st₁, fun b hb => (hf b hb).1, w0⟩
    rintro n s' ⟨i, ys, its, c, σ', H', I', rv, st', fr, w⟩
    obtain ⟨hlen, tw⟩ := turn i n ys σ' H' w
    rcases tw with ⟨stop, qn⟩ | ⟨go, Nx, hNx, step⟩
    · refine thn (T.done (X.blk sc N C s₂ H fp) rfl rfl rfl hc i _ s' σ' H' _ I' (fpk fr) st' stop) fun r s4 ⟨hr, I4⟩ => ?_
      subst hr
      obtain ⟨m, hn, _⟩ := I4.loc
      obtain ⟨p1, p2, p3, p4, _⟩ := I4.pin (D, _) (List.mem_append_right _ (List.mem_singleton.mpr rfl))
      have Jx : Inw X pins σ H' s4 := I.call' (ch := fp) I4.os I4.base I4.hok I4.bare fun b hb => ⟨(hf b hb).2.2.2.1, (hf b hb).2.1, (hf b hb).2.2.2.2.1, (hf b hb).2.2.2.2.2⟩
      obtain ⟨k0, k1, k2, k3, k4, k5⟩ := I.fpOk (H' := H') (b := D) (Nat.le_of_eq hDd) p2
      have Jt : Inw X pins σ (upd H' D (.lst ys)) s4 := Jx.track p2 k1 (by rw [← hDd]; exact I.sz) k4 k5 ⟨hlen, its, c, rv, p1⟩
      exact fin D C s4 H' ys m hDC hCle I4.free hn Jt (qn D p2)
    · refine thnZ I'.pos (T.item (X.blk sc N C s₂ H fp) rfl rfl rfl hc i _ s' σ' H' _ I' (fpk fr) st' go) fun r s4 z4 ⟨u, hr, h4⟩ => ?_
      subst hr
      refine thnZ z4 h4 fun _ s5 z5 ⟨x, H5, I5, r5, y5, st5, fr5⟩ => ?_
      have I5' : Inv _ _ _ _ s5 := ⟨I5.pinned (fpk fr5) (T.obj _ _ st5), z5⟩
      refine wpAny_tok z5 (wpAny_mono (hg C s₂ H fp _ s5 σ' H5 x u _ I5' r5 (step x H5 y5)) (fun _ s6 ⟨σ6, H6, I6, q6⟩ z6 => ?_) fun _ _ z _ => False.elim z)
      refine wpAny_tok z6 (wpAny_mono (hifs C s₂ H fp _ s6 σ6 H6 _ ⟨I6, z6⟩ q6) (fun b s7 ⟨H7, I7, q7⟩ z7 => ?_) fun _ _ z _ => False.elim z)
      -- what the pins say behind any step
      have keeps : ∀ {σ' : St} {H' : Hp} {s' : Shared}, Inw (X.blk sc N C s₂ H fp) ([(D, { cls := .type "list", data := .seq its.toArray c })] ++ pinsAt fp s5.heap) σ' H' s' →
          (∀ b ∈ fp, ∀ o, s5.heap.get? b = some o → s'.heap.get? b = some o) ∧ (∀ b ∈ fp, H' b = none) := fun {σ' H' s'} Iz =>
        ⟨fun b hb o e => (Iz.pin (b, o) (List.mem_append_right _ (List.mem_append_right _ (mem_pinsAt hb e)))).1, fun b hb => by
          obtain ⟨o, e, d⟩ := T.obj _ _ st5 b hb
          exact (Iz.pin (b, o) (List.mem_append_right _ (List.mem_append_right _ (mem_pinsAt hb e)))).2.1⟩
      cases b with
      | false =>
        rw [if_neg Bool.false_ne_true] at q7 ⊢
        obtain ⟨m', hm, w7⟩ := hNx _ _ _ q7
        obtain ⟨k1, k2⟩ := keeps I7
        exact ⟨m', hm, i + 1, ys, its, c, σ6, H7, ⟨I7.unpinned, z7⟩, rv, T.keep _ _ _ st5 k1, k2, w7⟩
      | true =>
        rw [if_pos rfl] at q7 ⊢
        refine wpAny_tok z7 (wpAny_mono (he C s₂ H fp _ s7 σ6 H7 _ ⟨I7, z7⟩ q7) (fun y s8 ⟨v, H8, I8, r8, q8⟩ z8 => ?_) fun _ _ z _ => False.elim z)
        obtain ⟨m', hm, w8⟩ := hNx _ _ _ q8
        obtain ⟨k1, k2⟩ := keeps I8
        obtain ⟨p1, p2, p3, p4, p5⟩ := I8.pin (D, _) (List.mem_append_right _ (List.mem_append_left _ (List.mem_singleton.mpr rfl)))
        have hsz : its.toArray.size ≤ sizeLine := by
          rw [List.size_toArray, ← rv.length]; exact hlen
        refine wpAny_list_append_plain (hsz := hsz) ⟨c, p1⟩ fun h₉ ⟨c9, e9⟩ hs₉ => ?_
        have J0 : Inw (X.blk sc N C s₂ H fp) [] σ6 H8 s8 := I8.pins_of fun p hp => absurd hp (by simp)
        have J1 : Inw (X.blk sc N C s₂ H fp) [] σ6 H8 { s8 with heap := h₉ } := J0.turned (t' := s8.toks) (it := D) (fun b o hb e => hs₉.extBut b o hb e) p2 p3 (.inr (Nat.le_of_eq hDd)) (fun x c' e z => by
          obtain ⟨v', o', ho', _⟩ := I.cell x c' (blk_cell I ck hX e)
          have := Heap.lt_size ho'
          rw [hDd, z] at this
          exact absurd this (Nat.lt_irrefl _)) (fun p hp => absurd hp (by intro z; cases z))
        have eArr : its.toArray.push y = (its ++ [y]).toArray := by simp
        rw [eArr] at e9
        refine ⟨m', hm, i + 1, ys ++ [v], its ++ [y], c9, σ6, H8, ⟨J1.pins_of fun p hp => ?_, z8⟩, rv.append (.cons r8 .nil), T.keep _ _ _ st5 fun b hb o e => hs₉.extBut b o (Nat.ne_of_lt (hfl b hb)) (k1 b hb o e), k2, w8⟩
        rw [List.mem_singleton] at hp
        subst hp
        exact ⟨e9, p2, p3, p4, fun v z => by cases z⟩
  exact codeAny_compStart_list (loop _ rfl) (T.self X.A 0 _ _ _ st₁ (loop _ rfl))

theorem pe_comp (ck : compOk NX sX sc N pick = true) (hN : X.N = NX) (hX : X.env.scope = sX) (hc : X.calm = true) (hi : PI X tg iter wi)
    (hg : ∀ C s₀ H₀ ex, PG (X.blk sc N C s₀ H₀ ex) tg g) (hifs : ∀ C s₀ H₀ ex, PIfs (X.blk sc N C s₀ H₀ ex) ifs ti) (he : ∀ C s₀ H₀ ex, PE (X.blk sc N C s₀ H₀ ex) elt te)
    (hs : ∀ x, foldedSetIterable iter X.env x = pure x := by intro _; rfl) : PE X (.ListComp elt [⟨tg, iter, ifs, 0⟩] sc pos) (tComp wi pick g ti te) := by
  intro pins s σ H Q I h
  have ck := compSc_of ck
  rw [eval_ListComp]
  refine wpAny_comprehension_free (use := none) (cl := closOf X.env sc.names []) rfl hs (blk_clos I ck hX) ck.kind ck.names (thn (hi pins s σ H _ I h) fun v s1 g1 => ?_)
  refine thnZ g1.pos g1.run fun itv s2 z2 h2 => ?_
  obtain ⟨it, fp, tn, J, H2, e, I2, T, st2, f2, hW⟩ := h2
  subst e
  refine comp_block (Qv := Q) (RR := fun acc C => compPost (model X.prog X.w) X.A X.xe none (EP X pins σ Q) acc C) ck hN hX hc hg hifs he ⟨I2, z2⟩ T st2 f2 hW ?_
  intro D C s' H' ys m hDC hC hCn ns Jt q
  refine ⟨m, ns, fun h' hs' => ?_⟩
  obtain ⟨k0, k1, k2, k3, k4, k5⟩ := I2.fpOk (H' := upd H' D (.lst ys)) (b := C) hC (by rw [upd_ne (Ne.symm hDC)]; exact hCn)
  exact ⟨.ref D, _, Jt.turned (t' := s'.toks) (it := C) (fun b o hb e => hs'.extBut b o hb e) k0 k1 k3 k4 k5, rfl, q⟩

theorem ps_setC {i : Nat} {x : Str} {px spos : Pos} (hNd : X.N.Nodup) (hi' : X.N[i]? = some x) (hx : X.env.scope.names.lookup x = some .local) (ck : compOk NX sX sc N pick = true) (hN : X.N = NX) (hX : X.env.scope = sX) (hc : X.calm = true) (hi : PI X tg iter wi)
    (hg : ∀ C s₀ H₀ ex, PG (X.blk sc N C s₀ H₀ ex) tg g) (hifs : ∀ C s₀ H₀ ex, PIfs (X.blk sc N C s₀ H₀ ex) ifs ti) (he : ∀ C s₀ H₀ ex, PE (X.blk sc N C s₀ H₀ ex) elt te)
    (hsw : swapsWith (.ListComp elt [⟨tg, iter, ifs, 0⟩] sc pos) (some (.Name x px)) spos.line X.env = pure true := by rfl)
    (hs : ∀ x, foldedSetIterable iter X.env x = pure x := by intro _; rfl) : PS X (.Assign [.Name x px] (.ListComp elt [⟨tg, iter, ifs, 0⟩] sc pos) spos) (tAsg (tComp wi pick g ti te) (gName i)) := by
  intro pins s σ H D I h
  have ck := compSc_of ck
  rw [exec_Assign_Name_used _ _ _ _ hsw]
  refine wpAny_bind (wpAny_standAt (wpAny_bind ?_))
  show wpAny _ X.A (do let _ ← comprehension (.ListComp elt [⟨tg, iter, ifs, 0⟩] sc pos) sc X.env _ (newList []) false (eval iter X.env) (some (assign (.Name x px) X.env))) _ _ s
  refine wpAny_bind (wpAny_mono (wpAny_comprehension_free (use := some (assign (.Name x px) X.env)) (cl := closOf X.env sc.names []) (Q := fun _ s' => SP X pins D .next s') rfl hs (blk_clos I ck hX) ck.kind ck.names
    (thn (hi pins s σ H _ I h) fun v s1 g1 => ?_)) (fun _ s' q => ?_) fun _ _ z => z)
  · refine thnZ g1.pos g1.run fun itv s2 z2 h2 => ?_
    obtain ⟨it, fp, tn, J, H2, e, I2, T, st2, f2, hW⟩ := h2
    subst e
    refine comp_block (Qv := fun v H' => D.nx (σ.set i (some v)) H') (RR := fun acc C => compPost (model X.prog X.w) X.A X.xe (some (assign (.Name x px) X.env)) (fun _ s' => SP X pins D .next s') acc C) ck hN hX hc hg hifs he ⟨I2, z2⟩ T st2 f2 hW ?_
    intro D' C s' H' ys m hDC hC hCn ns Jt q
    refine wpAny_assign_Name (store_ok2 (v := .ref D') Jt hNd hi' (.inl hx) rfl (fun s'' J' ⟨a, sb, ha⟩ => ?_) (.inr hx))
    obtain ⟨k0, k1, k2, k3, k4, k5⟩ := I2.fpOk (H' := upd H' D' (.lst ys)) (b := C) hC (by rw [upd_ne (Ne.symm hDC)]; exact hCn)
    have hCa : C ≠ a := by
      rcases ha with z | z
      · rw [z]; exact k1
      · exact fun e => k4 x a z e.symm
    refine ⟨m, ns.sameBut sb hCa, fun h' hs' => ?_⟩
    exact ⟨_, _, J'.turned (t' := s''.toks) (it := C) (fun b o hb e => hs'.extBut b o hb e) k0 k1 k3 k4 k5, q⟩
  · first
      | exact wpAny_pure (wpAny_pure q)
      | exact wpAny_pure q
end

section
variable {g : TG} {ti : TT} {te : TE} {Q : VK} {σ : St} {H : Hp}
theorem comp_list {K : PySem.W.Frag} {a : Addr} {xs : List V} (Pv : Nat → List V → St → Hp → Prop) (h0 : Pv 0 [] σ H) (hl : ∀ i ys σ H, i ≤ xs.length → Pv i ys σ H → SqL K H a xs ∧ ys.length ≤ sizeLine)
    (hs : ∀ i x ys σ H, xs[i]? = some x → Pv i ys σ H → g x σ H fun σ3 H3 => ti σ3 H3 fun b H4 => if b = true then te σ3 H4 fun v H5 => Pv (i + 1) (ys ++ [v]) σ3 H5 else Pv (i + 1) ys σ3 H4)
    (hd : ∀ ys σ H, Pv xs.length ys σ H → ∀ p, H p = none → Q (.ref p) (upd H p (.lst ys))) :
    ∃ W : Nat → Nat → List V → St → Hp → Prop, (∃ m, W 0 m [] σ H) ∧ ∀ i m ys σ' H', W i m ys σ' H' → ys.length ≤ sizeLine ∧
      (((Itl K a).stop i H' ∧ ∀ p, H' p = none → Q (.ref p) (upd H' p (.lst ys))) ∨
       ((Itl K a).go i H' ∧ ∃ N : List V → St → Hp → Prop, (∀ zs τ L, N zs τ L → ∃ m', m' < m ∧ W (i + 1) m' zs τ L) ∧ ∀ x H2, (Itl K a).yld i H' x H2 → g x σ' H2 fun σ3 H3 => ti σ3 H3 fun b H4 => if b = true then te σ3 H4 fun v H5 => N (ys ++ [v]) σ3 H5 else N ys σ3 H4)) := by
  refine ⟨fun i m ys σ H => m = xs.length - i ∧ i ≤ xs.length ∧ Pv i ys σ H, ⟨xs.length, by simp, Nat.zero_le _, h0⟩, ?_⟩
  rintro i m ys σ H ⟨rfl, hi, p⟩
  obtain ⟨q, hz⟩ := hl i ys σ H hi p
  refine ⟨hz, ?_⟩
  by_cases hlt : i < xs.length
  · refine .inr ⟨⟨xs, xs[i], q, by simp [hlt]⟩, Pv (i + 1), fun zs σ' H' p' => ⟨xs.length - (i + 1), by omega, rfl, hlt, p'⟩, fun x H' y => ?_⟩
    obtain ⟨e, y⟩ := y
    subst e
    exact hs i x ys σ _ (y xs q) p
  · have e : i = xs.length := by omega
    subst e
    exact .inl ⟨⟨xs, q, Nat.le_refl _⟩, hd ys σ H p⟩
end

end L2

namespace L2
open PySem PySem.Spec PyProof.Rows
def ItrS (lo st : Int) (n : Nat) : It := ⟨fun i _ => i < n, fun i H x H' => H' = H ∧ x = .int (lo + i * st), fun i _ => n ≤ i⟩
theorem turn_rangeS {P : Program} {w : World} {K : PySem.W.Frag} {tg : Expr} (it : Addr) (lo st : Int) (n : Nat) : Turn P w K tg (ItrS lo st n) [it] it (fun i h => IsRangeIter h it (lo + (i : Nat) * st) ((n : Int) - (i : Nat)) st) where
  mem := by simp
  obj := fun i h q b hb => by
    have e : b = it := by simpa using hb
    subst e
    exact ⟨_, q, fun v z => by
      have z' : Data.fields _ = Data.cell v := z
      cases z'⟩
  keep := fun i h h' q k => k it (by simp) _ q
  item := by
    intro X hP hw hK hc i pins s σ H E I hf q hg
    subst hP hw hK
    obtain ⟨f0, f1, f2, f3, f4, f5⟩ := hf it (by simp)
    have W := Walks.range (prog := X.prog) (w := X.w) (I.ok.hd hc) it lo st n
    refine W.item i s _ _ hg q fun v h' tk hv st' kk => ?_
    obtain ⟨t, rfl⟩ := hv
    have I1 : Inw X pins σ H { s with heap := h', toks := tk } := I.turned (fun b o hb e => kk b o (by simpa using hb) e) f0 f1 f3 f4 f5
    exact ⟨_, rfl, go_of (s := { s with heap := h', toks := tk }) (n := "range_iterator") st' rfl rfl (by decide) ⟨.int (lo + i * st), H, I1, ⟨t, rfl⟩, ⟨rfl, rfl⟩, st', fun b hb => (hf b hb).1⟩⟩
  done := by
    intro X hP hw hK hc i pins s σ H E I hf q hg
    subst hP hw hK
    obtain ⟨f0, f1, f2, f3, f4, f5⟩ := hf it (by simp)
    exact wpAny_pyNext_range_end (I.ok.hd hc) q (by have : n ≤ i := hg; omega) fun h' eb => ⟨rfl, I.turned (t' := s.toks) (fun b o hb e => eb b o hb e) f0 f1 f3 f4 f5⟩
  self := fun _ _ _ _ _ q h => wpAny_pyIter_rangeiter q h
section
variable {X : Cx} {tg : Expr}
def iRng3 (ta : TA) : TI := fun σ H R => ta σ H fun vs H1 => ∃ j c : Int, vs = [.int 0, .int j, .int c] ∧ (0 ≤ j ∧ j ≤ 16777216 ∧ 1 ≤ c ∧ c ≤ 1000000) ∧ R (ItrS 0 c ((j + c - 1) / c).toNat) H1
theorem for_rangeS {lo st : Int} {n : Nat} {g : TG} {tb : TS} {D : Ends} {σ : St} {H : Hp} (Pv : Nat → St → Hp → Prop) (h0 : Pv 0 σ H)
    (hs : ∀ i σ H, i < n → Pv i σ H → g (.int (lo + i * st)) σ H fun σ2 H2 => tb { D with nx := Pv (i + 1), ct := Pv (i + 1), bk := D.nx } σ2 H2) (hd : ∀ σ H, Pv n σ H → D.nx σ H) :
    ∃ W : Nat → Nat → St → Hp → Prop, (∃ m, W 0 m σ H) ∧ ∀ i m σ H, W i m σ H →
      ((ItrS lo st n).stop i H ∧ D.nx σ H) ∨ ((ItrS lo st n).go i H ∧ ∃ N : St → Hp → Prop, (∀ σ' H', N σ' H' → ∃ m', m' < m ∧ W (i + 1) m' σ' H') ∧ ∀ x H', (ItrS lo st n).yld i H x H' → g x σ H' fun σ2 H2 => tb { D with nx := N, ct := N, bk := D.nx } σ2 H2) := by
  refine ⟨fun i m σ H => m = n - i ∧ i ≤ n ∧ Pv i σ H, ⟨n, by simp, Nat.zero_le _, h0⟩, ?_⟩
  rintro i m σ H ⟨rfl, hi, p⟩
  by_cases hlt : i < n
  · refine .inr ⟨hlt, Pv (i + 1), fun σ' H' p' => ⟨n - (i + 1), by omega, rfl, hlt, p'⟩, fun x H' y => ?_⟩
    obtain ⟨e, y⟩ := y
    subst e y
    exact hs i σ _ hlt p
  · have e : i = n := by omega
    subst e
    exact .inl ⟨Nat.le_refl _, hd σ H p⟩
end

def Ite (K : PySem.W.Frag) (a : Addr) : It :=
  ⟨fun i H => ∃ xs x, SqL K H a xs ∧ xs[i]? = some x, fun i H x H' => ∃ (T : Addr) (y : V), H T = none ∧ x = .ref T ∧ H' = upd H T (.tup [.int i, y]) ∧ ∀ xs, SqL K H a xs → xs[i]? = some y, fun i H => ∃ xs, SqL K H a xs ∧ xs.length ≤ i⟩
theorem turn_enum {P : Program} {w : World} {K : PySem.W.Frag} {es : List Expr} {k : Nat} {tp : Pos} (a e it : Addr) (hei : e ≠ it) : Turn P w K (.Tuple es k tp) (Ite K a) [e, it] e (fun i h => (∃ old, IsEnum h e it i old) ∧ h.IsListIter it a i) where
  mem := by simp
  obj := fun i h q b hb => by
    obtain ⟨⟨old, he⟩, o, ho, c, d⟩ := q
    have hb' : b = e ∨ b = it := by simpa using hb
    rcases hb' with z | z
    · subst z
      exact ⟨_, he, fun v z => by
        have z' : Data.fields _ = Data.cell v := z
        cases z'⟩
    · subst z
      exact ⟨o, ho, fun v z => by rw [d] at z; cases z⟩
  keep := fun i h h' q kk => ⟨let ⟨old, he⟩ := q.1; ⟨old, kk e (by simp) _ he⟩, q.2.at fun o x => kk it (by simp) o x⟩
  item := by
    intro X hP hw hK hc i pins s σ H E I hf q hg
    subst hP hw hK
    obtain ⟨xs, x, hq, hx⟩ := hg
    obtain ⟨its, rv, p, hz⟩ := I.list hq
    obtain ⟨u, hu, ru⟩ := rv.get hx
    obtain ⟨⟨old, he⟩, hit⟩ := q
    obtain ⟨f0, f1, f2, f3, f4, f5⟩ := hf e (by simp)
    obtain ⟨g0, g1, g2, g3, g4, g5⟩ := hf it (by simp)
    refine wpAny_pyNext_enum_item he hit p.isList (x := u) (by simpa using hu) hei fun h' ho hit' hT hsz hk => ?_
    refine ⟨_, rfl, wpAny_letOwnedTupleGo_enum ho fun h2 he2 hs2 => ?_⟩
    have helt : e < s.heap.objs.size := Heap.lt_size he
    -- both records have turned, the tuple is new
    have k2 : ∀ b o, b ≠ e → b ≠ it → s.heap.get? b = some o → h2.get? b = some o := fun b o b1 b2 q => hs2.extBut b o b1 (hk b o b1 b2 q)
    have hT2 : h2.get? s.heap.objs.size = some { cls := .type "tuple", data := .seq #[.int i s.toks, u] } := hs2.extBut _ _ (Nat.ne_of_gt helt) hT
    have fn : H s.heap.objs.size = none := I.hok.fresh (Nat.le_refl _)
    have I1 : Inw X pins σ (upd H s.heap.objs.size (.tup [.int i, x])) { s with heap := h2, toks := s.toks + 1 } := by
      obtain ⟨m, ⟨oL, es, ep, hoL, rL⟩, _⟩ := id I.loc
      refine I.step (g' := s.gens) (d' := s.drawn) (ch := [e, it]) (fun b hb => ?_) (fun b o _ _ hcx q _ => k2 b o (fun z => hcx (by simp [z])) (fun z => hcx (by simp [z])) q)
        (fun b o _ _ hcx q _ => ⟨o.slots, k2 b o (fun z => hcx (by simp [z])) (fun z => hcx (by simp [z])) q⟩) (fun b o _ q n => ?_) (fun b o hcx q => ⟨o, k2 b o (fun z => hcx (by simp [z])) (fun z => hcx (by simp [z])) q⟩)
        (fun b ys q => by rw [upd_ne (ne_of_none q fn)]; exact q) (fun b o u q => by rw [upd_ne (ne_of_none q fn)]; exact q) (fun b ps q => ⟨#[], by rw [upd_ne (ne_of_none q fn), q]; simp⟩) (fun m' hm => ?_) (fun b v q => ?_) I.bare
      · have hb' : b = e ∨ b = it := by simpa using hb
        rcases hb' with z | z
        · subst z; exact ⟨f3, f1, f4, f5⟩
        · subst z; exact ⟨g3, g1, g4, g5⟩
      · rw [upd_ne (Nat.ne_of_lt (Heap.lt_size q))]; exact n
      · obtain ⟨o', es', ep', ho', r'⟩ := hm
        exact ⟨o', es', ep', k2 _ _ (Ne.symm f1) (Ne.symm g1) ho', r'⟩
      · by_cases hb : b = s.heap.objs.size
        · subst hb
          rw [upd_same] at q
          cases q
          exact ⟨by show 2 ≤ sizeLine; decide, [.int i s.toks, u], .cons ⟨_, rfl⟩ (.cons ru .nil), _, hT2, rfl, _, rfl⟩
        · rw [upd_ne hb] at q
          refine (I.hok b v q).stay (fun c w hcx r => k2 c w ?_ ?_ r) (fun c r => by rw [upd_ne (ne_of_none r fn)]; exact r) fun c ys r => by rw [upd_ne (ne_of_none r fn)]; exact r
          · intro z; subst z
            rcases hcx with z | z
            · rw [← z, f0] at q; cases q
            · rw [f0] at z; cases z
          · intro z; subst z
            rcases hcx with z | z
            · rw [← z, g0] at q; cases q
            · rw [g0] at z; cases z
    refine ⟨.ref s.heap.objs.size, _, I1, rfl, ⟨_, x, fn, rfl, rfl, fun ys hy => by rw [I.list_inj hy hq]; exact hx⟩, ⟨⟨_, by simpa using he2⟩, hit'.at fun o y => (hs2.2 it hei.symm).trans y⟩, fun b hb => ?_⟩
    have hb' : b = e ∨ b = it := by simpa using hb
    rcases hb' with z | z
    · subst z; rw [upd_ne (Nat.ne_of_lt helt)]; exact f0
    · subst z
      obtain ⟨o, ho', _⟩ := hit
      rw [upd_ne (Nat.ne_of_lt (Heap.lt_size ho'))]; exact g0
  done := by
    intro X hP hw hK hc i pins s σ H E I hf q hg
    subst hP hw hK
    obtain ⟨xs, hq, hx⟩ := hg
    obtain ⟨its, rv, p, hz⟩ := I.list hq
    obtain ⟨⟨old, he⟩, hit⟩ := q
    obtain ⟨g0, g1, g2, g3, g4, g5⟩ := hf it (by simp)
    have hl := rv.length
    exact wpAny_pyNext_enum_end (I.ok.hd hc) he hit p.isList (by simp; omega) fun h' eb => ⟨rfl, I.turned (t' := s.toks) (fun b o hb e => eb b o hb e) g0 g1 g3 g4 g5⟩
  self := fun _ _ _ _ _ q h => let ⟨⟨_, he⟩, _⟩ := q; wpAny_pyIter_enum he h
section
variable {X : Cx} {es : List Expr} {k : Nat} {tp : Pos}
def iEnum (K : PySem.W.Frag) (ta : TA) : TI := fun σ H R => ta σ H fun vs H1 => ∃ a, vs = [.ref a] ∧ (∃ xs, SqL K H1 a xs) ∧ R (Ite K a) H1
theorem boot_enum : bootBuiltins "enumerate" = some (.type "enumerate") := by decide +kernel
theorem pi_enum {a : Expr} {ta : TA} {p pos : Pos} (hg : Gl X "enumerate") (hm : X.mg "enumerate" = none) (ha : PA X [a] ta) (hs : starEach [a] X.env = [(false, eval a X.env)] := by rfl) :
    PI X (.Tuple es k tp) (.Call (.Name "enumerate" p) [a] [] pos) (iEnum X.K ta) := by
  intro pins s σ H R I h
  refine Call_ (ld_blt I hg hm boot_enum (PyProof.Rows.callWith_type1 (thn (ha pos pins s σ H _ I h) fun us s1 ⟨vs, H1, I1, r1, q1⟩ => ?_) hs rfl))
  obtain ⟨a', e, ⟨xs, hq⟩, q⟩ := q1
  subst e
  obtain ⟨u, rfl, ru⟩ := vals1 r1
  cases ru
  obtain ⟨its, rv, pl, hz⟩ := I1.list hq
  refine call_enumerate_list pl.isList fun h' he hit hsz kp => ?_
  refine wpAny_pyIter_enum he ?_
  have I2 : Inw X pins σ H1 { s1 with heap := h' } := I1.kept (t' := s1.toks) kp
  refine ⟨s1.heap.objs.size + 1, [s1.heap.objs.size + 1, s1.heap.objs.size], _, _, H1, rfl, I2, turn_enum a' _ _ (Nat.succ_ne_self _), ⟨⟨_, he⟩, hit⟩, fun b hb => ?_, q⟩
  have hb' : b = s1.heap.objs.size + 1 ∨ b = s1.heap.objs.size := by simpa using hb
  rcases hb' with z | z
  · subst z; exact I1.fpOk (Nat.le_succ _) (I1.hok.fresh (Nat.le_succ _))
  · subst z; exact I1.fpOk (Nat.le_refl _) (I1.hok.fresh (Nat.le_refl _))
theorem for_enum {K : PySem.W.Frag} {a : Addr} {xs : List V} {g : TG} {tb : TS} {D : Ends} {σ : St} {H : Hp} (Pv : Nat → St → Hp → Prop) (h0 : Pv 0 σ H) (hl : ∀ i σ H, i ≤ xs.length → Pv i σ H → SqL K H a xs)
    (hs : ∀ (i : Nat) y T σ H, xs[i]? = some y → Pv i σ H → H T = none → g (.ref T) σ (upd H T (.tup [.int i, y])) fun σ2 H2 => tb { D with nx := Pv (i + 1), ct := Pv (i + 1), bk := D.nx } σ2 H2) (hd : ∀ σ H, Pv xs.length σ H → D.nx σ H) :
    ∃ W : Nat → Nat → St → Hp → Prop, (∃ m, W 0 m σ H) ∧ ∀ i m σ H, W i m σ H →
      ((Ite K a).stop i H ∧ D.nx σ H) ∨ ((Ite K a).go i H ∧ ∃ N : St → Hp → Prop, (∀ σ' H', N σ' H' → ∃ m', m' < m ∧ W (i + 1) m' σ' H') ∧ ∀ x H', (Ite K a).yld i H x H' → g x σ H' fun σ2 H2 => tb { D with nx := N, ct := N, bk := D.nx } σ2 H2) := by
  refine ⟨fun i m σ H => m = xs.length - i ∧ i ≤ xs.length ∧ Pv i σ H, ⟨xs.length, by simp, Nat.zero_le _, h0⟩, ?_⟩
  rintro i m σ H ⟨rfl, hi, p⟩
  have q := hl i σ H hi p
  by_cases hlt : i < xs.length
  · refine .inr ⟨⟨xs, xs[i], q, by simp [hlt]⟩, Pv (i + 1), fun σ' H' p' => ⟨xs.length - (i + 1), by omega, rfl, hlt, p'⟩, fun x H' y => ?_⟩
    obtain ⟨T, y, hT, e1, e2, e3⟩ := y
    subst e1 e2
    exact hs i y T σ H (e3 xs q) p hT
  · have e : i = xs.length := by omega
    subst e
    exact .inl ⟨⟨xs, q, Nat.le_refl _⟩, hd σ H p⟩
end

section
variable {X : Cx}
end

inductive DV where
  | non | bl (b : Bool) | int (i : Int) | str (x : Str) | lst (ds : List DV) | tup (ds : List DV)
mutual
def Deep (K : PySem.W.Frag) (H : Hp) : DV → V → Prop
  | .non, v => v = .non
  | .bl b, v => v = .bl b
  | .int i, v => v = .int i
  | .str x, v => v = .str x
  | .lst ds, v => ∃ a xs, v = .ref a ∧ SqL K H a xs ∧ Deeps K H ds xs
  | .tup ds, v => ∃ a xs, v = .ref a ∧ SqT K H a xs ∧ Deeps K H ds xs
def Deeps (K : PySem.W.Frag) (H : Hp) : List DV → List V → Prop
  | [], xs => xs = []
  | d :: ds, xs => ∃ y ys, xs = y :: ys ∧ Deep K H d y ∧ Deeps K H ds ys
end
theorem Deeps.length {K : PySem.W.Frag} {H : Hp} : ∀ {ds : List DV} {xs : List V}, Deeps K H ds xs → xs.length = ds.length
  | [], xs, h => by rw [Deeps] at h; subst h; rfl
  | d :: ds, xs, h => by rw [Deeps] at h; obtain ⟨y, ys, rfl, _, h⟩ := h; rw [List.length_cons, List.length_cons, Deeps.length h]
mutual
def dep : DV → Nat
  | .lst ds => deps ds + 1
  | .tup ds => deps ds + 1
  | _ => 0
def deps : List DV → Nat
  | [] => 0
  | d :: ds => max (dep d) (deps ds)
end
def stays {K : PySem.W.Frag} {H H' : Hp} : Prop := (∀ a xs, SqL K H a xs → SqL K H' a xs) ∧ ∀ a xs, SqT K H a xs → SqT K H' a xs
theorem Same.tup {K : PySem.W.Frag} {H H' : Hp} {a : Addr} {xs : List V} (e : Same H H') (h : SqT K H a xs) : SqT K H' a xs := by
  rcases h with (h | ⟨o, h⟩) | h
  · exact .inl (.inl (e _ _ h))
  · exact .inl (.inr ⟨o, e _ _ h⟩)
  · exact .inr h
mutual
theorem Deep.same {K : PySem.W.Frag} {H H' : Hp} (e : Same H H') : ∀ (d : DV) (v : V), Deep K H d v → Deep K H' d v
  | .non, v, h => by rw [Deep] at h ⊢; exact h
  | .bl b, v, h => by rw [Deep] at h ⊢; exact h
  | .int i, v, h => by rw [Deep] at h ⊢; exact h
  | .str x, v, h => by rw [Deep] at h ⊢; exact h
  | .lst ds, v, h => by rw [Deep] at h ⊢; obtain ⟨a, xs, r, q, t⟩ := h; exact ⟨a, xs, r, e.seq q, Deeps.same e ds xs t⟩
  | .tup ds, v, h => by rw [Deep] at h ⊢; obtain ⟨a, xs, r, q, t⟩ := h; exact ⟨a, xs, r, e.tup q, Deeps.same e ds xs t⟩
theorem Deeps.same {K : PySem.W.Frag} {H H' : Hp} (e : Same H H') : ∀ (ds : List DV) (xs : List V), Deeps K H ds xs → Deeps K H' ds xs
  | [], xs, h => by rw [Deeps] at h ⊢; exact h
  | d :: ds, xs, h => by rw [Deeps] at h ⊢; obtain ⟨y, ys, r, q, t⟩ := h; exact ⟨y, ys, r, Deep.same e d y q, Deeps.same e ds ys t⟩
end
/- the same data is equal -/
theorem all_yes : ∀ l : List Nat, (l.all fun _ => true) = true
  | [] => rfl
  | _ :: r => by rw [List.all_cons, all_yes r]; rfl
mutual
theorem eqAt_deep {X : Cx} {pins : List (Addr × Obj)} {σ : St} {H : Hp} {s : Shared} (I : Inv X pins σ H s) : ∀ (d : DV) (x y : V) (u v : Value) (A : Around), Deep X.K H d x → Deep X.K H d y → RelV x u → RelV y v → A.units + dep d < cLine → SeqAt.EqAt A s u v true
  | .non, x, y, u, v, A, hx, hy, rx, ry, hu => by
    rw [Deep] at hx hy; subst hx hy; cases rx; cases ry; exact SeqAt.EqAt.same _
  | .bl b, x, y, u, v, A, hx, hy, rx, ry, hu => by
    rw [Deep] at hx hy; subst hx hy; cases rx; cases ry; exact SeqAt.EqAt.same _
  | .int i, x, y, u, v, A, hx, hy, rx, ry, hu => by
    rw [Deep] at hx hy; subst hx hy; obtain ⟨t, rfl⟩ := rx; obtain ⟨t', rfl⟩ := ry
    have := SeqAt.EqAt.int_int (A := A) (s := s) i t i t'
    simpa using this
  | .str z, x, y, u, v, A, hx, hy, rx, ry, hu => by
    rw [Deep] at hx hy; subst hx hy; obtain ⟨t, rfl⟩ := rx; obtain ⟨t', rfl⟩ := ry
    have := SeqAt.EqAt.str_str (A := A) (s := s) z t z t'
    simpa using this
  | .lst ds, x, y, u, v, A, hx, hy, rx, ry, hu => by
    rw [Deep] at hx hy
    obtain ⟨a, xs, rfl, hq, hd⟩ := hx
    obtain ⟨b, ys, rfl, hq', hd'⟩ := hy
    cases rx; cases ry
    by_cases hab : a = b
    · subst hab; exact SeqAt.EqAt.same _
    · obtain ⟨its, r, pl, hz⟩ := I.list hq
      obtain ⟨its', r', pl', hz'⟩ := I.list hq'
      have l1 := r.length; have l2 := r'.length; have l3 := hd.length; have l4 := hd'.length
      have hu' : A.units + (deps ds + 1) < cLine := hu
      have q := SeqAt.RcAt.lists (A := A) (e := fun _ => true) pl.isList pl'.isList (by simp only [List.size_toArray]; omega) (by omega) fun j h1 h2 => by
        have := eqsAt_deep I ds xs ys its its' A.in1 hd hd' r r' (by rw [Around.in1_units]; omega) j (by simpa using h1) (by simpa using h2)
        simpa using this
      refine SeqAt.EqAt.of_refs hab ?_
      rw [all_yes] at q
      exact q
  | .tup ds, x, y, u, v, A, hx, hy, rx, ry, hu => by
    rw [Deep] at hx hy
    obtain ⟨a, xs, rfl, hq, hd⟩ := hx
    obtain ⟨b, ys, rfl, hq', hd'⟩ := hy
    cases rx; cases ry
    by_cases hab : a = b
    · subst hab; exact SeqAt.EqAt.same _
    · obtain ⟨its, r, pl, hz⟩ := I.tuple hq
      obtain ⟨its', r', pl', hz'⟩ := I.tuple hq'
      have l1 := r.length; have l2 := r'.length; have l3 := hd.length; have l4 := hd'.length
      have hu' : A.units + (deps ds + 1) < cLine := hu
      have q := SeqAt.RcAt.tuples (A := A) (e := fun _ => true) pl pl' (by omega) fun j h1 h2 => by
        have := eqsAt_deep I ds xs ys its its' A.in1 hd hd' r r' (by rw [Around.in1_units]; omega) j (by simpa using h1) (by simpa using h2)
        simpa using this
      refine SeqAt.EqAt.of_refs hab ?_
      have e : its.length = its'.length := by omega
      rw [all_yes] at q
      simpa [e] using q
theorem eqsAt_deep {X : Cx} {pins : List (Addr × Obj)} {σ : St} {H : Hp} {s : Shared} (I : Inv X pins σ H s) : ∀ (ds : List DV) (xs ys : List V) (us vs : List Value) (A : Around), Deeps X.K H ds xs → Deeps X.K H ds ys → Vals xs us → Vals ys vs → A.units + deps ds < cLine →
    ∀ (j : Nat) (h1 : j < us.length) (h2 : j < vs.length), SeqAt.EqAt A s us[j] vs[j] true
  | [], xs, ys, us, vs, A, hx, hy, rx, ry, hu, j, h1, h2 => by
    rw [Deeps] at hx; subst hx; cases rx; exact absurd h1 (Nat.not_lt_zero _)
  | d :: ds, xs, ys, us, vs, A, hx, hy, rx, ry, hu, j, h1, h2 => by
    rw [Deeps] at hx hy
    obtain ⟨x, xs, rfl, dx, hx⟩ := hx
    obtain ⟨y, ys, rfl, dy, hy⟩ := hy
    cases rx with
    | cons rx rxs =>
      cases ry with
      | cons ry rys =>
        have hu' : A.units + max (dep d) (deps ds) < cLine := hu
        cases j with
        | zero => exact eqAt_deep I d x y _ _ A dx dy rx ry (by omega)
        | succ j => exact eqsAt_deep I ds xs ys _ _ A hx hy rxs rys (by omega) j (by simpa using h1) (by simpa using h2)
end
section
variable {X : Cx}
theorem op_eqD {k : Nat} (hr : Room k X.A) : OpR X (compareOp .Eq) (fun x y H Q => ∃ d ds, (d = .lst ds ∨ d = .tup ds) ∧ dep d ≤ 60 ∧ Deep X.K H d x ∧ Deep X.K H d y ∧ Q (.bl true) H) := by
  intro pins s σ H x y v u Q I rx ry h
  obtain ⟨d, ds, hd, hdp, dx, dy, q⟩ := h
  have hcl : X.A.units + 64 < cLine := hr.units
  rcases hd with rfl | rfl
  · rw [Deep] at dx dy
    obtain ⟨a, xs, rfl, hq, hd⟩ := dx
    obtain ⟨b, ys, rfl, hq', hd'⟩ := dy
    cases rx; cases ry
    obtain ⟨its, r, pl, hz⟩ := I.list hq
    obtain ⟨its', r', pl', hz'⟩ := I.list hq'
    have l1 := r.length; have l2 := r'.length; have l3 := hd.length; have l4 := hd'.length
    have hdp' : deps ds + 1 ≤ 60 := hdp
    refine SeqAt.eq_listAt (e := fun _ => true) pl.isList pl'.isList (by simp only [List.size_toArray]; omega) (by omega) (fun j h1 h2 => ?_) ⟨.bl true, H, I, ?_, q⟩
    · have := eqsAt_deep I ds xs ys its its' X.A.in1 hd hd' r r' (by rw [Around.in1_units]; omega) j (by simpa using h1) (by simpa using h2)
      simpa using this
    · show Value.bool _ = Value.bool true
      rw [all_yes]
  · rw [Deep] at dx dy
    obtain ⟨a, xs, rfl, hq, hd⟩ := dx
    obtain ⟨b, ys, rfl, hq', hd'⟩ := dy
    cases rx; cases ry
    obtain ⟨its, r, pl, hz⟩ := I.tuple hq
    obtain ⟨its', r', pl', hz'⟩ := I.tuple hq'
    have l1 := r.length; have l2 := r'.length; have l3 := hd.length; have l4 := hd'.length
    have hdp' : deps ds + 1 ≤ 60 := hdp
    have e : its.length = its'.length := by omega
    refine SeqAt.eq_tupleAt (e := fun _ => true) pl pl' (by omega) (fun j h1 h2 => ?_) ⟨.bl true, H, I, ?_, q⟩
    · have := eqsAt_deep I ds xs ys its its' X.A.in1 hd hd' r r' (by rw [Around.in1_units]; omega) j (by simpa using h1) (by simpa using h2)
      simpa using this
    · show Value.bool _ = Value.bool true
      rw [all_yes]
      simp [e]
theorem op_neD {k : Nat} (hr : Room k X.A) : OpR X (compareOp .NotEq) (fun x y H Q => ∃ ds, dep (.lst ds) ≤ 60 ∧ Deep X.K H (.lst ds) x ∧ Deep X.K H (.lst ds) y ∧ Q (.bl false) H) := by
  intro pins s σ H x y v u Q I rx ry h
  obtain ⟨ds, hdp, dx, dy, q⟩ := h
  have hcl : X.A.units + 64 < cLine := hr.units
  rw [Deep] at dx dy
  obtain ⟨a, xs, rfl, hq, hd⟩ := dx
  obtain ⟨b, ys, rfl, hq', hd'⟩ := dy
  cases rx; cases ry
  obtain ⟨its, r, pl, hz⟩ := I.list hq
  obtain ⟨its', r', pl', hz'⟩ := I.list hq'
  have l1 := r.length; have l2 := r'.length; have l3 := hd.length; have l4 := hd'.length
  have hdp' : deps ds + 1 ≤ 60 := hdp
  have q2 := SeqAt.RcNeAt.lists (A := X.A) (s := s) (e := fun _ => true) pl.isList pl'.isList (by simp only [List.size_toArray]; omega) (by omega) (fun j h1 h2 => by
    have := eqsAt_deep I ds xs ys its its' X.A.in1 hd hd' r r' (by rw [Around.in1_units]; omega) j (by simpa using h1) (by simpa using h2)
    simpa using this)
  refine q2 X.prog X.w X.xe _ ⟨.bl false, H, I, ?_, q⟩
  show Value.bool _ = Value.bool false
  rw [all_yes]
  rfl
end

theorem Deeps.get {K : PySem.W.Frag} {H : Hp} : ∀ {ds : List DV} {xs : List V} {i : Nat} {x : V}, Deeps K H ds xs → xs[i]? = some x → ∃ d, ds[i]? = some d ∧ Deep K H d x
  | [], xs, i, x, h, e => by rw [Deeps] at h; subst h; simp at e
  | d :: ds, xs, 0, x, h, e => by
    rw [Deeps] at h; obtain ⟨y, ys, rfl, q, t⟩ := h
    simp at e; subst e; exact ⟨d, rfl, q⟩
  | d :: ds, xs, i + 1, x, h, e => by
    rw [Deeps] at h; obtain ⟨y, ys, rfl, q, t⟩ := h
    obtain ⟨d', e1, e2⟩ := Deeps.get (i := i) t (by simpa using e)
    exact ⟨d', by simpa using e1, e2⟩
theorem Deeps.get' {K : PySem.W.Frag} {H : Hp} {ds : List DV} {xs : List V} {i : Nat} {d : DV} (h : Deeps K H ds xs) (e : ds[i]? = some d) : ∃ x, xs[i]? = some x ∧ Deep K H d x := by
  have hl := h.length
  have hi : i < xs.length := by rw [hl]; exact (List.getElem?_eq_some_iff.mp e).1
  obtain ⟨d', e1, e2⟩ := h.get (List.getElem?_eq_getElem hi)
  rw [e] at e1; cases e1
  exact ⟨_, List.getElem?_eq_getElem hi, e2⟩
theorem Deeps.app {K : PySem.W.Frag} {H : Hp} : ∀ {ds es : List DV} {xs ys : List V}, Deeps K H ds xs → Deeps K H es ys → Deeps K H (ds ++ es) (xs ++ ys)
  | [], es, xs, ys, h, q => by rw [Deeps] at h; subst h; exact q
  | d :: ds, es, xs, ys, h, q => by
    rw [Deeps] at h; obtain ⟨y, zs, rfl, r, t⟩ := h
    show Deeps K H (d :: (ds ++ es)) _
    rw [Deeps]
    exact ⟨y, zs ++ ys, rfl, r, Deeps.app t q⟩
theorem Deeps.one {K : PySem.W.Frag} {H : Hp} {d : DV} {x : V} (h : Deep K H d x) : Deeps K H [d] [x] := by
  rw [Deeps]; exact ⟨x, [], rfl, h, by rw [Deeps]⟩
theorem Deeps.nil {K : PySem.W.Frag} {H : Hp} : Deeps K H [] [] := by rw [Deeps]
theorem Deeps.take {K : PySem.W.Frag} {H : Hp} : ∀ {ds : List DV} {xs : List V} (n : Nat), Deeps K H ds xs → Deeps K H (ds.take n) (xs.take n)
  | ds, xs, 0, _ => by simp [Deeps]
  | [], xs, n + 1, h => by rw [Deeps] at h; subst h; simp [Deeps]
  | d :: ds, xs, n + 1, h => by
    rw [Deeps] at h; obtain ⟨y, zs, rfl, r, t⟩ := h
    rw [List.take_succ_cons, List.take_succ_cons, Deeps]
    exact ⟨y, _, rfl, r, Deeps.take n t⟩
theorem Deeps.drop {K : PySem.W.Frag} {H : Hp} : ∀ {ds : List DV} {xs : List V} (n : Nat), Deeps K H ds xs → Deeps K H (ds.drop n) (xs.drop n)
  | ds, xs, 0, h => by simpa using h
  | [], xs, n + 1, h => by rw [Deeps] at h; subst h; simp [Deeps]
  | d :: ds, xs, n + 1, h => by
    rw [Deeps] at h; obtain ⟨y, zs, rfl, r, t⟩ := h
    rw [List.drop_succ_cons, List.drop_succ_cons]
    exact Deeps.drop n t
theorem Deeps.set {K : PySem.W.Frag} {H : Hp} {d : DV} {x : V} (q : Deep K H d x) : ∀ {ds : List DV} {xs : List V} (n : Nat), Deeps K H ds xs → Deeps K H (ds.set n d) (xs.set n x)
  | [], xs, n, h => by rw [Deeps] at h; subst h; simp [Deeps]
  | e :: ds, xs, 0, h => by
    rw [Deeps] at h; obtain ⟨y, zs, rfl, r, t⟩ := h
    rw [List.set_cons_zero, List.set_cons_zero, Deeps]
    exact ⟨x, _, rfl, q, t⟩
  | e :: ds, xs, n + 1, h => by
    rw [Deeps] at h; obtain ⟨y, zs, rfl, r, t⟩ := h
    rw [List.set_cons_succ, List.set_cons_succ, Deeps]
    exact ⟨y, _, rfl, r, Deeps.set q n t⟩
theorem Deeps.ints {K : PySem.W.Frag} {H : Hp} : ∀ (ns : List Int), Deeps K H (ns.map DV.int) (ns.map V.int)
  | [] => by simp [Deeps]
  | n :: r => by
    rw [List.map_cons, List.map_cons, Deeps]
    exact ⟨_, _, rfl, by rw [Deep], Deeps.ints r⟩
/- no list within -/
mutual
def noLst : DV → Bool
  | .lst _ => false
  | .tup ds => noLsts ds
  | _ => true
def noLsts : List DV → Bool
  | [] => true
  | d :: ds => noLst d && noLsts ds
end
theorem SqT.upd {K : PySem.W.Frag} {H : Hp} {a p : Addr} {xs ys : List V} {o : HO} (hp : H p = some (.lst ys)) (h : SqT K H a xs) : SqT K (upd H p o) a xs := by
  rcases h with (h | ⟨o', h⟩) | h
  · exact .inl (.inl (by rw [upd_ne (ne_of h hp (by intro z; cases z))]; exact h))
  · exact .inl (.inr ⟨o', by rw [upd_ne (ne_of h hp (by intro z; cases z))]; exact h⟩)
  · exact .inr h
mutual
theorem Deep.updL {K : PySem.W.Frag} {H : Hp} {p : Addr} {ys : List V} {o : HO} (hp : H p = some (.lst ys)) : ∀ (d : DV) (v : V), noLst d = true → Deep K H d v → Deep K (L2.upd H p o) d v
  | .non, v, _, h => by rw [Deep] at h ⊢; exact h
  | .bl b, v, _, h => by rw [Deep] at h ⊢; exact h
  | .int i, v, _, h => by rw [Deep] at h ⊢; exact h
  | .str x, v, _, h => by rw [Deep] at h ⊢; exact h
  | .lst ds, v, n, h => by rw [noLst] at n; cases n
  | .tup ds, v, n, h => by
    rw [noLst] at n
    rw [Deep] at h ⊢
    obtain ⟨a, xs, r, q, t⟩ := h
    exact ⟨a, xs, r, q.upd hp, Deeps.updL hp ds xs n t⟩
theorem Deeps.updL {K : PySem.W.Frag} {H : Hp} {p : Addr} {ys : List V} {o : HO} (hp : H p = some (.lst ys)) : ∀ (ds : List DV) (xs : List V), noLsts ds = true → Deeps K H ds xs → Deeps K (L2.upd H p o) ds xs
  | [], xs, _, h => by rw [Deeps] at h ⊢; exact h
  | d :: ds, xs, n, h => by
    rw [noLsts, Bool.and_eq_true] at n
    rw [Deeps] at h ⊢
    obtain ⟨y, ys, r, q, t⟩ := h
    exact ⟨y, ys, r, Deep.updL hp d y n.1 q, Deeps.updL hp ds ys n.2 t⟩
end
theorem same_new {H : Hp} {p : Addr} (h : H p = none) (o : HO) : Same H (upd H p o) := fun b u q => by rw [upd_ne (ne_of_none q h)]; exact q
theorem Same.newer {H H' : Hp} {p : Addr} (e : Same H H') (h : H p = none) (o : HO) : Same H (upd H' p o) := fun b u q => by rw [upd_ne (ne_of_none q h)]; exact e b u q
theorem small {n : Nat} (h : n ≤ 1000) : n ≤ sizeLine := Nat.le_of_lt (small1000 h)
theorem atI_of {α : Type} {xs : List α} {k : Int} (h0 : 0 ≤ k) (h : k < (xs.length : Int)) : ∃ v, atI xs k = some v ∧ xs[k.toNat]? = some v := by
  have hk : k.toNat < xs.length := by omega
  have ek : k = ((k.toNat : Nat) : Int) := by omega
  refine ⟨xs[k.toNat], ?_, List.getElem?_eq_getElem hk⟩
  have q : atI xs ((k.toNat : Nat) : Int) = some xs[k.toNat] := atI_nat (List.getElem?_eq_getElem hk)
  rw [← ek] at q
  exact q

section
variable {X : Cx}
theorem ixL (K : PySem.W.Frag) (h : X.K = K := by rfl) : IxR X (rIxL K) := by subst h; exact ix_list
theorem ixT (K : PySem.W.Frag) (h : X.K = K := by rfl) : IxR X (rIxT K) := by subst h; exact ix_tup
theorem slL (K : PySem.W.Frag) (h : X.K = K := by rfl) : SlR X (rSlL K) := by subst h; exact sl_list
theorem lenK (K : PySem.W.Frag) (h : X.K = K := by rfl) : CallR X (.builtin "len") (fun xs H Q => ∃ p ys, xs = [.ref p] ∧ (SqL K H p ys ∨ SqT K H p ys) ∧ Q (.int ys.length) H) := by subst h; exact call_len_seq
theorem lstK (K : PySem.W.Frag) (h : X.K = K := by rfl) : CallR X (.type "list") (fun xs H Q => ∃ p ys, xs = [.ref p] ∧ (SqL K H p ys ∨ SqT K H p ys) ∧ ∀ l, H l = none → Q (.ref l) (upd H l (.lst ys))) := by subst h; exact call_list_of
theorem pgT (K : PySem.W.Frag) {es : List Expr} {k : Nat} {t : TGs} {n : Nat} {pos : Pos} (hc : X.calm = true) (h : PGs X es t) (hK : X.K = K := by rfl)
    (hn : (assignEach es X.env).length = n := by rfl) (hst : (assignEach es X.env).findIdx? (·.1) = none := by rfl) : PG X (.Tuple es k pos) (gTup K n t) := by subst hK; exact pg_tup hc h hn hst
theorem pi_listK (K : PySem.W.Frag) {tg l : Expr} {tl : TE} (hl : PE X l tl) (h : X.K = K := by rfl) : PI X tg l (iList K tl) := by subst h; exact pi_list hl
variable {o e : Expr} {es : List Expr} {to : TE} {t : TA} {name : Str} {apos cpos : Pos} {T id : String} {r : V → List V → Hp → VK → Prop}
theorem bm0K (K : PySem.W.Frag) (pa : PlainAttrs T) (slot : Slot T name id) (hty : typeOf (.builtin id) = pure (.type "method_descriptor")) (hm : MtR X id r) (ho : PE X o to) (h : X.K = K := by rfl)
    (hbase : attributeBase o name X.env (eval o X.env) = eval o X.env := by rfl) (hline : (apos.endLine == cpos.line) = true := by rfl) : PE X (.Call (.Attribute o name apos) [] [] cpos) (tBM0 K T r to) := by subst h; exact pe_bm0 pa slot hty hm ho hbase hline
theorem bmK (K : PySem.W.Frag) (pa : PlainAttrs T) (slot : Slot T name id) (hty : typeOf (.builtin id) = pure (.type "method_descriptor")) (hm : MtR X id r) (ho : PE X o to) (ha : PA X (e :: es) t) (h : X.K = K := by rfl)
    (hbase : attributeBase o name X.env (eval o X.env) = eval o X.env := by rfl)
    (hfew : ((backTo cpos (starEach (e :: es) X.env)).all (fun x => !x.1) && (backToKw cpos (keywordEach [] X.env)).all (fun x => x.1.isSome)
      && decide ((e :: es).length + ([] : List Keyword).length + (if ([] : List Keyword).isEmpty then 0 else 1) < 30)) = true := by rfl)
    (hline : (apos.endLine == cpos.line) = true := by rfl) (hs : starEach (e :: es) X.env = (false, eval e X.env) :: starEach es X.env := by rfl) (hplain : (backTo cpos (starEach es X.env)).any (·.1) = false := by rfl) :
    PE X (.Call (.Attribute o name apos) (e :: es) [] cpos) (tBM K T r to t) := by subst h; exact pe_bm pa slot hty hm ho ha hbase hfew hline hs hplain
end

def ForW (g : TG) (tb : TS) (D : Ends) (σ : St) (J : It) (H1 : Hp) : Prop := ∃ W : Nat → Nat → St → Hp → Prop, (∃ m, W 0 m σ H1) ∧ ∀ i m σ H, W i m σ H →
  (J.stop i H ∧ D.nx σ H) ∨ (J.go i H ∧ ∃ N : St → Hp → Prop, (∀ σ' H', N σ' H' → ∃ m', m' < m ∧ W (i + 1) m' σ' H') ∧ ∀ x H', J.yld i H x H' → g x σ H' fun σ2 H2 => tb { D with nx := N, ct := N, bk := D.nx } σ2 H2)
theorem tFor_eq (wi : TI) (g : TG) (tb : TS) (D : Ends) (σ : St) (H : Hp) : tFor wi g tb D σ H = wi σ H fun J H1 => ForW g tb D σ J H1 := rfl
def CompW (pick : List (Option Nat)) (g : TG) (ti : TT) (te : TE) (Q : VK) (σ : St) (J : It) (H1 : Hp) : Prop := ∃ W : Nat → Nat → List V → St → Hp → Prop, (∃ m, W 0 m [] (pickS pick σ) H1) ∧ ∀ i m ys σ' H', W i m ys σ' H' → ys.length ≤ sizeLine ∧
  ((J.stop i H' ∧ ∀ p, H' p = none → Q (.ref p) (upd H' p (.lst ys))) ∨
   (J.go i H' ∧ ∃ N : List V → St → Hp → Prop, (∀ zs τ L, N zs τ L → ∃ m', m' < m ∧ W (i + 1) m' zs τ L) ∧ ∀ x H2, J.yld i H' x H2 → g x σ' H2 fun σ3 H3 => ti σ3 H3 fun b H4 => if b = true then te σ3 H4 fun v H5 => N (ys ++ [v]) σ3 H5 else N ys σ3 H4))
theorem tComp_eq (wi : TI) (pick : List (Option Nat)) (g : TG) (ti : TT) (te : TE) (σ : St) (H : Hp) (Q : VK) : tComp wi pick g ti te σ H Q = wi σ H fun J H1 => CompW pick g ti te Q σ J H1 := rfl
def WhileW (c : TT) (tb : TS) (D : Ends) (σ : St) (H : Hp) : Prop := tWhile c tb D σ H
theorem tWhile_eq (c : TT) (tb : TS) (D : Ends) (σ : St) (H : Hp) : tWhile c tb D σ H = WhileW c tb D σ H := rfl

def hide (p : Addr) (H : Hp) : Hp := fun b => if b = p then none else H b
theorem hide_same (p : Addr) (H : Hp) : Same (hide p H) H := fun b o e => by
  unfold hide at e
  split at e
  · cases e
  · exact e
theorem hide_at (p : Addr) (H : Hp) : hide p H p = none := by unfold hide; rw [if_pos rfl]
theorem hide_ne {p b : Addr} {H : Hp} (h : b ≠ p) : hide p H b = H b := by unfold hide; rw [if_neg h]
theorem hide_upd (p : Addr) (H : Hp) (o : HO) : hide p (upd H p o) = hide p H := by
  funext b
  unfold hide
  split
  · rfl
  · rename_i h; rw [upd_ne h]
theorem hide_mono {p : Addr} {H H' : Hp} (e : Same H H') : Same (hide p H) (hide p H') := fun b o q => by
  have hb : b ≠ p := fun z => by subst z; rw [hide_at] at q; cases q
  rw [hide_ne hb] at q ⊢
  exact e b o q
theorem upd_at {H : Hp} {p q : Addr} {o u : HO} (h : H q = some u) (hp : H p = none) : upd H p o q = some u := by rw [upd_ne (ne_of_none h hp)]; exact h
theorem atI_ints {ns : List Int} {k : Int} (h0 : 0 ≤ k) (h : k < (ns.length : Int)) : ∃ v, atI (ns.map V.int) k = some (.int v) := by
  obtain ⟨v, hv, hv'⟩ := atI_of (xs := ns.map V.int) h0 (by rw [List.length_map]; exact h)
  rw [List.getElem?_map] at hv'
  cases e : ns[k.toNat]? with
  | none => rw [e] at hv'; cases hv'
  | some z =>
    rw [e] at hv'
    have : v = V.int z := (Option.some.inj hv').symm
    subst this
    exact ⟨z, hv⟩
section
variable {g : TG} {ti : TT} {te : TE} {Q : VK} {σ : St} {H : Hp} {pick : List (Option Nat)} {tb : TS} {D : Ends} {K : PySem.W.Frag} {a : Addr} {xs : List V}
theorem compW_list (xs : List V) (Pv : Nat → List V → St → Hp → Prop) (h0 : Pv 0 [] (pickS pick σ) H) (hl : ∀ i ys σ H, i ≤ xs.length → Pv i ys σ H → SqL K H a xs ∧ ys.length ≤ sizeLine)
    (hs : ∀ i x ys σ H, xs[i]? = some x → Pv i ys σ H → g x σ H fun σ3 H3 => ti σ3 H3 fun b H4 => if b = true then te σ3 H4 fun v H5 => Pv (i + 1) (ys ++ [v]) σ3 H5 else Pv (i + 1) ys σ3 H4)
    (hd : ∀ ys σ H, Pv xs.length ys σ H → ∀ p, H p = none → Q (.ref p) (upd H p (.lst ys))) : CompW pick g ti te Q σ (Itl K a) H := comp_list Pv h0 hl hs hd
theorem forW_list (xs : List V) (Pv : Nat → St → Hp → Prop) (h0 : Pv 0 σ H) (hl : ∀ i σ H, i ≤ xs.length → Pv i σ H → SqL K H a xs)
    (hs : ∀ i x σ H, xs[i]? = some x → Pv i σ H → g x σ H fun σ2 H2 => tb { D with nx := Pv (i + 1), ct := Pv (i + 1), bk := D.nx } σ2 H2) (hd : ∀ σ H, Pv xs.length σ H → D.nx σ H) : ForW g tb D σ (Itl K a) H := for_list Pv h0 hl hs hd
theorem forW_enum (xs : List V) (Pv : Nat → St → Hp → Prop) (h0 : Pv 0 σ H) (hl : ∀ i σ H, i ≤ xs.length → Pv i σ H → SqL K H a xs)
    (hs : ∀ (i : Nat) y T σ H, xs[i]? = some y → Pv i σ H → H T = none → g (.ref T) σ (upd H T (.tup [.int i, y])) fun σ2 H2 => tb { D with nx := Pv (i + 1), ct := Pv (i + 1), bk := D.nx } σ2 H2) (hd : ∀ σ H, Pv xs.length σ H → D.nx σ H) : ForW g tb D σ (Ite K a) H := for_enum Pv h0 hl hs hd
theorem forW_range {lo : Int} {n : Nat} (Pv : Nat → St → Hp → Prop) (h0 : Pv 0 σ H) (hs : ∀ i σ H, i < n → Pv i σ H → g (.int (lo + i)) σ H fun σ2 H2 => tb { D with nx := Pv (i + 1), ct := Pv (i + 1), bk := D.nx } σ2 H2) (hd : ∀ σ H, Pv n σ H → D.nx σ H) :
    ForW g tb D σ (Itr lo n) H := for_range Pv h0 hs hd
theorem forW_rangeS {lo st : Int} {n : Nat} (Pv : Nat → St → Hp → Prop) (h0 : Pv 0 σ H) (hs : ∀ i σ H, i < n → Pv i σ H → g (.int (lo + i * st)) σ H fun σ2 H2 => tb { D with nx := Pv (i + 1), ct := Pv (i + 1), bk := D.nx } σ2 H2) (hd : ∀ σ H, Pv n σ H → D.nx σ H) :
    ForW g tb D σ (ItrS lo st n) H := for_rangeS Pv h0 hs hd
end
theorem deps_le {n : Nat} : ∀ {ds : List DV}, (∀ d ∈ ds, dep d ≤ n) → deps ds ≤ n
  | [], _ => by rw [deps]; exact Nat.zero_le _
  | d :: ds, h => by
    rw [deps]
    exact Nat.max_le.mpr ⟨h d List.mem_cons_self, deps_le fun e he => h e (List.mem_cons_of_mem _ he)⟩
theorem deps_ints (ns : List Int) : deps (ns.map DV.int) = 0 := Nat.le_zero.mp (deps_le fun d hd => by
  obtain ⟨n, _, rfl⟩ := List.mem_map.mp hd
  simp [dep])

end L2

namespace L2
open PySem PySem.Spec PyProof.Rows
abbrev Str.cs (x : Str) : List Nat := x.cps.toList
def cutL {α : Type} (xs : List α) (lo hi : Option Int) : List α := (xs.drop (HT.sIx xs.length 0 lo)).take (HT.sIx xs.length xs.length hi - HT.sIx xs.length 0 lo)
theorem cutL_nat {α : Type} (xs : List α) {j k : Nat} (h : j ≤ k) : cutL xs (some (j : Int)) (some (k : Int)) = (xs.drop j).take (k - j) := by
  unfold cutL
  rw [HT.sIx_nat, HT.sIx_nat]
  apply List.ext_getElem?
  intro i
  rw [List.getElem?_take, List.getElem?_take, List.getElem?_drop, List.getElem?_drop]
  by_cases h1 : i < k - j
  · rw [if_pos h1]
    by_cases h2 : j + i < xs.length
    · rw [if_pos (by omega)]
      congr 1
      omega
    · rw [if_neg (by omega), List.getElem?_eq_none (by omega)]
  · rw [if_neg h1, if_neg (by omega)]
theorem strIdx_gen (lo hi : Option Int) (n : Nat) : Builtin.Str.strSliceIndices lo hi 1 n = Builtin.Str.strSliceIndices (some ((HT.sIx n 0 lo : Nat) : Int)) (some ((HT.sIx n n hi : Nat) : Int)) 1 n := by
  have clipS : ∀ (v : Int) (d : Nat), max 0 (min (if v < 0 then v + (n : Int) else v) (n : Int)) = ((HT.sIx n d (some v) : Nat) : Int) := fun v d => by
    show max 0 (min (if v < 0 then v + (n : Int) else v) (n : Int)) = (((if v < 0 then (v + (n : Int)).toNat else min v.toNat n) : Nat) : Int)
    by_cases hv : v < 0
    · simp only [if_pos hv]; omega
    · simp only [if_neg hv]; omega
  have clipN : ∀ k : Nat, k ≤ n → max 0 (min (if (k : Int) < 0 then (k : Int) + (n : Int) else (k : Int)) (n : Int)) = (k : Int) := fun k hk => by
    rw [if_neg (by omega)]; omega
  have h1 : (1 : Int) > 0 := by omega
  have l1 := HT.sIx_le n 0 (Nat.zero_le _) lo
  have l2 := HT.sIx_le n n (Nat.le_refl _) hi
  unfold Builtin.Str.strSliceIndices
  simp only [h1, if_true]
  rw [clipN _ l1, clipN _ l2]
  cases lo with
  | none =>
    cases hi with
    | none => rfl
    | some u => dsimp only; rw [clipS u n]; rfl
  | some v =>
    cases hi with
    | none => dsimp only; rw [clipS v 0]; rfl
    | some u => dsimp only; rw [clipS v 0, clipS u n]
theorem sliceText_gen (x : Str) (lo hi : Option Int) : StrLaws.sliceText x lo hi = ⟨(cutL x.cps.toList lo hi).toArray⟩ := by
  have hn : x.cps.toList.length = x.length := by simp [Str.length]
  unfold cutL
  rw [hn]
  have l1 := HT.sIx_le x.length 0 (Nat.zero_le _) lo
  have l2 := HT.sIx_le x.length x.length (Nat.le_refl _) hi
  have e : StrLaws.sliceText x lo hi = StrLaws.sliceText x (some ((HT.sIx x.length 0 lo : Nat) : Int)) (some ((HT.sIx x.length x.length hi : Nat) : Int)) := by
    unfold StrLaws.sliceText
    rw [strIdx_gen]
  rw [e]
  generalize HT.sIx x.length 0 lo = a at *
  generalize HT.sIx x.length x.length hi = b at *
  by_cases hab : a ≤ b
  · exact StrLaws.sliceText_nat x hab l2
  · have e0 : b - a = 0 := by omega
    rw [e0, List.take_zero]
    have ei : Builtin.Str.strSliceIndices (some (a : Int)) (some (b : Int)) 1 x.length = [] := by
      unfold Builtin.Str.strSliceIndices
      simp only [show (1 : Int) > 0 by omega, if_true]
      rw [if_neg (by omega), if_neg (by omega)]
      have q1 : max 0 (min (a : Int) (x.length : Int)) = (a : Int) := by omega
      have q2 : max 0 (min (b : Int) (x.length : Int)) = (b : Int) := by omega
      rw [q1, q2]
      unfold sliceRange
      simp only [show (1 : Int) > 0 by omega, if_true]
      rw [if_neg (by omega)]
      rfl
    unfold StrLaws.sliceText
    rw [ei]
    split
    · rename_i h
      have hl : x.length = 0 := by simp at h; omega
      apply Str.ext'
      have : x.cps = #[] := Array.eq_empty_of_size_eq_zero (by simpa [Str.length] using hl)
      rw [this]
    · rfl
section
variable {X : Cx}
def rSlS : V → Option Int → Option Int → Hp → VK → Prop := fun x lo hi H Q => ∃ z, x = .str z ∧ z.length ≤ sizeLine ∧ Q (.str ⟨(cutL z.cps.toList lo hi).toArray⟩) H
theorem sl_str : SlR X rSlS := by
  intro pins s σ H x v vl vu lo hi sl Q I rx hs pl pu h
  obtain ⟨z, rfl, hz, q⟩ := h
  obtain ⟨t, rfl⟩ := rx
  refine ⟨"str", _, F.slot_str_getitem.lookup, typeIs_str _ _ _, ?_⟩
  obtain ⟨o, ho, hc, hd⟩ := hs
  obtain ⟨l, hl, el⟩ : ∃ l : Option (Int × Tok), vl = partValue l ∧ l.map (·.1) = lo := by
    cases pl with
    | none => exact ⟨none, rfl, rfl⟩
    | int i t => exact ⟨some (i, t), rfl, rfl⟩
  obtain ⟨u, hu, eu⟩ : ∃ l : Option (Int × Tok), vu = partValue l ∧ l.map (·.1) = hi := by
    cases pu with
    | none => exact ⟨none, rfl, rfl⟩
    | int i t => exact ⟨some (i, t), rfl, rfl⟩
  subst hl hu el eu
  refine wpAny_getItem_str_slice (l := l) (u := u) (st := none) ⟨o, ho, hc, hd⟩ rfl ?_
  have e := sliceText_gen z (l.map (·.1)) (u.map (·.1))
  unfold sliceMade
  refine post_val_or_made (fun _ => ?_) fun t' k => ⟨.str ⟨(cutL z.cps.toList (l.map (·.1)) (u.map (·.1))).toArray⟩, H, I.tok _, ⟨t', ?_⟩, q⟩
  · rename_i hno
    have e2 : StrLaws.sliceText z (l.map (·.1)) (u.map (·.1)) = ⟨((slicePicked z l u none).filterMap (z.cps[·]?)).toArray⟩ := by
      unfold StrLaws.sliceText
      exact if_neg hno
    rw [← e2, e]
    show (cutL z.cps.toList (l.map (·.1)) (u.map (·.1))).toArray.size ≤ sizeLine
    rw [List.size_toArray]
    unfold cutL
    rw [List.length_take, List.length_drop]
    have : z.cps.toList.length = z.length := by simp [Str.length]
    omega
  · rw [← e]
    rfl
theorem op_le_str : OpR X (compareOp .LtE) (fun x y H Q => ∃ i j, x = .str i ∧ y = .str j ∧ Q (.bl (!decide (j.cps.toList < i.cps.toList))) H) := by
  intro pins s σ H x y v u Q I rx ry h
  obtain ⟨i, j, rfl, rfl, q⟩ := h
  obtain ⟨t, rfl⟩ := rx
  obtain ⟨t', rfl⟩ := ry
  exact PySem.P.le_str ⟨.bl _, H, I, rfl, q⟩
def rLower : V → List V → Hp → VK → Prop := fun x vs H Q => ∃ z, x = .str z ∧ vs = [] ∧ z.length ≤ 1000000 ∧ (∀ c ∈ z.cps.toList, c < 128) ∧ Q (.str ⟨z.cps.map lo1⟩) H
theorem mt_lower : MtM X "str.lower" rLower := by
  intro pins s σ H x vs v us Q I rx rv h
  obtain ⟨z, rfl, rfl, hz, hA, q⟩ := h
  obtain ⟨t, rfl⟩ := rx
  cases rv
  have e := lower_ascii hA
  have hl : (Txt.lower z).length = z.length := by rw [e]; simp [Str.length]
  have hfit : Builtin.Str.tooLong (Txt.lower z).length = false := by
    rw [hl]
    unfold Builtin.Str.tooLong
    have := sizeLine_eq
    exact decide_eq_false (by omega)
  refine call_gives F.slot_str_lower (typeIs_str _ _ _) F.entry_str_lower (F.args_str_lower_1 _) (gives_str_lower z t hfit) ⟨?_, ⟨.str ⟨z.cps.map lo1⟩, H, I.tok _, ⟨_, by rw [← e]; rfl⟩, q⟩⟩
  exact fit_le hfit
def rIndex : V → List V → Hp → VK → Prop := fun x vs H Q => ∃ z c, x = .str z ∧ vs = [.str ⟨#[c]⟩] ∧ c ∈ z.cps.toList ∧ Q (.int (Txt.find z ⟨#[c]⟩)) H
theorem call_isi (K : PySem.W.Frag) (hK : X.K = K := by rfl) : CallR X (.builtin "isinstance") (fun xs H Q => ∃ x T t b, xs = [x, .ty T] ∧ TyOf K H x t ∧ PySem.W.kitOne K t (.type T) = some b ∧ Q (.bl b) H) := by
  subst hK
  intro pins s σ H xs us Q I r h
  obtain ⟨x, T, t, b, rfl, ty, e, q⟩ := h
  obtain ⟨u, v, rfl, ru, rv⟩ := vals2 r
  cases rv
  exact isinst_ok I ru ty e fun tk => ⟨.bl b, H, I.tok _, rfl, q⟩
theorem op_neE (K : PySem.W.Frag) {k : Nat} (hr : Room k X.A) (hK : X.K = K := by rfl) : OpR X (compareOp .NotEq) (fun x y H Q => ∃ p xs q, x = .ref p ∧ y = .ref q ∧ SqL K H p xs ∧ SqL K H q [] ∧ Q (.bl (!xs.isEmpty)) H) := by
  subst hK
  intro pins s σ H x y v u Q I rx ry h
  obtain ⟨p, xs, q, rfl, rfl, hp, hq, k⟩ := h
  cases rx; cases ry
  have hcl : X.A.units + 64 < cLine := hr.units
  obtain ⟨its, r, pl, hz⟩ := I.list hp
  obtain ⟨its', r', pl', hz'⟩ := I.list hq
  cases r'
  cases r with
  | nil => exact SeqAt.RcNeAt.lists (A := X.A) (s := s) (e := fun _ => true) pl.isList pl'.isList rfl (by omega) (fun j h1 h2 => absurd h1 (by simp)) X.prog X.w X.xe _ ⟨.bl false, H, I, rfl, k⟩
  | cons r0 rs => exact SeqAt.RcNeAt.lists_lengths (A := X.A) (s := s) pl.isList pl'.isList (by simp) (by omega) X.prog X.w X.xe _ ⟨.bl true, H, I, rfl, k⟩
end

end L2

namespace L2
open PySem PySem.Spec PyProof.Rows

mutual
def DeepT (H : Hp) : DV → V → Prop
  | .non, v => v = .non
  | .bl b, v => v = .bl b
  | .int i, v => v = .int i
  | .str x, v => v = .str x
  | .lst ds, v => ∃ a xs, v = .ref a ∧ H a = some (.lst xs) ∧ DeepTs H ds xs
  | .tup ds, v => ∃ a xs, v = .ref a ∧ H a = some (.tup xs) ∧ DeepTs H ds xs
def DeepTs (H : Hp) : List DV → List V → Prop
  | [], xs => xs = []
  | d :: ds, xs => ∃ y ys, xs = y :: ys ∧ DeepT H d y ∧ DeepTs H ds ys
end
mutual
theorem DeepT.deep {K : PySem.W.Frag} {H : Hp} : ∀ (d : DV) (v : V), DeepT H d v → Deep K H d v
  | .non, v, h => by rw [DeepT] at h; rw [Deep]; exact h
  | .bl b, v, h => by rw [DeepT] at h; rw [Deep]; exact h
  | .int i, v, h => by rw [DeepT] at h; rw [Deep]; exact h
  | .str x, v, h => by rw [DeepT] at h; rw [Deep]; exact h
  | .lst ds, v, h => by rw [DeepT] at h; rw [Deep]; obtain ⟨a, xs, r, q, t⟩ := h; exact ⟨a, xs, r, SqL.of q, DeepTs.deep ds xs t⟩
  | .tup ds, v, h => by rw [DeepT] at h; rw [Deep]; obtain ⟨a, xs, r, q, t⟩ := h; exact ⟨a, xs, r, SqT.of q, DeepTs.deep ds xs t⟩
theorem DeepTs.deep {K : PySem.W.Frag} {H : Hp} : ∀ (ds : List DV) (xs : List V), DeepTs H ds xs → Deeps K H ds xs
  | [], xs, h => by rw [DeepTs] at h; rw [Deeps]; exact h
  | d :: ds, xs, h => by rw [DeepTs] at h; rw [Deeps]; obtain ⟨y, ys, r, q, t⟩ := h; exact ⟨y, ys, r, DeepT.deep d y q, DeepTs.deep ds ys t⟩
end
theorem DeepTs.length {H : Hp} : ∀ {ds : List DV} {xs : List V}, DeepTs H ds xs → xs.length = ds.length
  | [], xs, h => by rw [DeepTs] at h; subst h; rfl
  | d :: ds, xs, h => by rw [DeepTs] at h; obtain ⟨y, ys, rfl, _, h⟩ := h; rw [List.length_cons, List.length_cons, DeepTs.length h]
mutual
theorem DeepT.same {H H' : Hp} (e : Same H H') : ∀ (d : DV) (v : V), DeepT H d v → DeepT H' d v
  | .non, v, h => by rw [DeepT] at h ⊢; exact h
  | .bl b, v, h => by rw [DeepT] at h ⊢; exact h
  | .int i, v, h => by rw [DeepT] at h ⊢; exact h
  | .str x, v, h => by rw [DeepT] at h ⊢; exact h
  | .lst ds, v, h => by rw [DeepT] at h ⊢; obtain ⟨a, xs, r, q, t⟩ := h; exact ⟨a, xs, r, e _ _ q, DeepTs.same e ds xs t⟩
  | .tup ds, v, h => by rw [DeepT] at h ⊢; obtain ⟨a, xs, r, q, t⟩ := h; exact ⟨a, xs, r, e _ _ q, DeepTs.same e ds xs t⟩
theorem DeepTs.same {H H' : Hp} (e : Same H H') : ∀ (ds : List DV) (xs : List V), DeepTs H ds xs → DeepTs H' ds xs
  | [], xs, h => by rw [DeepTs] at h ⊢; exact h
  | d :: ds, xs, h => by rw [DeepTs] at h ⊢; obtain ⟨y, ys, r, q, t⟩ := h; exact ⟨y, ys, r, DeepT.same e d y q, DeepTs.same e ds ys t⟩
end
theorem DeepTs.get {H : Hp} : ∀ {ds : List DV} {xs : List V} {i : Nat} {x : V}, DeepTs H ds xs → xs[i]? = some x → ∃ d, ds[i]? = some d ∧ DeepT H d x
  | [], xs, i, x, h, e => by rw [DeepTs] at h; subst h; simp at e
  | d :: ds, xs, 0, x, h, e => by
    rw [DeepTs] at h; obtain ⟨y, ys, rfl, q, t⟩ := h
    simp at e; subst e; exact ⟨d, rfl, q⟩
  | d :: ds, xs, i + 1, x, h, e => by
    rw [DeepTs] at h; obtain ⟨y, ys, rfl, q, t⟩ := h
    obtain ⟨d', e1, e2⟩ := DeepTs.get (i := i) t (by simpa using e)
    exact ⟨d', by simpa using e1, e2⟩
theorem DeepTs.get' {H : Hp} {ds : List DV} {xs : List V} {i : Nat} {d : DV} (h : DeepTs H ds xs) (e : ds[i]? = some d) : ∃ x, xs[i]? = some x ∧ DeepT H d x := by
  have hl := h.length
  have hi : i < xs.length := by rw [hl]; exact (List.getElem?_eq_some_iff.mp e).1
  obtain ⟨d', e1, e2⟩ := h.get (List.getElem?_eq_getElem hi)
  rw [e] at e1; cases e1
  exact ⟨_, List.getElem?_eq_getElem hi, e2⟩
theorem DeepTs.app {H : Hp} : ∀ {ds es : List DV} {xs ys : List V}, DeepTs H ds xs → DeepTs H es ys → DeepTs H (ds ++ es) (xs ++ ys)
  | [], es, xs, ys, h, q => by rw [DeepTs] at h; subst h; exact q
  | d :: ds, es, xs, ys, h, q => by
    rw [DeepTs] at h; obtain ⟨y, zs, rfl, r, t⟩ := h
    show DeepTs H (d :: (ds ++ es)) _
    rw [DeepTs]
    exact ⟨y, zs ++ ys, rfl, r, DeepTs.app t q⟩
theorem DeepTs.one {H : Hp} {d : DV} {x : V} (h : DeepT H d x) : DeepTs H [d] [x] := by
  rw [DeepTs]; exact ⟨x, [], rfl, h, by rw [DeepTs]⟩
theorem DeepTs.nil {H : Hp} : DeepTs H [] [] := by rw [DeepTs]
theorem DeepTs.take {H : Hp} : ∀ {ds : List DV} {xs : List V} (n : Nat), DeepTs H ds xs → DeepTs H (ds.take n) (xs.take n)
  | ds, xs, 0, _ => by simp [DeepTs]
  | [], xs, n + 1, h => by rw [DeepTs] at h; subst h; simp [DeepTs]
  | d :: ds, xs, n + 1, h => by
    rw [DeepTs] at h; obtain ⟨y, zs, rfl, r, t⟩ := h
    rw [List.take_succ_cons, List.take_succ_cons, DeepTs]
    exact ⟨y, _, rfl, r, DeepTs.take n t⟩
theorem DeepTs.drop {H : Hp} : ∀ {ds : List DV} {xs : List V} (n : Nat), DeepTs H ds xs → DeepTs H (ds.drop n) (xs.drop n)
  | ds, xs, 0, h => by simpa using h
  | [], xs, n + 1, h => by rw [DeepTs] at h; subst h; simp [DeepTs]
  | d :: ds, xs, n + 1, h => by
    rw [DeepTs] at h; obtain ⟨y, zs, rfl, r, t⟩ := h
    rw [List.drop_succ_cons, List.drop_succ_cons]
    exact DeepTs.drop n t
theorem DeepTs.set {H : Hp} {d : DV} {x : V} (q : DeepT H d x) : ∀ {ds : List DV} {xs : List V} (n : Nat), DeepTs H ds xs → DeepTs H (ds.set n d) (xs.set n x)
  | [], xs, n, h => by rw [DeepTs] at h; subst h; simp [DeepTs]
  | e :: ds, xs, 0, h => by
    rw [DeepTs] at h; obtain ⟨y, zs, rfl, r, t⟩ := h
    rw [List.set_cons_zero, List.set_cons_zero, DeepTs]
    exact ⟨x, _, rfl, q, t⟩
  | e :: ds, xs, n + 1, h => by
    rw [DeepTs] at h; obtain ⟨y, zs, rfl, r, t⟩ := h
    rw [List.set_cons_succ, List.set_cons_succ, DeepTs]
    exact ⟨y, _, rfl, r, DeepTs.set q n t⟩
theorem DeepTs.ints {H : Hp} : ∀ (ns : List Int), DeepTs H (ns.map DV.int) (ns.map V.int)
  | [] => by simp [DeepTs]
  | n :: r => by
    rw [List.map_cons, List.map_cons, DeepTs]
    exact ⟨_, _, rfl, by rw [DeepT], DeepTs.ints r⟩

theorem whileW2 {c : TT} {tb : TS} {D : Ends} {σ : St} {H : Hp} (Pv : St → Hp → Prop) (μ : St → Hp → Nat) (h0 : Pv σ H)
    (hs : ∀ σ H, Pv σ H → c σ H fun b H1 => if b = true then ∃ N : St → Hp → Prop, (∀ σ' H', N σ' H' → ∃ m', m' < μ σ H ∧ m' = μ σ' H' ∧ Pv σ' H') ∧ tb { D with nx := N, ct := N, bk := D.nx } σ H1 else D.nx σ H1) : WhileW c tb D σ H :=
  ⟨fun m σ H => m = μ σ H ∧ Pv σ H, ⟨_, rfl, h0⟩, fun m σ H ⟨e, p⟩ => by subst e; exact hs σ H p⟩

end L2

namespace L2
open PySem PySem.Spec PyProof.Rows
def Its (z : Str) : It := ⟨fun i _ => i < z.length, fun i H x H' => H' = H ∧ ∃ c, z.cps.toList[i]? = some c ∧ x = .str ⟨#[c]⟩, fun i _ => z.length ≤ i⟩
theorem turn_strA {P : Program} {w : World} {K : PySem.W.Frag} {tg : Expr} (it : Addr) (z : Str) (t : Tok) : Turn P w K tg (Its z) [it] it (fun i h => h.IsStrIter it "str_ascii_iterator" z t i) where
  mem := by simp
  obj := fun i h st b hb => by
    have e : b = it := by simpa using hb
    subst e
    obtain ⟨o, e, c, d⟩ := st
    exact ⟨o, e, fun v z => by rw [d] at z; cases z⟩
  keep := fun i h h' st k => let ⟨o, ho, r⟩ := st; ⟨o, k it (by simp) o ho, r⟩
  item := by
    intro X hP hw hK hc i pins s σ H E I hf st hg
    subst hP hw hK
    obtain ⟨f0, f1, f2, f3, f4, f5⟩ := hf it (by simp)
    have hi : i < z.cps.size := hg
    refine wpAny_pyNext_ascii_item st (c := z.cps[i]) (by simp [hi]) fun h' st' sb => ?_
    have I1 : Inw X pins σ H { s with heap := h', toks := s.toks + 1 } := I.turned (t' := s.toks + 1) (fun b o hb e => (sb.2 b hb).trans e) f0 f1 f3 f4 f5
    obtain ⟨o, e, c, d⟩ := id st'
    exact ⟨_, rfl, go_of (s := { s with heap := h', toks := s.toks + 1 }) e c d (by decide) ⟨.str ⟨#[z.cps[i]]⟩, H, I1, ⟨_, rfl⟩, ⟨rfl, z.cps[i], by simp [hi], rfl⟩, st', fun b hb => (hf b hb).1⟩⟩
  done := by
    intro X hP hw hK hc i pins s σ H E I hf st hg
    subst hP hw hK
    obtain ⟨f0, f1, f2, f3, f4, f5⟩ := hf it (by simp)
    have hi : z.cps.size ≤ i := hg
    exact wpAny_pyNext_ascii_end (I.ok.hd hc) st (by simp [hi]) fun h' eb => ⟨rfl, I.turned (t' := s.toks) (fun b o hb e => eb b o hb e) f0 f1 f3 f4 f5⟩
  self := fun _ _ _ _ _ st h => wpAny_pyIter_striter_ascii st h
theorem turn_strW {P : Program} {w : World} {K : PySem.W.Frag} {tg : Expr} (it : Addr) (z : Str) (t : Tok) : Turn P w K tg (Its z) [it] it (fun i h => h.IsStrIter it "str_iterator" z t i) where
  mem := by simp
  obj := fun i h st b hb => by
    have e : b = it := by simpa using hb
    subst e
    obtain ⟨o, e, c, d⟩ := st
    exact ⟨o, e, fun v z => by rw [d] at z; cases z⟩
  keep := fun i h h' st k => let ⟨o, ho, r⟩ := st; ⟨o, k it (by simp) o ho, r⟩
  item := by
    intro X hP hw hK hc i pins s σ H E I hf st hg
    subst hP hw hK
    obtain ⟨f0, f1, f2, f3, f4, f5⟩ := hf it (by simp)
    have hi : i < z.cps.size := hg
    refine wpAny_pyNext_wide_item st (c := z.cps[i]) (by simp [hi]) fun h' st' sb => ?_
    have I1 : Inw X pins σ H { s with heap := h', toks := s.toks + 1 } := I.turned (t' := s.toks + 1) (fun b o hb e => (sb.2 b hb).trans e) f0 f1 f3 f4 f5
    obtain ⟨o, e, c, d⟩ := id st'
    exact ⟨_, rfl, go_of (s := { s with heap := h', toks := s.toks + 1 }) e c d (by decide) ⟨.str ⟨#[z.cps[i]]⟩, H, I1, ⟨_, rfl⟩, ⟨rfl, z.cps[i], by simp [hi], rfl⟩, st', fun b hb => (hf b hb).1⟩⟩
  done := by
    intro X hP hw hK hc i pins s σ H E I hf st hg
    subst hP hw hK
    obtain ⟨f0, f1, f2, f3, f4, f5⟩ := hf it (by simp)
    have hi : z.cps.size ≤ i := hg
    exact wpAny_pyNext_wide_end (I.ok.hd hc) st (by simp [hi]) fun h' eb => ⟨rfl, I.turned (t' := s.toks) (fun b o hb e => eb b o hb e) f0 f1 f3 f4 f5⟩
  self := fun _ _ _ _ _ st h => wpAny_pyIter_striter_wide st h
def iStr (tl : TE) : TI := fun σ H R => tl σ H fun x H1 => ∃ z, x = .str z ∧ R (Its z) H1
theorem pi_str {X : Cx} {tg l : Expr} {tl : TE} (hl : PE X l tl) : PI X tg l (iStr tl) := by
  intro pins s σ H R I h
  refine thn (hl pins s σ H _ I h) fun v s1 ⟨x, H1, I1, r1, q1⟩ => ?_
  obtain ⟨z, e, q⟩ := q1
  subst e
  obtain ⟨t, rfl⟩ := r1
  have fp : ∀ b ∈ [s1.heap.objs.size], FpOk X pins H1 b := fun b hb => by
    have e : b = s1.heap.objs.size := by simpa using hb
    subst e
    exact I1.fpOk (Nat.le_refl _) (I1.hok.fresh (Nat.le_refl _))
  cases ha : z.cps.all (· < 128)
  · exact wpAny_pyIter_wide ha ⟨s1.heap.objs.size, [s1.heap.objs.size], _, _, H1, rfl, I1.kept (t' := s1.toks) fun b o e => Heap.get?_push_of_some _ e, turn_strW _ z t, ⟨_, Heap.get?_push_size _ rfl, rfl, rfl⟩, fp, q⟩
  · exact wpAny_pyIter_ascii ha ⟨s1.heap.objs.size, [s1.heap.objs.size], _, _, H1, rfl, I1.kept (t' := s1.toks) fun b o e => Heap.get?_push_of_some _ e, turn_strA _ z t, ⟨_, Heap.get?_push_size _ rfl, rfl, rfl⟩, fp, q⟩
section
variable {g : TG} {ti : TT} {te : TE} {Q : VK} {σ : St} {H : Hp} {pick : List (Option Nat)}
theorem compW_str {z : Str} (Pv : Nat → List V → St → Hp → Prop) (h0 : Pv 0 [] (pickS pick σ) H) (hl : ∀ i ys σ H, i ≤ z.length → Pv i ys σ H → ys.length ≤ sizeLine)
    (hs : ∀ i c ys σ H, z.cps.toList[i]? = some c → Pv i ys σ H → g (.str ⟨#[c]⟩) σ H fun σ3 H3 => ti σ3 H3 fun b H4 => if b = true then te σ3 H4 fun v H5 => Pv (i + 1) (ys ++ [v]) σ3 H5 else Pv (i + 1) ys σ3 H4)
    (hd : ∀ ys σ H, Pv z.length ys σ H → ∀ p, H p = none → Q (.ref p) (upd H p (.lst ys))) : CompW pick g ti te Q σ (Its z) H := by
  refine ⟨fun i m ys σ H => m = z.length - i ∧ i ≤ z.length ∧ Pv i ys σ H, ⟨z.length, by simp, Nat.zero_le _, h0⟩, ?_⟩
  rintro i m ys σ H ⟨rfl, hi, p⟩
  refine ⟨hl i ys σ H hi p, ?_⟩
  by_cases hlt : i < z.length
  · refine .inr ⟨hlt, Pv (i + 1), fun zs σ' H' p' => ⟨z.length - (i + 1), by omega, rfl, hlt, p'⟩, fun x H' y => ?_⟩
    obtain ⟨e, c, hc, y⟩ := y
    subst e y
    exact hs i c ys σ _ hc p
  · have e : i = z.length := by omega
    subst e
    exact .inl ⟨Nat.le_refl _, hd ys σ H p⟩
theorem forW_str {tb : TS} {D : Ends} {z : Str} (Pv : Nat → St → Hp → Prop) (h0 : Pv 0 σ H)
    (hs : ∀ i c σ H, z.cps.toList[i]? = some c → Pv i σ H → g (.str ⟨#[c]⟩) σ H fun σ2 H2 => tb { D with nx := Pv (i + 1), ct := Pv (i + 1), bk := D.nx } σ2 H2) (hd : ∀ σ H, Pv z.length σ H → D.nx σ H) : ForW g tb D σ (Its z) H := by
  refine ⟨fun i m σ H => m = z.length - i ∧ i ≤ z.length ∧ Pv i σ H, ⟨z.length, by simp, Nat.zero_le _, h0⟩, ?_⟩
  rintro i m σ H ⟨rfl, hi, p⟩
  by_cases hlt : i < z.length
  · refine .inr ⟨hlt, Pv (i + 1), fun σ' H' p' => ⟨z.length - (i + 1), by omega, rfl, hlt, p'⟩, fun x H' y => ?_⟩
    obtain ⟨e, c, hc, y⟩ := y
    subst e y
    exact hs i c σ _ hc p
  · have e : i = z.length := by omega
    subst e
    exact .inl ⟨Nat.le_refl _, hd σ H p⟩
end
section
variable {X : Cx}
theorem op_eqDK (K : PySem.W.Frag) {k : Nat} (hr : Room k X.A) (hK : X.K = K := by rfl) : OpR X (compareOp .Eq) (fun x y H Q => ∃ d ds, (d = .lst ds ∨ d = .tup ds) ∧ dep d ≤ 60 ∧ Deep K H d x ∧ Deep K H d y ∧ Q (.bl true) H) := by subst hK; exact op_eqD hr
end

end L2

namespace L2
open PySem PySem.Spec PyProof.Rows
def XObj (h : Heap) (e : Addr) (C : Value) (dx : Option Addr) (tb : Value) : Prop := ∃ (oe : Obj) (vs : Array Value), h.get? e = some oe ∧ oe.cls = C ∧ oe.dict = dx ∧ oe.data = .fields vs ∧ vs[1]? = some tb ∧ (dx ≠ none → vs[2]? = some .none)
def TbAt (h : Heap) (T : Addr) (fl : Value) : Prop := ∃ (o : Obj) (ts : Array Value), h.get? T = some o ∧ o.data = .fields ts ∧ ts[3]? = some fl
def KeptX (fr : List Addr) (e : Addr) (tb : Value) (h h' : Heap) : Prop :=
  ∀ b o, h.get? b = some o → b ≠ e → tb ≠ .ref b → ∃ sl, h'.get? b = some { o with slots := sl } ∧ (b ∉ fr → sl = o.slots)
theorem KeptX.there {fr : List Addr} {e : Addr} {tb : Value} {h h' : Heap} (k : KeptX fr e tb h h') {b : Addr} {o : Obj} (q : h.get? b = some o) (n : b ≠ e) (n' : tb ≠ .ref b) (f : b ∉ fr) : h'.get? b = some o := by
  obtain ⟨sl, x, y⟩ := k b o q n n'
  rw [x, y f]
section
variable {M : Model} {A : Around} {E : Value → Shared → Prop} {s : Shared} {base : Heap} {env : Env} {outer : List Env} {L e : Addr} {C : Value} {dx : Option Addr} {tb : Value} {Q : Unit → Shared → Prop}
end
section
variable {M : Model} {A : Around} {E : Value → Shared → Prop} {s : Shared} {base : Heap} {env : Env} {outer : List Env} {L e : Addr} {C : Value} {dx : Option Addr} {tb : Value} {Q : Unit → Shared → Prop}
end
def XP (e : Addr) (C : Value) (dx : Option Addr) (h : Heap) : Prop := ∃ (oe : Obj) (vs : Array Value), h.get? e = some oe ∧ oe.cls = C ∧ oe.dict = dx ∧ oe.data = .fields vs ∧ 1 < vs.size
def XO (e : Addr) (C : Value) (dx : Option Addr) : HO := .ext (XP e C dx)
theorem XP.obj {P : Program} {w : World} {H : Hp} {h : Heap} {e : Addr} {C : Value} {dx : Option Addr} (x : XP e C dx h) : ObjOk P w H h e (XO e C dx) := by
  obtain ⟨oe, vs, he, r⟩ := id x
  refine ⟨x, ⟨oe, he⟩, fun h1 h2 y k => ?_⟩
  obtain ⟨o1, v1, g1, r1⟩ := y
  exact ⟨o1, v1, k o1 g1, r1⟩
theorem XO.at {P : Program} {w : World} {H : Hp} {h : Heap} {e : Addr} {C : Value} {dx : Option Addr} (k : HOk P w H h) (x : H e = some (XO e C dx)) : XP e C dx h := (k e _ x).1
def CXe (P : Program) (w : World) : CXT := fun outer H s E ev s' => ∃ (e : Addr) (C : Value) (dx : Option Addr) (T : Addr) (H' : Hp), ev = .ref e ∧ s'.os = s.os ∧ AllBare s'.gens ∧ Un (frs outer) [] H H' s.heap s'.heap ∧ HOk P w H' s'.heap ∧
  s.heap.objs.size ≤ e ∧ s.heap.objs.size ≤ T ∧ T ≠ e ∧ H' e = some (XO e C dx) ∧ H' T = none ∧ XObj s'.heap e C dx (.ref T) ∧ TbAt s'.heap T .none ∧ E ev none H'
section
variable {X : Cx} {pins : List (Addr × Obj)} {σ : St} {H : Hp} {s : Shared} {e : Addr} {C : Value} {dx : Option Addr} {tb : Value}
theorem KeptX.hok {h' : Heap} (I : Inw X pins σ H s) (k : KeptX (frs X.stack) e tb s.heap h') (he : H e = some (XO e C dx)) (hn : ∀ T, tb = .ref T → H T = none) (x : XP e C dx h') : HOk X.prog X.w H h' := fun b u q => by
  by_cases hb : b = e
  · subst hb
    rw [he] at q
    cases q
    exact x.obj
  · refine (I.hok b u q).stay (fun c v hc r => ?_) (fun _ z => z) fun _ _ z => z
    have hce : c ≠ e := by
      rcases hc with z | z
      · rw [z]; exact hb
      · intro z'; rw [z', he] at z; cases z
    have hc1 : ∃ w, H c = some w := by
      rcases hc with z | z
      · exact ⟨u, by rw [z]; exact q⟩
      · exact ⟨_, z⟩
    obtain ⟨w1, hw⟩ := hc1
    refine k.there r hce (fun z => ?_) fun z => ?_
    · rw [hn c z] at hw; cases hw
    · rw [I.stkFree c z] at hw; cases hw
theorem KeptX.un {h' : Heap} (k : KeptX (frs X.stack) e tb s.heap h') (I : Inw X pins σ H s) (he : H e = some (XO e C dx)) (hx : XP e C dx h') (hex : ∀ T, tb = .ref T → T ∈ X.ex ∨ X.s₀.heap.objs.size ≤ T) : Un X.fs X.ex X.H₀ H X.s₀.heap h' := by
  have ne : ∀ b o, s.heap.get? b = some o → H b = none → b ≠ e := fun b o _ n z => by rw [z, he] at n; cases n
  have nt : ∀ b o, X.s₀.heap.get? b = some o → b ∉ X.ex → tb ≠ .ref b := fun b o q hx z => by
    rcases hex b z with r | r
    · exact hx r
    · exact absurd (Nat.lt_of_lt_of_le (Heap.lt_size q) r) (Nat.lt_irrefl _)
  have nl : ∀ b o, X.s₀.heap.get? b = some o → b ≠ X.env.locals := fun b o q => Nat.ne_of_lt (Nat.lt_of_lt_of_le (Heap.lt_size q) I.ok.above)
  refine ⟨fun b o q n hb hxx => ?_, fun b o q n hb hxx => ?_, I.base.free, fun b o q hxx => ?_, I.base.tups, I.base.frzs, I.base.tbls⟩
  · have q1 := I.base.keep b o q n hb hxx
    have n1 := I.base.free b o q n hxx
    refine k.there q1 (ne b o q1 n1) (nt b o q hxx) fun z => ?_
    rcases List.mem_cons.mp (I.stkSub b z) with r | r
    · exact nl b o q r
    · exact hb r
  · obtain ⟨sl, q1⟩ := I.base.slot b o q n hb hxx
    have n1 := I.base.free b o q n hxx
    obtain ⟨sl2, q2, _⟩ := k b _ q1 (ne b _ q1 n1) (nt b o q hxx)
    exact ⟨sl2, q2⟩
  · obtain ⟨o1, q1⟩ := I.base.there b o q hxx
    by_cases hbe : b = e
    · obtain ⟨oe, _, g, _⟩ := hx
      exact ⟨oe, by rw [hbe]; exact g⟩
    · obtain ⟨sl2, q2, _⟩ := k b _ q1 hbe (nt b o q hxx)
      exact ⟨_, q2⟩
end
section
variable {P : Program} {w : World} {K : PySem.W.Frag} {mg : Str → Option Value} {base : Heap} {N : List Str} {qual : Str} {scope : Scope} {f : Addr} {cd : Value} {A : Around} {outer : List Env} {s : Shared} {H : Hp} {E : XK}
end

end L2

namespace L2
open PySem PySem.Spec PyProof.Rows
abbrev bmV : List Value := [.type "ValueError", .type "Exception", .type "BaseException", .type "object"]
section
variable {prog : Program} {w : World} {A : Around} {E : Value → Shared → Prop} {h : Heap} {g : Array GenState} {d : Drawn} {t : Nat} {os : OsState} {K : PySem.W.Frag}
variable {nm qn : Str} {C N fI : Addr} {bs bm : List Value} {hdct : Bool} {sn : List Str} {sub : List Value} {ab : Bool} {col : Option Bool} {dd : Option Addr} {k0 k1 k2 k3 k5 : Option Value}
end
section
open PySem.W Builtin Builtin.ObjectAttr
variable {prog : Program} {w : World} {A : Around} {E : Value → Shared → Prop} {s : Shared} {K : PySem.W.Frag} {C FE x : Addr} {o : Obj} {name : Str} {v : Value} {cd : ClassData} {vs : Array Value}
end
def XPn (e : Addr) (C : Value) (dx : Option Addr) (h : Heap) : Prop := ∃ (oe : Obj) (vs : Array Value), h.get? e = some oe ∧ oe.cls = C ∧ oe.dict = dx ∧ oe.data = .fields vs ∧ vs[1]? = some .none ∧ vs[2]? = some .none
theorem XPn.on {h : Heap} {e : Addr} {C : Value} {dx : Option Addr} (x : XPn e C dx h) : XObj h e C dx .none := let ⟨oe, vs, he, hc, hd, hv, h1, h2⟩ := x; ⟨oe, vs, he, hc, hd, hv, h1, fun _ => h2⟩
def XN (e : Addr) (C : Value) (dx : Option Addr) : HO := .ext (XPn e C dx)
theorem XPn.obj {P : Program} {w : World} {H : Hp} {h : Heap} {e : Addr} {C : Value} {dx : Option Addr} (x : XPn e C dx h) : ObjOk P w H h e (XN e C dx) := by
  obtain ⟨oe, vs, he, r⟩ := id x
  refine ⟨x, ⟨oe, he⟩, fun h1 h2 y k => ?_⟩
  obtain ⟨o1, v1, g1, r1⟩ := y
  exact ⟨o1, v1, k o1 g1, r1⟩
theorem XN.at {P : Program} {w : World} {H : Hp} {h : Heap} {e : Addr} {C : Value} {dx : Option Addr} (k : HOk P w H h) (x : H e = some (XN e C dx)) : XPn e C dx h := (k e _ x).1
def strKeys (es : Array DictEntry) : Bool := es.toList.all fun e => match e.key with
  | .str _ _ => true
  | _ => false
structure XCls (K : PySem.W.Frag) (C FE : Addr) : Prop where
  ob : ∃ (nm qn : Str) (N : Addr) (bs : List Value) (sn : List Str) (sub : List Value) (ab : Bool) (col : Option Bool) (dd : Option Addr) (k0 k1 k2 k3 k5 : Option Value), K.lookup C = some (excClassObj nm qn C N bs (.ref FE :: bmV) true sn sub ab col dd k0 k1 k2 k3 k5 "ValueError.__new__")
  fe : ∃ (c0 : Value) (dd : Option Addr) (cd : ClassData) (sl : Array (Option Value)) (c1 : Value) (d1 : Option Addr) (es : Array DictEntry) (n : Nat) (sl1 : Array (Option Value)), K.lookup FE = some ⟨c0, dd, .cls cd, sl⟩ ∧ K.lookup cd.ns = some ⟨c1, d1, .dict es n, sl1⟩ ∧ strKeys es = true ∧ nsFind es "__init__" = none
  sa : PySem.W.findIn K (.ref C) "__setattr__" = some (some (.builtin "object.__setattr__"))
theorem XCls.cd {K : PySem.W.Frag} {C FE : Addr} (x : XCls K C FE) : ∃ cd, PySem.W.clsIn K C = some cd ∧ cd.mro = .ref C :: .ref FE :: bmV ∧ cd.hasDict = true := by
  obtain ⟨nm, qn, N, bs, sn, sub, ab, col, dd, k0, k1, k2, k3, k5, l⟩ := x.ob
  have q : PySem.W.clsIn K C = some { name := nm, bases := bs, mro := .ref C :: .ref FE :: bmV, ns := N, qualname := qn, hasDict := true, slotNames := sn, subclasses := sub, abstract := ab, collection := col, hasDel := false } := by
    unfold PySem.W.clsIn
    rw [l]
  exact ⟨_, q, rfl, rfl⟩
theorem XCls.tail {K : PySem.W.Frag} {C FE : Addr} {h : Heap} (x : XCls K C FE) (X : K.In h) : OwnTail h bmV (.ref FE :: bmV) := by
  obtain ⟨c0, dd, cd, sl, c1, d1, es, n, sl1, l1, l2, sk, ni⟩ := x.fe
  refine .own (X _ _ l1) ⟨_, es, n, X _ _ l2, rfl, fun e he => ?_, fun _ => rfl⟩ ni .base
  have z := List.all_eq_true.mp sk e (by simpa using he)
  cases ek : e.key with
  | str nm t => exact ⟨nm, t, rfl⟩
  | _ => rw [ek] at z; cases z


section
variable {P : Program} {w : World} {K : PySem.W.Frag} {mg : Str → Option Value} {base : Heap} {N : List Str} {qual : Str} {scope : Scope} {f0 : Addr} {cd : Value} {A : Around} {outer : List Env} {s0 : Shared} {H0 : Hp} {E : XK}
end

end L2

namespace L2
open PySem PySem.Spec PyProof.Rows
structure XCatch (K : PySem.W.Frag) (FE : Addr) : Prop where
  lk : ∃ (dd : Option Addr) (cd : ClassData) (sl : Array (Option Value)), K.lookup FE = some ⟨.type "type", dd, .cls cd, sl⟩
  ba : PySem.W.mroIn K FE (.type "BaseException") = some true
def xeT (X : Cx) (pins : List (Addr × Obj)) (W : St → Addr → Hp → Prop) (ev : Value) (s' : Shared) : Prop := ∃ (e : Addr) (C : Value) (dx : Option Addr) (T : Addr) (σ : St) (H' : Hp), ev = .ref e ∧ Inw X pins σ H' s' ∧ H' e = some (XO e C dx) ∧ T ≠ e ∧ FpOk X pins H' T ∧ XObj s'.heap e C dx (.ref T) ∧ TbAt s'.heap T .none ∧ W σ e H'
def Cx.tr (X : Cx) (pins : List (Addr × Obj)) (W : St → Addr → Hp → Prop) : Cx := { X with pn := X.pn ++ pins, xe := xeT X pins W }
def Cx.hn (X : Cx) (ev : Value) : Cx := { X with A := X.A.mark (some ev), calm := false, xe := fun _ _ => False }
section
variable {X : Cx} {pins pins' : List (Addr × Obj)} {σ : St} {H : Hp} {s : Shared} {W : St → Addr → Hp → Prop} {ev : Value}
theorem Inw.tr (I : Inw X pins σ H s) : Inw (X.tr pins W) [] σ H s :=
  ⟨⟨I.ok.mod, I.ok.kind, I.ok.glob, I.ok.blt, I.ok.above, I.ok.inj, I.ok.has, I.ok.cab, I.ok.hd, I.ok.frames, I.ok.stk, I.ok.exf, I.ok.bs, I.ok.bsz, I.ok.noex, I.ok.exfs, I.ok.funs, I.ok.frf⟩,
    I.os, I.bare, I.base, I.loc, I.cell, I.free, I.freeC, fun p hp => I.pin p (by rw [List.append_nil] at hp; exact hp), I.hok, I.len⟩
theorem Inw.hn (I : Inw X pins σ H s) : Inw (X.hn ev) pins σ H s :=
  ⟨⟨I.ok.mod, I.ok.kind, I.ok.glob, I.ok.blt, I.ok.above, I.ok.inj, I.ok.has, I.ok.cab, fun z => (by cases z), I.ok.frames, I.ok.stk, I.ok.exf, I.ok.bs, I.ok.bsz, I.ok.noex, I.ok.exfs, I.ok.funs, I.ok.frf⟩,
    I.os, I.bare, I.base, I.loc, I.cell, I.free, I.freeC, I.pin, I.hok, I.len⟩
end
section
variable {X : Cx} {pins : List (Addr × Obj)} {σ : St} {H : Hp} {s : Shared}
theorem Inw.gone {i : Nat} {x : Str} {h' : Heap} {m : Str → Option Value} {v : Option Value} {tk : Nat} (I : Inw X pins σ H s) (hN : X.N.Nodup) (hi : X.N[i]? = some x) (hk : X.env.scope.names.lookup x = some .local) (hm : s.heap.Ns X.env.locals m)
    (hl : ∀ (j : Nat) (y : Str) (u : V), X.N[j]? = some y → σ[j]? = some (some u) → Vis X.env.scope y → ∃ z, RelV u z ∧ Look X.env s.heap m y z)
    (n' : h'.Ns X.env.locals (fun y => if y = x then v else m y)) (sb : Heap.SameBut X.env.locals s.heap h') : Inw X pins (σ.set i none) H { s with heap := h', toks := tk } := by
  have lt : ∀ b o, X.s₀.heap.get? b = some o → b ≠ X.env.locals := fun b o e => Nat.ne_of_lt (Nat.lt_of_lt_of_le (Heap.lt_size e) I.ok.above)
  obtain ⟨oL, _, _, hoL, _⟩ := id hm
  refine ⟨I.ok, I.os, I.bare, ⟨fun b o e n hb hx => (sb.2 b (lt b o e)).trans (I.base.keep b o e n hb hx), fun b o e n hb hx => ?_, I.base.free, fun b o e hx => ?_, I.base.tups, I.base.frzs, I.base.tbls⟩, ⟨_, n', fun j y u e1 e2 e3 => ?_⟩, fun y c e => ?_, I.free, I.freeC, fun p hp => ?_, fun b ob e => ?_, by simpa using I.len⟩
  · obtain ⟨sl, e1⟩ := I.base.slot b o e n hb hx
    exact ⟨sl, (sb.2 b (lt b o e)).trans e1⟩
  · obtain ⟨o', e1⟩ := I.base.there b o e hx
    exact ⟨o', (sb.2 b (lt b o e)).trans e1⟩
  · by_cases hj : j = i
    · subst hj
      rw [List.getElem?_set] at e2
      simp at e2
    · rw [List.getElem?_set_ne (Ne.symm hj)] at e2
      obtain ⟨z, r, q⟩ := hl j y u e1 e2 e3
      refine ⟨z, r, ?_⟩
      rcases q with ⟨k, e⟩ | ⟨k, c, e, w⟩
      · have ne : y ≠ x := fun e => hj (nodup_ix hN e1 (e ▸ hi))
        exact .inl ⟨k, by simp [ne, e]⟩
      · exact .inr ⟨k, c, e, w.sameBut sb (I.cne y c e)⟩
  · obtain ⟨w, z⟩ := I.cell y c e
    exact ⟨w, z.sameBut sb (I.cne y c e)⟩
  · obtain ⟨e, n, ne, nf, d⟩ := I.pin p hp
    exact ⟨(sb.2 p.1 ne).trans e, n, ne, nf, d⟩
  · refine (I.hok b ob e).stay (fun c w hc q => (sb.2 c ?_).trans q) (fun _ q => q) fun _ _ q => q
    intro z
    rcases hc with r | r
    · rw [← r, z, I.free] at e; cases e
    · rw [z, I.free] at r; cases r
end

end L2

namespace L2
open PySem PySem.Spec PyProof.Rows
structure XAttr (K : PySem.W.Frag) (C : Addr) : Prop where
  ga : PySem.W.findIn K (.ref C) "__getattribute__" = some (some (.builtin "BaseException.__getattribute__"))
  hk : PySem.W.findIn K (.ref C) "__getattr__" = some none
  ba : PySem.W.mroIn K C (.type "BaseException") = some true
  ob : PySem.W.mroIn K C (.type "object") = some true
  hd : PySem.W.hasDictIn K C = true
  cl : PySem.W.findIn K (.ref C) "__class__" = some (some (.builtin "object.__class__"))
  cg : PySem.W.specialIn K (.builtin "object.__class__") "__get__" = some (some (.builtin "getset_descriptor.__get__"))
  ct : PySem.W.takesIn K (.builtin "object.__class__") = some true
section
open PySem.W Builtin Builtin.ObjectAttr
variable {prog : Program} {w : World} {A : Around} {E : Value → Shared → Prop} {s : Shared} {K : PySem.W.Frag} {C x : Addr} {ox : Obj} {od : Option Obj} {name : Str} {v : Value}
end
section
variable {X : Cx}
theorem pe_gint {x : Str} {i : Int} {t : Tok} {pos : Pos} (hg : Gl X x) (hm : X.mg x = some (.int i t)) (hdb : (x == ("__debug__" : Str)) = false := by decide) : PE X (.Name x pos) (tC (.int i)) := fun _ _ _ H _ I h => ld_glob I hg hm ⟨.int i, H, I, ⟨_, rfl⟩, h⟩ hdb
end

end L2

namespace L2
open PySem PySem.Spec PyProof.Rows
section
variable {X : Cx}
theorem carried_strs : ∀ {zs : List Str} {us : List Value}, Vals (zs.map V.str) us → CarriedAll us (zs.map PyData.str)
  | [], us, r => by cases r; exact .nil
  | z :: zs, us, r => by
    cases r with
    | cons r0 rs =>
      obtain ⟨t, rfl⟩ := r0
      exact .cons (.str _ t) (carried_strs rs)
def rJoin (K : PySem.W.Frag) : V → List V → Hp → VK → Prop := fun x vs H Q => ∃ (z : Str) (p : Addr) (zs : List Str) (B : Nat), x = .str z ∧ vs = [.ref p] ∧ SqL K H p (zs.map V.str) ∧ (∀ y ∈ zs, y.length ≤ B) ∧ zs.length ≤ 1000 ∧ B + z.length ≤ 16 ∧ Q (.str (Txt.join z zs)) H
theorem mt_join (K : PySem.W.Frag) (hK : X.K = K := by rfl) : MtM X "str.join" (rJoin K) := by
  subst hK
  intro pins s σ H x vs v us Q I rx rv h
  obtain ⟨z, p, zs, B, rfl, rfl, hp, hB, hl, hs, q⟩ := h
  obtain ⟨t, rfl⟩ := rx
  obtain ⟨u, rfl, ru⟩ := vals1 rv
  cases ru
  obtain ⟨its, r, pl, hz⟩ := I.list hp
  refine PyProof.Rows.join_madeW (l := zs) (g := id) (items := its.toArray) B pl.isList (by simpa using carried_strs r) hB (by omega) hs fun t' k => ⟨.str (Txt.join z zs), H, I.tok _, ⟨t', by simp⟩, q⟩
theorem vals_bools : ∀ {bs : List Bool} {us : List Value} {i : Nat} {v : Value}, Vals (bs.map V.bl) us → us[i]? = some v → ∃ b, bs[i]? = some b ∧ v = .bool b
  | [], us, i, v, r, e => by cases r; simp at e
  | b :: bs, us, 0, v, r, e => by cases r with | cons r0 rs => simp at e; subst e; exact ⟨b, rfl, r0⟩
  | b :: bs, us, i + 1, v, r, e => by
    cases r with
    | cons r0 rs => obtain ⟨b', e1, e2⟩ := vals_bools (i := i) rs (by simpa using e); exact ⟨b', by simpa using e1, e2⟩
theorem call_all (K : PySem.W.Frag) (hc : X.calm = true) (hK : X.K = K := by rfl) : CallR X (.builtin "all") (fun xs H Q => ∃ (p : Addr) (bs : List Bool), xs = [.ref p] ∧ SqL K H p (bs.map V.bl) ∧ Q (.bl (bs.all id)) H) := by
  subst hK
  intro pins s σ H xs us Q I r h
  obtain ⟨p, bs, rfl, hp, q⟩ := h
  obtain ⟨u, rfl, ru⟩ := vals1 r
  cases ru
  obtain ⟨its, rv, pl, hz⟩ := I.list hp
  have lt : p < s.heap.objs.size := let ⟨o, ho, _⟩ := pl.isList; Heap.lt_size ho
  have ne : p ≠ s.heap.objs.size := Nat.ne_of_lt lt
  refine call_all_walk (wpAny_pyIter_list pl.isList ⟨_, _, _, _, _, _, fun i => bs.getD i true, rfl, Walks.list (A := X.A.in1) (I.ok.hd hc) _ p ne its.toArray, ⟨⟨_, Heap.get?_push_size _ rfl, rfl, rfl⟩, pl.isList.push _⟩, ?_, fun h' tk k => ?_⟩)
  · intro i v s' Q' E' hv hq
    obtain ⟨b, e1, rfl⟩ := vals_bools (i := i) rv (by simpa using hv)
    have e2 : bs.getD i true = b := by rw [List.getD_eq_getElem?_getD, e1]; rfl
    dsimp only at hq
    rw [e2] at hq
    exact wpAny_pure hq
  · have el : its.toArray.size = bs.length := by rw [List.size_toArray, ← rv.length, List.length_map]
    have ea : ((List.range its.toArray.size).all fun i => bs.getD i true) = bs.all id := by
      rw [el, Bool.eq_iff_iff, List.all_eq_true, List.all_eq_true]
      constructor
      · intro z b hb
        obtain ⟨i, hi⟩ := List.mem_iff_getElem?.mp hb
        have := z i (List.mem_range.mpr (List.getElem?_eq_some_iff.mp hi).1)
        rw [List.getD_eq_getElem?_getD, hi] at this
        exact this
      · intro z i hi
        have hi' := List.mem_range.mp hi
        rw [List.getD_eq_getElem?_getD, List.getElem?_eq_getElem hi']
        exact z _ (List.getElem_mem hi')
    rw [ea]
    refine ⟨.bl _, H, ?_, rfl, q⟩
    have J := I.kept (h' := s.heap.push { cls := .type "list_iterator", data := .fields #[.ref p, .int 0 0] }) (t' := s.toks) fun b o z => Heap.get?_push_of_some _ z
    obtain ⟨g0, g1, g2, g3, g4, g5⟩ := I.fpOk (H' := H) (b := s.heap.objs.size) (Nat.le_refl _) (I.hok.fresh (Nat.le_refl _))
    exact Inw.turned (s := { s with heap := s.heap.push { cls := .type "list_iterator", data := .fields #[.ref p, .int 0 0] } }) (h' := h') (t' := tk) (it := s.heap.objs.size) J (fun b o hb z => k b o (by simpa using hb) z) g0 g1 g3 g4 g5
end

end L2

namespace L2
open PySem PySem.Spec PyProof.Rows

section
variable {X : Cx}
end
theorem op_neDK {X : Cx} (K : PySem.W.Frag) {k : Nat} (hr : Room k X.A) (hK : X.K = K := by rfl) : OpR X (compareOp .NotEq) (fun x y H Q => ∃ ds, dep (.lst ds) ≤ 60 ∧ Deep K H (.lst ds) x ∧ Deep K H (.lst ds) y ∧ Q (.bl false) H) := by subst hK; exact op_neD hr
theorem FnOk.calm {P : Program} {w : World} {K : PySem.W.Frag} {mg : Str → Option Value} {base : Heap} {k : Nat} {f : Addr} {fd : FuncData} {ps : List Str} {sp sp' : Sp} (F : FnOk P w K mg base (CXe P w) k f fd ps sp) (h : ∀ vs H Q E, sp' vs H Q E → sp vs H Q (fun _ _ _ => False)) : FnOk P w K mg base CX0 k f fd ps sp' :=
  ⟨fun vs H Q E q => F.len vs H Q _ (h _ _ _ _ q), fun A outer s H args us vs Q E hr he hb hv hs => codeAny_mono (F.run A outer s H args us vs Q _ hr he hb hv (h _ _ _ _ hs)) fun r s' hq => by
    cases r with
    | ok fl => cases fl <;> exact hq
    | error e =>
      obtain ⟨_, _, _, _, _, _, _, _, _, _, _, _, _, _, _, _, _, z⟩ := hq
      exact z.elim⟩

end L2

namespace L2
open PySem PySem.Spec PyProof.Rows

section
variable {X : Cx} {e st : Expr} {te ts : TE} {pos p2 : Pos}
end
structure XCls0 (K : PySem.W.Frag) (C FE : Addr) : Prop where
  ob : ∃ (nm qn : Str) (N : Addr) (bs : List Value) (sn : List Str) (sub : List Value) (ab : Bool) (col : Option Bool) (dd : Option Addr) (k0 k1 k2 k3 k5 : Option Value) (c1 : Value) (d1 : Option Addr) (es : Array DictEntry) (n : Nat) (sl1 : Array (Option Value)), K.lookup C = some (excClassObj nm qn C N bs (.ref FE :: bmV) true sn sub ab col dd k0 k1 k2 k3 k5 "ValueError.__new__") ∧
    K.lookup N = some ⟨c1, d1, .dict es n, sl1⟩ ∧ strKeys es = true ∧ nsFind es "__init__" = none
  fe : ∃ (c0 : Value) (dd : Option Addr) (cd : ClassData) (sl : Array (Option Value)) (c1 : Value) (d1 : Option Addr) (es : Array DictEntry) (n : Nat) (sl1 : Array (Option Value)), K.lookup FE = some ⟨c0, dd, .cls cd, sl⟩ ∧ K.lookup cd.ns = some ⟨c1, d1, .dict es n, sl1⟩ ∧ strKeys es = true ∧ nsFind es "__init__" = none
theorem ns_of {K : PySem.W.Frag} {h : Heap} {N : Addr} {c1 : Value} {d1 : Option Addr} {es : Array DictEntry} {n : Nat} {sl1 : Array (Option Value)} (X : K.In h) (l : K.lookup N = some ⟨c1, d1, .dict es n, sl1⟩) (sk : strKeys es = true) : h.Ns N (fun y => nsFind es y) := by
  refine ⟨_, es, n, X _ _ l, rfl, fun e he => ?_, fun _ => rfl⟩
  have z := List.all_eq_true.mp sk e (by simpa using he)
  cases ek : e.key with
  | str nm t => exact ⟨nm, t, rfl⟩
  | _ => rw [ek] at z; cases z
theorem XCls0.tail {K : PySem.W.Frag} {C FE : Addr} {h : Heap} (x : XCls0 K C FE) (X : K.In h) : OwnTail h bmV (.ref FE :: bmV) := by
  obtain ⟨c0, dd, cd, sl, c1, d1, es, n, sl1, l1, l2, sk, ni⟩ := x.fe
  exact .own (X _ _ l1) (ns_of X l2 sk) ni .base
section
variable {prog : Program} {w : World} {A : Around} {E : Value → Shared → Prop} {h : Heap} {g : Array GenState} {d : Drawn} {t : Nat} {os : OsState}
variable {nm qn : Str} {C N : Addr} {bs bm : List Value} {hdct : Bool} {sn : List Str} {sub : List Value} {ab : Bool} {col : Option Bool} {dd : Option Addr} {k0 k1 k2 k3 k5 : Option Value}
end
section
variable {P : Program} {w : World} {K : PySem.W.Frag} {mg : Str → Option Value} {base : Heap} {N : List Str} {qual : Str} {scope : Scope} {f0 : Addr} {cd : Value} {A : Around} {outer : List Env} {s0 : Shared} {H0 : Hp} {E : XK}
end

end L2

namespace L2
open PySem PySem.Spec PyProof.Rows

section
variable {X : Cx}
end

end L2

namespace L2
open PySem PySem.Spec PyProof.Rows
section
variable {X : Cx}
end


end L2

namespace L2
open PySem PySem.Spec PyProof.Rows
section
variable {X : Cx}
end
section
variable {X : Cx}
end
section
variable {X : Cx}
end

end L2

namespace L2
open PySem PySem.Spec PyProof.Rows
section
variable {κ : Type} [DecidableEq κ]
def valV (kvs : List (κ × V)) (k : κ) : Option V := (kvs.find? fun kv => decide (kv.1 = k)).map (·.2)
def putK (kvs : List (κ × V)) (k : κ) (v : V) : List (κ × V) :=
  if (kvs.any fun kv => decide (kv.1 = k)) = true then kvs.map (fun kv => if kv.1 = k then (kv.1, v) else kv) else kvs ++ [(k, v)]
def dropK (kvs : List (κ × V)) (k : κ) : List (κ × V) := kvs.filter fun kv => decide (kv.1 ≠ k)

theorem valV_pos {p : κ × V} {r : List (κ × V)} {k : κ} (e : p.1 = k) : valV (p :: r) k = some p.2 := by simp [valV, List.find?_cons, e]
theorem valV_neg {p : κ × V} {r : List (κ × V)} {k : κ} (e : ¬ p.1 = k) : valV (p :: r) k = valV r k := by simp [valV, List.find?_cons, e]
theorem valV_any (k : κ) : ∀ kvs : List (κ × V), (kvs.any fun kv => decide (kv.1 = k)) = (valV kvs k).isSome
  | [] => rfl
  | p :: r => by
    rw [List.any_cons]
    by_cases e : p.1 = k
    · simp only [valV_pos e, decide_eq_true e, Bool.true_or, Option.isSome_some]
    · rw [valV_neg e, decide_eq_false e, Bool.false_or]; exact valV_any k r
theorem valV_map (k j : κ) (y : V) : ∀ kvs : List (κ × V), valV (kvs.map fun kv => if kv.1 = k then (kv.1, y) else kv) j = (valV kvs j).map fun x => if j = k then y else x
  | [] => rfl
  | p :: r => by
    have ih := valV_map k j y r
    rw [List.map_cons]
    by_cases h : p.1 = k
    · rw [if_pos h]
      by_cases e : p.1 = j
      · rw [valV_pos (p := (p.1, y)) e, valV_pos e, Option.map_some, if_pos (e.symm.trans h)]
      · rw [valV_neg (p := (p.1, y)) e, valV_neg e, ih]
    · rw [if_neg h]
      by_cases e : p.1 = j
      · rw [valV_pos (p := p) e, valV_pos e, Option.map_some, if_neg (fun z => h (e.trans z))]
      · rw [valV_neg (p := p) e, valV_neg e, ih]
theorem valV_snoc (k j : κ) (y : V) : ∀ kvs : List (κ × V), valV kvs k = none → valV (kvs ++ [(k, y)]) j = if j = k then some y else valV kvs j
  | [], _ => by
    by_cases e : k = j
    · rw [if_pos e.symm]; exact valV_pos (p := (k, y)) e
    · rw [if_neg (fun z => e z.symm)]; exact valV_neg (p := (k, y)) e
  | p :: r, hn => by
    rw [List.cons_append]
    have hk : ¬ p.1 = k := fun z => by rw [valV_pos z] at hn; cases hn
    rw [valV_neg hk] at hn
    have ih := valV_snoc k j y r hn
    by_cases e : p.1 = j
    · rw [valV_pos e, valV_pos e, if_neg (fun z => hk (e.trans z))]
    · rw [valV_neg e, valV_neg e, ih]
theorem valV_put (kvs : List (κ × V)) (k j : κ) (y : V) : valV (putK kvs k y) j = if j = k then some y else valV kvs j := by
  unfold putK
  by_cases a : (kvs.any fun kv => decide (kv.1 = k)) = true
  · rw [if_pos a, valV_map]
    rw [valV_any] at a
    by_cases e : j = k
    · obtain ⟨x, hx⟩ := Option.isSome_iff_exists.mp a
      rw [if_pos e, e, hx, Option.map_some, if_pos rfl]
    · rw [if_neg e]
      cases valV kvs j with
      | none => rfl
      | some x => rw [Option.map_some, if_neg e]
  · rw [if_neg a]
    refine valV_snoc k j y kvs ?_
    rw [valV_any] at a
    cases q : valV kvs k with
    | none => rfl
    | some x => rw [q] at a; exact (a rfl).elim
theorem length_putK (kvs : List (κ × V)) (k : κ) (v : V) : (putK kvs k v).length ≤ kvs.length + 1 := by
  unfold putK
  split
  · rw [List.length_map]; omega
  · rw [List.length_append, List.length_cons, List.length_nil]; omega
theorem putK_new {kvs : List (κ × V)} {k : κ} (v : V) (h : valV kvs k = none) : putK kvs k v = kvs ++ [(k, v)] := by
  unfold putK
  rw [valV_any, h]
  exact if_neg (by decide)

theorem RelO.isSome_eq {o : Option V} {u : Option Value} (r : RelO o u) : o.isSome = u.isSome := by
  cases o with
  | none => cases u with
    | none => rfl
    | some _ => exact (show False from r).elim
  | some _ => cases u with
    | none => exact (show False from r).elim
    | some _ => rfl
theorem RelO.getD {o : Option V} {u : Option Value} {d : V} {d' : Value} (r : RelO o u) (rd : RelV d d') : RelV (o.getD d) (u.getD d') := by
  cases o with
  | none => cases u with
    | none => exact rd
    | some _ => exact (show False from r).elim
  | some _ => cases u with
    | none => exact (show False from r).elim
    | some _ => exact r

theorem KV.val {kvs : List (κ × V)} {vs : List (κ × Value)} (r : KV kvs vs) (k : κ) : RelO (valV kvs k) (valueAt vs k) := by
  unfold KV at r
  induction r with
  | nil => exact True.intro
  | @cons p q ps qs h t ih =>
    obtain ⟨h1, h2⟩ := h
    by_cases e : p.1 = k
    · have e' : q.1 = k := h1.symm.trans e
      have b : valueAt (q :: qs) k = some q.2 := by simp [valueAt, List.find?_cons, e']
      rw [valV_pos e, b]; exact h2
    · have e' : ¬ q.1 = k := fun z => e (h1.trans z)
      have b : valueAt (q :: qs) k = valueAt qs k := by simp [valueAt, List.find?_cons, e']
      rw [valV_neg e, b]; exact ih
theorem KV.any {kvs : List (κ × V)} {vs : List (κ × Value)} (r : KV kvs vs) (k : κ) : (kvs.any fun kv => decide (kv.1 = k)) = vs.any fun kv => decide (kv.1 = k) := by
  unfold KV at r
  induction r with
  | nil => rfl
  | cons h t ih => rw [List.any_cons, List.any_cons, ih, h.1]
theorem KV.repl {kvs : List (κ × V)} {vs : List (κ × Value)} (r : KV kvs vs) (k : κ) {y : V} {u : Value} (ry : RelV y u) :
    KV (kvs.map fun kv => if kv.1 = k then (kv.1, y) else kv) (vs.map fun kv => if kv.1 = k then (kv.1, u) else kv) := by
  unfold KV at r ⊢
  induction r with
  | nil => exact .nil
  | @cons p q ps qs h t ih =>
    rw [List.map_cons, List.map_cons]
    refine .cons ?_ ih
    obtain ⟨h1, h2⟩ := h
    by_cases e : p.1 = k
    · rw [if_pos e, if_pos (h1.symm.trans e)]; exact ⟨h1, ry⟩
    · rw [if_neg e, if_neg (fun z => e (h1.trans z))]; exact ⟨h1, h2⟩
theorem KV.put {kvs : List (κ × V)} {vs : List (κ × Value)} (r : KV kvs vs) (k : κ) {y : V} {u : Value} (ry : RelV y u) : KV (putK kvs k y) (stored vs k u) := by
  unfold putK stored
  rw [r.any k]
  by_cases e : (vs.any fun kv => decide (kv.1 = k)) = true
  · rw [if_pos e, if_pos e]; exact r.repl k ry
  · rw [if_neg e, if_neg e]; exact Paired.snoc r ⟨rfl, ry⟩
theorem KV.drop {kvs : List (κ × V)} {vs : List (κ × Value)} (r : KV kvs vs) (k : κ) : KV (dropK kvs k) (without vs k) := by
  unfold KV at r ⊢
  unfold dropK without
  induction r with
  | nil => exact .nil
  | @cons p q ps qs h t ih =>
    obtain ⟨h1, h2⟩ := h
    rw [List.filter_cons, List.filter_cons]
    by_cases e : p.1 = k
    · have a : ¬ decide (p.1 ≠ k) = true := by simp [e]
      have b : ¬ decide (q.1 ≠ k) = true := by simp [h1.symm.trans e]
      rw [if_neg a, if_neg b]; exact ih
    · have e' : ¬ q.1 = k := fun z => e (h1.trans z)
      have a : decide (p.1 ≠ k) = true := by simp [e]
      have b : decide (q.1 ≠ k) = true := by simp [e']
      rw [if_pos a, if_pos b]; exact .cons ⟨h1, h2⟩ ih
theorem KV.keys {kvs : List (κ × V)} {vs : List (κ × Value)} (r : KV kvs vs) : kvs.map (·.1) = vs.map (·.1) := by
  unfold KV at r
  induction r with
  | nil => rfl
  | cons h t ih => rw [List.map_cons, List.map_cons, ih, h.1]
theorem KV.length {kvs : List (κ × V)} {vs : List (κ × Value)} (r : KV kvs vs) : kvs.length = vs.length := Paired.length r
end


theorem kV_is {P : Program} {w : World} {k : Key} {u : Value} (r : RelV (kV k) u) : (mixKind P w).is k u = true := by
  cases k with
  | inl i => obtain ⟨t, e⟩ := (show ∃ t, u = Value.int i t from r); subst e; exact mixKind_int P w i t
  | inr x => obtain ⟨t, e⟩ := (show ∃ t, u = Value.str x t from r); subst e; exact mixKind_str P w x t
theorem items_are {P : Program} {w : World} : ∀ {ks : List Key} {us : List Value}, Vals (ks.map kV) us → ItemsAre (mixKind P w) ks us
  | [], _, r => by rw [List.map_nil] at r; cases r; exact .nil
  | k :: ks, _, r => by
    rw [List.map_cons] at r
    cases r with
    | cons h t => exact .cons (kV_is h) (items_are t)

abbrev KT (H : Hp) : List (List Key × V) → List (List Key × Addr × Value) → Prop := Paired fun p q => p.1 = q.1 ∧ H q.2.1 = some (.tup (p.1.map kV)) ∧ RelV p.2 q.2.2
theorem KT.val {H : Hp} {kvs : List (List Key × V)} {xs : List (List Key × Addr × Value)} (r : KT H kvs xs) (k : List Key) : RelO (valV kvs k) ((atKey xs k).map (·.2)) := by
  induction r with
  | nil => exact True.intro
  | @cons p q ps qs h t ih =>
    obtain ⟨h1, _, h2⟩ := h
    by_cases e : p.1 = k
    · have e' : q.1 = k := h1.symm.trans e
      have b : atKey (q :: qs) k = some q.2 := by simp [atKey, List.find?_cons, e']
      rw [valV_pos e, b]; exact h2
    · have e' : ¬ q.1 = k := fun z => e (h1.trans z)
      have b : atKey (q :: qs) k = atKey qs k := by simp [atKey, List.find?_cons, e']
      rw [valV_neg e, b]; exact ih
theorem KT.repl {H : Hp} {kvs : List (List Key × V)} {xs : List (List Key × Addr × Value)} (r : KT H kvs xs) (k : List Key) {y : V} {u : Value} (ry : RelV y u) :
    KT H (kvs.map fun kv => if kv.1 = k then (kv.1, y) else kv) (xs.map (putAt k u)) := by
  induction r with
  | nil => exact .nil
  | @cons p q ps qs h t ih =>
    rw [List.map_cons, List.map_cons]
    refine .cons ?_ ih
    obtain ⟨h1, h2, h3⟩ := h
    unfold putAt
    by_cases e : p.1 = k
    · rw [if_pos e, if_pos (h1.symm.trans e)]; exact ⟨h1, h2, ry⟩
    · rw [if_neg e, if_neg (fun z => e (h1.trans z))]; exact ⟨h1, h2, h3⟩
theorem KT.put {H : Hp} {kvs : List (List Key × V)} {xs : List (List Key × Addr × Value)} (r : KT H kvs xs) (k : List Key) {b : Addr} {y : V} {u : Value} (hb : H b = some (.tup (k.map kV))) (ry : RelV y u) :
    KT H (putK kvs k y) (storedH xs k b u) := by
  have e : (kvs.any fun kv => decide (kv.1 = k)) = (atKey xs k).isSome := by
    rw [valV_any, (r.val k).isSome_eq, Option.isSome_map]
  unfold putK storedH
  rw [e]
  by_cases q : (atKey xs k).isSome = true
  · rw [if_pos q, if_pos q]; exact r.repl k ry
  · rw [if_neg q, if_neg q]; exact Paired.snoc r ⟨rfl, hb, ry⟩
theorem KT.keeps {H H' : Hp} {kvs : List (List Key × V)} {xs : List (List Key × Addr × Value)} (r : KT H kvs xs) (ht : ∀ b ys, H b = some (.tup ys) → H' b = some (.tup ys)) : KT H' kvs xs :=
  Paired.mapP r fun _ _ z => ⟨z.1, ht _ _ z.2.1, z.2.2⟩

section
variable {P : Program} {w : World} {H : Hp} {h : Heap} {a : Addr}
theorem rd_of {u : HO} (ok : HOk P w H h) (e : Rd H a u) : ObjOk P w H h a u := e.ok ok
theorem dk_rd {kvs : List (Key × V)} (ok : HOk P w H h) (e : Rd H a (.dK kvs)) : kvs.length ≤ sizeLine ∧ (a == sysModules) = false ∧ ∃ vs, KV kvs vs ∧ h.DictOf (mixKind P w) a vs :=
  show ObjOk P w H h a (.dK kvs) from rd_of ok e
theorem dk_of {kvs : List (Key × V)} (ok : HOk P w H h) (e : H a = some (.dK kvs)) : kvs.length ≤ sizeLine ∧ (a == sysModules) = false ∧ ∃ vs, KV kvs vs ∧ h.DictOf (mixKind P w) a vs := dk_rd ok (.inl e)
theorem key_of {ks : List Key} (ok : HOk P w H h) (e : H a = some (.tup (ks.map kV))) : (tupleKind (mixKind P w)).is h ks a := by
  obtain ⟨_, its, r, o, h1, h2, n, h3⟩ := (show ObjOk P w H h a (.tup (ks.map kV)) from ok a _ e)
  exact ⟨o, its.toArray, n, h1, h2, h3, by simpa using items_are r⟩
theorem dt_rd {kvs : List (List Key × V)} (ok : HOk P w H h) (e : Rd H a (.dT kvs)) : kvs.length ≤ sizeLine ∧ (a == sysModules) = false ∧
    ∃ xs, KT H kvs xs ∧ h.DictOfH (tupleKind (mixKind P w)) a xs := by
  obtain ⟨z, y, xs, r, o, es, ep, h1, h2, h3, h4, h5⟩ := (show ObjOk P w H h a (.dT kvs) from rd_of ok e)
  refine ⟨z, y, xs, r, o, es, ep, h1, h2, h3, h4, fun x hx => ?_, h5⟩
  have all : ∀ {l : List (List Key × V)} {m : List (List Key × Addr × Value)}, KT H l m → ∀ x ∈ m, (tupleKind (mixKind P w)).is h x.1 x.2.1 := by
    intro l m q
    induction q with
    | nil => intro x hx; exact nomatch hx
    | @cons p q ps qs hq t ih =>
      intro x hx
      rcases List.mem_cons.mp hx with e | hx
      · subst e
        exact key_of ok (by rw [← hq.1]; exact hq.2.1)
      · exact ih x hx
  exact all r x hx
theorem dt_of {kvs : List (List Key × V)} (ok : HOk P w H h) (e : H a = some (.dT kvs)) : kvs.length ≤ sizeLine ∧ (a == sysModules) = false ∧
    ∃ xs, KT H kvs xs ∧ h.DictOfH (tupleKind (mixKind P w)) a xs := dt_rd ok (.inl e)
end

def DGet (H : Hp) (a : Addr) (y : V) (r : Option V) : Prop :=
  (∃ kvs k, Rd H a (.dK kvs) ∧ y = kV k ∧ r = valV kvs k) ∨ ∃ kvs k b, Rd H a (.dT kvs) ∧ y = .ref b ∧ H b = some (.tup (k.map kV)) ∧ r = valV kvs k
def DPut (H : Hp) (a : Addr) (y v : V) (H' : Hp) : Prop :=
  (∃ kvs k, H a = some (.dK kvs) ∧ y = kV k ∧ kvs.length < sizeLine ∧ H' = upd H a (.dK (putK kvs k v))) ∨
  ∃ kvs k b, H a = some (.dT kvs) ∧ y = .ref b ∧ H b = some (.tup (k.map kV)) ∧ kvs.length < sizeLine ∧ H' = upd H a (.dT (putK kvs k v))
theorem DGet.k {H : Hp} {a : Addr} {kvs : List (Key × V)} {k : Key} (e : H a = some (.dK kvs)) : DGet H a (kV k) (valV kvs k) := .inl ⟨kvs, k, .inl e, rfl, rfl⟩
theorem DGet.t {H : Hp} {a b : Addr} {kvs : List (List Key × V)} {k : List Key} (e : H a = some (.dT kvs)) (eb : H b = some (.tup (k.map kV))) : DGet H a (.ref b) (valV kvs k) := .inr ⟨kvs, k, b, .inl e, rfl, eb, rfl⟩
theorem DPut.k {H : Hp} {a : Addr} {kvs : List (Key × V)} {k : Key} {v : V} (e : H a = some (.dK kvs)) (hl : kvs.length < sizeLine) : DPut H a (kV k) v (upd H a (.dK (putK kvs k v))) := .inl ⟨kvs, k, e, rfl, hl, rfl⟩
theorem DPut.t {H : Hp} {a b : Addr} {kvs : List (List Key × V)} {k : List Key} {v : V} (e : H a = some (.dT kvs)) (eb : H b = some (.tup (k.map kV))) (hl : kvs.length < sizeLine) :
    DPut H a (.ref b) v (upd H a (.dT (putK kvs k v))) := .inr ⟨kvs, k, b, e, rfl, eb, hl, rfl⟩


section
variable {X : Cx} {pins : List (Addr × Obj)} {σ : St} {H : Hp} {s : Shared} {a : Addr} {y v : V} {u r : Value} {o : Option V} {A : Around} {E : Value → Shared → Prop}

theorem Inw.big (I : Inw X pins σ H s) : sysModules < s.heap.objs.size := by
  have h : mainGlobals < s.heap.objs.size := (I.mod.glob.keeps I.bk).lt
  exact Nat.lt_trans (by decide) h

theorem d_getItem {Q : Value → Shared → Prop} (hu : A.units + 1 < cLine) (I : Inv X pins σ H s) (g : DGet H a y (some v)) (ry : RelV y u) (h : ∀ w' s', Inw X pins σ H s' → RelV v w' → Q w' s') :
    wpAny (model X.prog X.w) A (getItem (.ref a) u) Q E s := by
  rcases g with ⟨kvs, k, e, ey, l⟩ | ⟨kvs, k, b, e, ey, eb, l⟩
  · subst ey
    obtain ⟨z, hd, vs, rel, dd⟩ := dk_rd I.hok e
    obtain ⟨w', hw, rw'⟩ := RelO.some_of (v := v) (o := valueAt vs k) (by rw [l]; exact rel.val k)
    exact wpAny_getItem_of (kV_is ry) dd.mapOf hw (h w' _ (I.tok _) rw')
  · subst ey
    cases (show u = Value.ref b from ry)
    obtain ⟨z, hd, xs, rel, dd⟩ := dt_rd I.hok e
    obtain ⟨w', hw, rw'⟩ := RelO.some_of (v := v) (o := (atKey xs k).map (·.2)) (by rw [l]; exact rel.val k)
    obtain ⟨p, hp, hp2⟩ := Option.map_eq_some_iff.mp hw
    refine wpAny_getItem_heap (tupleKind_room_in1 hu) (key_of I.hok eb) dd hp ?_
    rw [hp2]
    exact h w' _ (I.tok _) rw'
theorem d_write {h' : Heap} {t' : Nat} {ob : HO} (I : Inv X pins σ H s) (mu : Mut (H a)) (hs : Heap.SameBut a s.heap h') (he : ∃ q, h'.get? a = some q) (new : ObjOk X.prog X.w (upd H a ob) h' a ob) :
    Inw X pins σ (upd H a ob) { s with heap := h', toks := t' } :=
  I.write (x := a) (e := a) mu (.inl rfl) (fun b q hb z => (hs.2 b hb).trans z) he new
theorem dk_new {P : Program} {w : World} {H' : Hp} {h' : Heap} {kvs : List (Key × V)} {vs : List (Key × Value)} (z : kvs.length ≤ sizeLine) (hd : (a == sysModules) = false) (rel : KV kvs vs) (dd : h'.DictOf (mixKind P w) a vs) :
    ObjOk P w H' h' a (.dK kvs) := ⟨z, hd, vs, rel, dd⟩
theorem d_setItem {H' : Hp} {Q : Unit → Shared → Prop} (hu : A.units + 1 < cLine) (I : Inv X pins σ H s) (g : DPut H a y v H') (ry : RelV y u) (rv : RelV v r) (h : ∀ s', Inw X pins σ H' s' → Q () s') :
    wpAny (model X.prog X.w) A (setItem (.ref a) u r) Q E s := by
  rcases g with ⟨kvs, k, e, ey, l, eH⟩ | ⟨kvs, k, b, e, ey, eb, l, eH⟩
  · subst ey eH
    obtain ⟨z, hd, vs, rel, dd⟩ := dk_of I.hok e
    have hz : vs.length ≤ sizeLine := by rw [← rel.length]; exact z
    have hl : (putK kvs k v).length ≤ sizeLine := by have := length_putK kvs k v; omega
    refine wpAny_setItem_pairs (hsz := hz) (kV_is ry) dd fun h' dd' hs => h _ ?_
    have he : ∃ q, h'.get? a = some q := let ⟨q, _, _, hq, _⟩ := dd'; ⟨q, hq⟩
    exact d_write I (by rw [e]; exact True.intro) hs he (dk_new hl hd (rel.put k rv) dd')
  · subst ey eH
    cases (show u = Value.ref b from ry)
    obtain ⟨z, hd, xs, rel, dd⟩ := dt_of I.hok e
    have hz : xs.length ≤ sizeLine := by rw [← Paired.length rel]; exact z
    have hl : (putK kvs k v).length ≤ sizeLine := by have := length_putK kvs k v; omega
    refine wpAny_setItem_heap (hsz := hz) (tupleKind_room_in1 hu) (key_of I.hok eb) dd fun h' dd' hs => h _ ?_
    obtain ⟨q, es, ep, hq, h2, h3, h4, _, h5⟩ := dd'
    refine d_write I (by rw [e]; exact True.intro) hs ⟨q, hq⟩ ⟨hl, hd, _, (rel.put k eb rv).keeps fun c ys ec => ?_, q, es, ep, hq, h2, h3, h4, h5⟩
    rw [upd_ne (ne_of ec e (fun z => nomatch z))]
    exact ec
end

section
variable {X : Cx} {pins : List (Addr × Obj)} {σ : St} {H : Hp} {s : Shared} {a : Addr} {kvs : List (Key × V)} {k : Key} {u : Value} {A : Around} {E : Value → Shared → Prop}
end


def NoSl (i : Expr) : Prop := ∀ ov iv, subscripted i false ov iv = operate [ov, iv] (getItem ov iv)
theorem subD_of {prog : Program} {w : World} {A : Around} {E : Value → Shared → Prop} {s : Shared} {env : Env} {value slice : Expr} {pos : Pos} {T id : String} {Q : Value → Shared → Prop}
    (hl : typeLookup (.type T) "__getitem__" = pure (some (.builtin id))) (hs : NoSl slice)
    (h : wpAny (model prog w) A (eval value env) (fun o s₁ => wpAny (model prog w) A (eval slice env) (fun i s₂ => s₂.TypeIs o T ∧ wpAny (model prog w) A (getItem o i) Q E s₂) E s₁) E s) :
    wpAny (model prog w) A (eval (.Subscript value slice pos) env) Q E s := by
  refine Subscript_ (wpAny_mono h (fun o s₁ h₁ => wpAny_mono h₁ (fun i s₂ h₂ => ?_) fun _ _ x => x) fun _ _ x => x)
  obtain ⟨hT, h₂⟩ := h₂
  unfold subscriptTail
  refine wpAny_bind ?_
  rw [getitemInPython_of_ne hT.not_modules]
  refine wpAny_bind (wpAny_specialOf hT hl ?_)
  have fin : wpAny (model prog w) A (subscripted slice false o i) (fun r s₃ => wpAny (model prog w) A (letTemporaryGo value o r >>= fun _ => pure r) Q E s₃) E s₂ := by
    rw [hs o i]
    exact wpAny_operating (wpAny_mono h₂ (fun r s₃ h₃ => wpAny_bind (wpAny_letTemporaryGo (wpAny_pure h₃))) fun _ _ x => x)
  first
    | exact wpAny_pure (wpAny_bind fin)
    | exact wpAny_bind (wpAny_pure (wpAny_bind fin))
    | exact wpAny_bind fin

theorem dict_typeIs {X : Cx} {pins : List (Addr × Obj)} {σ : St} {H : Hp} {s : Shared} {a : Addr} {y : V} {o : Option V} (I : Inv X pins σ H s) (g : DGet H a y o) : s.TypeIs (.ref a) "dict" := by
  rcases g with ⟨kvs, k, e, _, _⟩ | ⟨kvs, k, b, e, _, _, _⟩
  · obtain ⟨_, _, vs, _, dd⟩ := dk_rd I.hok e
    exact dd.typeIs
  · obtain ⟨_, _, xs, _, dd⟩ := dt_rd I.hok e
    exact dd.typeIs

def tDGet (td ty : TE) : TE := fun σ H Q => td σ H fun x H1 => ty σ H1 fun y H2 => ∃ a v, x = .ref a ∧ DGet H2 a y (some v) ∧ Q v H2
def sDPut (td ty tv : TE) : TS := fun D σ H => tv σ H fun v H1 => td σ H1 fun x H2 => ty σ H2 fun y H3 => ∃ a H4, x = .ref a ∧ DPut H3 a y v H4 ∧ D.nx σ H4

section
variable {X : Cx} {o i e value : Expr} {pos pos' tpos : Pos} {td ty tv : TE}
theorem pe_dget (hu : X.A.units + 1 < cLine) (ho : PE X o td) (hi : PE X i ty) (hs : NoSl i) : PE X (.Subscript o i pos) (tDGet td ty) := by
  intro pins s σ H Q I h
  refine subD_of PySem.F.slot_dict_getitem.lookup hs (thn (ho pins s σ H _ I h) fun u s1 ⟨x, H1, I1, rx, q1⟩ => thn (hi pins s1 σ H1 _ I1 q1) fun iv s2 ⟨y, H2, I2, ry, a, v, ex, g, q2⟩ => ?_)
  subst ex
  obtain rfl : u = Value.ref a := rx
  exact ⟨dict_typeIs I2 g, d_getItem hu I2 g ry fun w' s3 I3 rw' => ⟨v, H2, I3, rw', q2⟩⟩
theorem ps_dput (hu : X.A.units + 1 < cLine) (ho : PE X o td) (hi : PE X i ty) (hv : PE X value tv) (hs : swapsWith value (some (.Subscript o i pos')) pos.line X.env = pure false) :
    PS X (.Assign [.Subscript o i pos'] value pos) (sDPut td ty tv) := by
  intro pins s σ H D I h
  refine wpAny_Assign_Subscript (thn (hv pins s σ H _ I h) fun r s1 ⟨v, H1, I1, rv, q1⟩ => thn (ho pins s1 σ H1 _ I1 q1) fun u s2 ⟨x, H2, I2, rx, q2⟩ => thn (hi pins s2 σ H2 _ I2 q2) fun iv s3 ⟨y, H3, I3, ry, a, H4, ex, g, q3⟩ => ?_) hs
  subst ex
  obtain rfl : u = Value.ref a := rx
  exact d_setItem hu I3 g ry rv fun s4 I4 => ⟨σ, H4, I4, q3⟩
end


theorem dk_empty {P : Program} {w : World} {H : Hp} (h : Heap) (hb : sysModules < h.objs.size) : ObjOk P w H (h.push { cls := .type "dict", data := .dict #[] }) h.objs.size (.dK []) :=
  ⟨Nat.zero_le _, beq_eq_false_iff_ne.mpr (Ne.symm (Nat.ne_of_lt hb)), [], .nil, Heap.DictOf.new h⟩
theorem dt_empty {P : Program} {w : World} {H : Hp} (h : Heap) (hb : sysModules < h.objs.size) : ObjOk P w H (h.push { cls := .type "dict", data := .dict #[] }) h.objs.size (.dT []) :=
  ⟨Nat.zero_le _, beq_eq_false_iff_ne.mpr (Ne.symm (Nat.ne_of_lt hb)), [], .nil, _, #[], 0, Heap.get?_push_size _ rfl, ⟨rfl, rfl, rfl⟩, rfl, rfl, List.nodup_nil⟩
def tDNewK : TE := fun _ H Q => ∀ p, H p = none → Q (.ref p) (upd H p (.dK []))
def tDNewT : TE := fun _ H Q => ∀ p, H p = none → Q (.ref p) (upd H p (.dT []))
section
variable {X : Cx} {pos : Pos}
theorem pe_dnewK : PE X (.Dict [] [] pos) tDNewK := fun pins s σ H Q I h =>
  wpAny_Dict_empty ⟨.ref s.heap.objs.size, _, I.laid (a := s.heap.objs.size) (o := .dK []) (t' := s.toks) (fun _ _ q => Heap.get?_push_of_some _ q) (Nat.le_refl _) (dk_empty s.heap I.big), rfl, h _ (I.hok.fresh (Nat.le_refl _))⟩
theorem pe_dnewT : PE X (.Dict [] [] pos) tDNewT := fun pins s σ H Q I h =>
  wpAny_Dict_empty ⟨.ref s.heap.objs.size, _, I.laid (a := s.heap.objs.size) (o := .dT []) (t' := s.toks) (fun _ _ q => Heap.get?_push_of_some _ q) (Nat.le_refl _) (dt_empty s.heap I.big), rfl, h _ (I.hok.fresh (Nat.le_refl _))⟩
end




structure M1 (X : Cx) (o : Expr) (m : Str) (apos : Pos) (e : Expr) (cpos : Pos) : Prop where
  base : attributeBase o m X.env (eval o X.env) = eval o X.env
  few : ((backTo cpos (starEach [e] X.env)).all (fun x => !x.1) && (backToKw cpos (keywordEach [] X.env)).all (fun x => x.1.isSome)
    && decide (([e] : List Expr).length + ([] : List Keyword).length + (if ([] : List Keyword).isEmpty then 0 else 1) < 30)) = true
  line : (apos.endLine == cpos.line) = true
  trees : backTo cpos (starEach [e] X.env) = [(false, eval e X.env)]
structure M2 (X : Cx) (o : Expr) (m : Str) (apos : Pos) (e f : Expr) (cpos : Pos) : Prop where
  base : attributeBase o m X.env (eval o X.env) = eval o X.env
  few : ((backTo cpos (starEach [e, f] X.env)).all (fun x => !x.1) && (backToKw cpos (keywordEach [] X.env)).all (fun x => x.1.isSome)
    && decide (([e, f] : List Expr).length + ([] : List Keyword).length + (if ([] : List Keyword).isEmpty then 0 else 1) < 30)) = true
  line : (apos.endLine == cpos.line) = true
  trees : backTo cpos (starEach [e, f] X.env) = [(false, eval e X.env), (false, eval f X.env)]

def IsD (H : Hp) (a : Addr) : Prop := (∃ kvs, Rd H a (.dK kvs)) ∨ ∃ kvs, Rd H a (.dT kvs)
theorem isD_at {X : Cx} {pins : List (Addr × Obj)} {σ : St} {H : Hp} {s : Shared} {a : Addr} (I : Inv X pins σ H s) (d : IsD H a) :
    s.TypeIs (.ref a) "dict" ∧ (∀ b, Value.ref a = .ref b → ∃ ob, s.heap.get? b = some ob ∧ ob.dict = none) ∧ (a == sysModules) = false := by
  rcases d with ⟨kvs, e⟩ | ⟨kvs, e⟩
  · obtain ⟨_, hd, vs, _, dd⟩ := dk_rd I.hok e
    refine ⟨dd.typeIs, fun b q => ?_, hd⟩
    cases q
    obtain ⟨ob, _, _, h1, h2, _⟩ := dd
    exact ⟨ob, h1, h2.2.1⟩
  · obtain ⟨_, hd, xs, _, dd⟩ := dt_rd I.hok e
    refine ⟨dd.typeIs, fun b q => ?_, hd⟩
    cases q
    obtain ⟨ob, _, _, h1, h2, _⟩ := dd
    exact ⟨ob, h1, h2.2.1⟩

section
variable {X : Cx} {pins : List (Addr × Obj)} {σ : St} {H : Hp} {s : Shared} {a : Addr} {y d : V} {u r : Value} {o : Option V} {A : Around} {E : Value → Shared → Prop}
theorem d_get2 {Q : Value → Shared → Prop} (hu : A.units + 1 < cLine) (I : Inv X pins σ H s) (g : DGet H a y o) (ry : RelV y u) (rd : RelV d r) (h : ∀ w' s', Inw X pins σ H s' → RelV (o.getD d) w' → Q w' s') :
    wpAny (model X.prog X.w) A (call (.builtin "dict.get") [.ref a, u, r]) Q E s := by
  rcases g with ⟨kvs, k, e, ey, l⟩ | ⟨kvs, k, b, e, ey, eb, l⟩
  · subst ey
    obtain ⟨z, hd, vs, rel, dd⟩ := dk_rd I.hok e
    refine call_meetsIn PySem.F.slot_dict_get dd.typeIs PySem.F.entry_dict_get (PySem.F.args_dict_get_3 _ _ _) (meets_dict_get_default (mixKind X.prog X.w) a (kV_is ry) hd r) ⟨_, dd.mapOf, h _ _ (I.tok _) ?_⟩
    rw [l]
    exact (rel.val k).getD rd
  · subst ey
    cases (show u = Value.ref b from ry)
    obtain ⟨z, hd, xs, rel, dd⟩ := dt_rd I.hok e
    refine call_meetsIn PySem.F.slot_dict_get dd.typeIs PySem.F.entry_dict_get (PySem.F.args_dict_get_3 _ _ _) (meetsH_dict_get_default (tupleKind (mixKind X.prog X.w)) a b hd r) ⟨tupleKind_room_in1 hu, k, xs, key_of I.hok eb, dd, h _ _ (I.tok _) ?_⟩
    rw [l]
    exact (rel.val k).getD rd
end

def tDGet2 (td ty tx : TE) : TE := fun σ H Q => td σ H fun x H1 => ∃ a, x = .ref a ∧ IsD H1 a ∧ ty σ H1 fun y H2 => tx σ H2 fun z H3 => ∃ o, DGet H3 a y o ∧ Q (o.getD z) H3
section
variable {X : Cx} {o e f : Expr} {apos cpos : Pos} {td ty tx : TE}
theorem pe_dget2 (hu : X.A.units + 1 < cLine) (ho : PE X o td) (he : PE X e ty) (hf : PE X f tx) (m : M2 X o "get" apos e f cpos) : PE X (.Call (.Attribute o "get" apos) [e, f] [] cpos) (tDGet2 td ty tx) := by
  intro pins s σ H Q I h
  refine wpAny_Call_method m.base m.few m.line PySem.F.plainAttrs_dict PySem.F.slot_dict_get PySem.F.type_dict_get (thn (ho pins s σ H _ I h) fun u s1 ⟨x, H1, I1, rx, a, ex, d, q1⟩ => ?_)
  subst ex
  obtain rfl : u = Value.ref a := rx
  obtain ⟨t1, t2, _⟩ := isD_at I1 d
  refine ⟨t1, t2, ?_⟩
  rw [m.trees]
  refine Calls.callWith_builtin rfl (Calls.evalArgs_plain (Calls.spliced_cons (thn (he pins s1 σ H1 _ I1 q1) fun iv s2 ⟨y, H2, I2, ry, q2⟩ =>
    Calls.spliced_cons (thn (hf pins s2 σ H2 _ I2 q2) fun fv s3 ⟨z, H3, I3, rz, ov, g, q3⟩ => Calls.spliced_nil ?_))))
  exact d_get2 hu I3 g ry rz fun w' s4 I4 rw' => ⟨_, H3, I4, rw', q3⟩
end

section
variable {X : Cx} {pins : List (Addr × Obj)} {σ : St} {H : Hp} {s : Shared} {a : Addr} {kvs : List (Key × V)} {A : Around} {E : Value → Shared → Prop}
end


section
variable {X : Cx} {pins : List (Addr × Obj)} {σ : St} {H : Hp} {s : Shared} {a : Addr} {y : V} {u : Value} {A : Around} {E : Value → Shared → Prop}
end
section
variable {X : Cx}
end
section
variable {κ : Type} [DecidableEq κ]
end

end L2

namespace L2
open PySem PySem.Spec PyProof.Rows
section
variable {X : Cx} {pins : List (Addr × Obj)} {σ : St} {H : Hp} {s : Shared} {a : Addr} {A : Around} {E : Value → Shared → Prop}
theorem d_setdefault {kvs : List (Key × V)} {k : Key} {v : V} {u r : Value} {Q : Value → Shared → Prop} (I : Inv X pins σ H s) (e : H a = some (.dK kvs)) (hl : kvs.length < sizeLine) (ry : RelV (kV k) u) (rv : RelV v r)
    (h1 : ∀ x w' s', valV kvs k = some x → Inw X pins σ H s' → RelV x w' → Q w' s') (h2 : valV kvs k = none → ∀ s', Inw X pins σ (upd H a (.dK (putK kvs k v))) s' → Q r s') : wpAny (model X.prog X.w) A (call (.builtin "dict.setdefault") [.ref a, u, r]) Q E s := by
  obtain ⟨z, hd, vs, rel, dd⟩ := dk_of I.hok e
  have rl := rel.val k
  refine call_meetsIn F.slot_dict_setdefault dd.typeIs F.entry_dict_setdefault (F.args_dict_setdefault_3 _ _ _) (kt_meets_setdefault (mixKind X.prog X.w) a (kV_is ry) hd r) ⟨vs, dd, by rw [← rel.length]; exact z, fun x hx => ?_, fun hn h' dd' hs => ?_⟩
  · rw [hx] at rl
    cases hv : valV kvs k with
    | none => rw [hv] at rl; exact False.elim rl
    | some y =>
      rw [hv] at rl
      exact h1 y x _ hv (I.tok _) rl
  · rw [hn] at rl
    cases hv : valV kvs k with
    | some y => rw [hv] at rl; exact False.elim rl
    | none =>
      have hl' : (putK kvs k v).length ≤ sizeLine := by have := length_putK kvs k v; omega
      have he : ∃ q, h'.get? a = some q := let ⟨q, _, _, hq, _⟩ := dd'; ⟨q, hq⟩
      exact h2 hv _ (d_write (t' := s.toks + 1) I (by rw [e]; exact True.intro) hs he (dk_new hl' hd (rel.put k rv) dd'))
end
def tDSetd (td ty tx : TE) : TE := fun σ H Q => td σ H fun x H1 => ∃ a, x = .ref a ∧ IsD H1 a ∧ ty σ H1 fun y H2 => tx σ H2 fun z H3 => ∃ kvs k, H3 a = some (.dK kvs) ∧ y = kV k ∧ kvs.length < sizeLine ∧
  (∀ v, valV kvs k = some v → Q v H3) ∧ (valV kvs k = none → Q z (upd H3 a (.dK (putK kvs k z))))
theorem pe_dsetd {X : Cx} {o e f : Expr} {td ty tx : TE} {apos cpos : Pos} (ho : PE X o td) (he : PE X e ty) (hf : PE X f tx) (m : M2 X o "setdefault" apos e f cpos) : PE X (.Call (.Attribute o "setdefault" apos) [e, f] [] cpos) (tDSetd td ty tx) := by
  intro pins s σ H Q I h
  refine wpAny_Call_method m.base m.few m.line PySem.F.plainAttrs_dict PySem.F.slot_dict_setdefault PySem.F.type_dict_setdefault (thn (ho pins s σ H _ I h) fun u s1 ⟨x, H1, I1, rx, a, ex, d, q1⟩ => ?_)
  subst ex
  obtain rfl : u = Value.ref a := rx
  obtain ⟨t1, t2, _⟩ := isD_at I1 d
  refine ⟨t1, t2, ?_⟩
  rw [m.trees]
  refine Calls.callWith_builtin rfl (Calls.evalArgs_plain (Calls.spliced_cons (thn (he pins s1 σ H1 _ I1 q1) fun iv s2 ⟨y, H2, I2, ry, q2⟩ =>
    Calls.spliced_cons (thn (hf pins s2 σ H2 _ I2 q2) fun fv s3 ⟨z, H3, I3, rz, kvs, k, ea, ey, hl, g1, g2⟩ => Calls.spliced_nil ?_))))
  subst ey
  exact d_setdefault I3 ea hl ry rz (fun x w' s4 hv I4 rw' => ⟨x, H3, I4, rw', g1 x hv⟩) fun hv s4 I4 => ⟨z, _, I4, rz, g2 hv⟩
def Itd (d : Addr) (o : Obj) (kvs : List (Key × V)) : It := ⟨fun i H => i < kvs.length ∧ H d = some (.frz o (.dK kvs)), fun i H x H' => H' = H ∧ ∃ k v, kvs[i]? = some (k, v) ∧ x = kV k, fun i H => kvs.length ≤ i ∧ H d = some (.frz o (.dK kvs))⟩
theorem frz_at {P : Program} {w : World} {H : Hp} {h : Heap} {d : Addr} {o : Obj} {kvs : List (Key × V)} (k : HOk P w H h) (e : H d = some (.frz o (.dK kvs))) : h.get? d = some o ∧ (d == sysModules) = false ∧ ∃ vs ep es, o.data = .dict es ep ∧ KV kvs vs ∧ h.DictAt (mixKind P w) d vs ep := by
  obtain ⟨g1, _, g2, vs, rel, o', es, ep, g3, g4, g5, r⟩ := (show ObjOk P w H h d (.frz o (.dK kvs)) from k d _ e)
  rw [g1] at g3
  cases g3
  exact ⟨g1, g2, vs, ep, es, g5, rel, o, es, g1, g4, g5, r⟩
theorem kv_len {kvs : List (Key × V)} {vs : List (Key × Value)} (r : KV kvs vs) : kvs.length = vs.length := r.length
theorem key_is {P : Program} {w : World} {k : Key} {u : Value} (h : (mixKind P w).is k u = true) : RelV (kV k) u := by
  rw [mixKind_is] at h
  rcases keyIs_shape h with ⟨i, t, rfl, rfl⟩ | ⟨x, t, rfl, rfl⟩
  · exact ⟨t, rfl⟩
  · exact ⟨t, rfl⟩
theorem kv_get {kvs : List (Key × V)} {vs : List (Key × Value)} (r : KV kvs vs) {i : Nat} {k : Key} {v : Value} (h : vs[i]? = some (k, v)) : ∃ y, kvs[i]? = some (k, y) := by
  unfold KV at r
  induction r generalizing i with
  | nil => simp at h
  | cons a _ ih =>
    cases i with
    | zero =>
      simp at h
      rename_i p q _ _ _
      refine ⟨p.2, ?_⟩
      simp
      have e := a.1
      rw [h] at e
      exact Prod.ext e rfl
    | succ i => simpa using ih (by simpa using h)
theorem turn_dict {P : Program} {w : World} {K : PySem.W.Frag} {tg : Expr} (d it : Addr) (o : Obj) (kvs : List (Key × V)) {es : Array DictEntry} {ep : Nat} (hd : o.data = .dict es ep) : Turn P w K tg (Itd d o kvs) [it] it (fun i h => h.IsKeyIter it d i kvs.length ep) where
  mem := by simp
  obj := fun i h st b hb => by
    have e : b = it := by simpa using hb
    subst e
    obtain ⟨o, e, c, d⟩ := st
    exact ⟨o, e, fun v z => by rw [d] at z; cases z⟩
  keep := fun i h h' st k => st.at fun o e => k it (by simp) o e
  item := by
    intro X hP hw hK hc i pins s σ H E I hf st hg
    subst hP hw hK
    obtain ⟨hi, hfz⟩ := hg
    obtain ⟨g1, g2, vs, ep', es', e1, rel, da⟩ := frz_at I.hok hfz
    rw [hd] at e1
    cases e1
    have hl := kv_len rel
    obtain ⟨f0, f1, f2, f3, f4, f5⟩ := hf it (by simp)
    have hx : vs[i]? = some (vs[i]'(by omega)) := List.getElem?_eq_getElem _
    obtain ⟨y, hy⟩ := kv_get rel (k := (vs[i]'(by omega)).1) (v := (vs[i]'(by omega)).2) hx
    rw [hl] at st
    refine wpAny_pyNext_dict_item (k := (vs[i]'(by omega)).1) (v := (vs[i]'(by omega)).2) st da hx fun key h' hk st' sb => ?_
    have I1 : Inw X pins σ H { s with heap := h' } := I.turned (t' := s.toks) (fun b o hb e => (sb.2 b hb).trans e) f0 f1 f3 f4 f5
    obtain ⟨o2, e2, c2, d2⟩ := id st'
    rw [← hl] at st'
    exact ⟨key, rfl, go_of (s := { s with heap := h' }) e2 c2 d2 (by decide) ⟨_, H, I1, key_is hk, ⟨rfl, _, y, hy, rfl⟩, st', fun b hb => (hf b hb).1⟩⟩
  done := by
    intro X hP hw hK hc i pins s σ H E I hf st hg
    subst hP hw hK
    obtain ⟨hi, hfz⟩ := hg
    obtain ⟨g1, g2, vs, ep', es', e1, rel, da⟩ := frz_at I.hok hfz
    rw [hd] at e1
    cases e1
    have hl := kv_len rel
    rw [hl] at st
    obtain ⟨f0, f1, f2, f3, f4, f5⟩ := hf it (by simp)
    exact wpAny_pyNext_dict_end (I.ok.hd hc) st da (List.getElem?_eq_none (by omega)) fun h' eb => ⟨rfl, I.turned (t' := s.toks) (fun b o hb e => eb b o hb e) f0 f1 f3 f4 f5⟩
  self := fun _ _ _ _ _ st h => wpAny_pyIter_keyiter st h
def iDict (tl : TE) : TI := fun σ H R => tl σ H fun x H1 => ∃ d kvs, x = .ref d ∧ H1 d = some (.dK kvs) ∧ ∀ o, R (Itd d o kvs) (upd H1 d (.frz o (.dK kvs)))
theorem pi_dict {X : Cx} {tg l : Expr} {tl : TE} (hl : PE X l tl) : PI X tg l (iDict tl) := by
  intro pins s σ H R I h
  refine thn (hl pins s σ H _ I h) fun v s1 ⟨x, H1, I1, r1, q1⟩ => ?_
  obtain ⟨d, kvs, e, hd, q⟩ := q1
  subst e
  cases r1
  obtain ⟨z, hsm, vs, rel, o, es, ep, g1, g2, g3, g4⟩ := dk_of I1.hok hd
  have lt : d < s1.heap.objs.size := Heap.lt_size g1
  have da : s1.heap.DictAt (mixKind X.prog X.w) d vs ep := ⟨o, es, g1, g2, g3, g4⟩
  refine wpAny_pyIter_dict hsm da ?_
  have J : Inw X pins σ (upd H1 d (.frz o (.dK kvs))) s1 := I1.write (x := d) (e := d) (t' := s1.toks) (by rw [hd]; exact True.intro) (.inl rfl) (fun b u _ z => z) ⟨o, g1⟩ ⟨g1, z, hsm, vs, rel, o, es, ep, g1, g2, g3, g4⟩
  have hlen : vs.length = kvs.length := (kv_len rel).symm
  refine ⟨s1.heap.objs.size, [s1.heap.objs.size], _, _, _, rfl, J.kept (t' := s1.toks) fun b o e => Heap.get?_push_of_some _ e, turn_dict d _ o kvs g3, ⟨_, Heap.get?_push_size _ rfl, rfl, by rw [hlen]; rfl⟩, fun b hb => ?_, q o⟩
  have e : b = s1.heap.objs.size := by simpa using hb
  subst e
  exact J.fpOk (Nat.le_refl _) (J.hok.fresh (Nat.le_refl _))
theorem forW_dict {g : TG} {tb : TS} {D : Ends} {σ : St} {H : Hp} {d : Addr} {o : Obj} {kvs : List (Key × V)} (Pv : Nat → St → Hp → Prop) (h0 : Pv 0 σ H) (hf : ∀ i σ H, Pv i σ H → H d = some (.frz o (.dK kvs)))
    (hs : ∀ i k v σ H, kvs[i]? = some (k, v) → Pv i σ H → g (kV k) σ H fun σ2 H2 => tb { D with nx := Pv (i + 1), ct := Pv (i + 1), bk := D.nx } σ2 H2) (hd : ∀ σ H, Pv kvs.length σ H → D.nx σ H) : ForW g tb D σ (Itd d o kvs) H := by
  refine ⟨fun i m σ H => m = kvs.length - i ∧ i ≤ kvs.length ∧ Pv i σ H, ⟨kvs.length, by simp, Nat.zero_le _, h0⟩, ?_⟩
  rintro i m σ H ⟨rfl, hi, p⟩
  by_cases hlt : i < kvs.length
  · refine .inr ⟨⟨hlt, hf i σ H p⟩, Pv (i + 1), fun σ' H' p' => ⟨kvs.length - (i + 1), by omega, rfl, hlt, p'⟩, fun x H' y => ?_⟩
    obtain ⟨e, k, v, hk, y⟩ := y
    subst e y
    exact hs i k v σ _ hk p
  · have e : i = kvs.length := by omega
    subst e
    exact .inl ⟨⟨Nat.le_refl _, hf _ σ H p⟩, hd σ H p⟩

end L2

namespace L2
open PySem PySem.Spec PyProof.Rows
def SameS (H H' : Hp) : Prop := (∀ a xs, H a = some (.lst xs) → H' a = some (.lst xs)) ∧ ∀ a xs, H a = some (.tup xs) → H' a = some (.tup xs)
theorem Same.seqs {H H' : Hp} (e : Same H H') : SameS H H' := ⟨fun _ _ h => e _ _ h, fun _ _ h => e _ _ h⟩
theorem SameS.trans {H H' H'' : Hp} (e : SameS H H') (e' : SameS H' H'') : SameS H H'' := ⟨fun _ _ h => e'.1 _ _ (e.1 _ _ h), fun _ _ h => e'.2 _ _ (e.2 _ _ h)⟩
theorem SameS.upd {H : Hp} {a : Addr} {o : HO} (h : (∀ xs, H a ≠ some (.lst xs)) ∧ ∀ xs, H a ≠ some (.tup xs)) : SameS H (L2.upd H a o) :=
  ⟨fun b xs e => by rw [upd_ne (fun z : b = a => h.1 xs (z ▸ e))]; exact e, fun b xs e => by rw [upd_ne (fun z : b = a => h.2 xs (z ▸ e))]; exact e⟩
mutual
theorem DeepT.seqs {H H' : Hp} (e : SameS H H') : ∀ (d : DV) (v : V), DeepT H d v → DeepT H' d v
  | .non, v, h => by rw [DeepT] at *; exact h
  | .bl b, v, h => by rw [DeepT] at *; exact h
  | .int i, v, h => by rw [DeepT] at *; exact h
  | .str x, v, h => by rw [DeepT] at *; exact h
  | .lst ds, v, h => by rw [DeepT] at *; obtain ⟨a, xs, r, q, t⟩ := h; exact ⟨a, xs, r, e.1 _ _ q, DeepTs.seqs e ds xs t⟩
  | .tup ds, v, h => by rw [DeepT] at *; obtain ⟨a, xs, r, q, t⟩ := h; exact ⟨a, xs, r, e.2 _ _ q, DeepTs.seqs e ds xs t⟩
theorem DeepTs.seqs {H H' : Hp} (e : SameS H H') : ∀ (ds : List DV) (xs : List V), DeepTs H ds xs → DeepTs H' ds xs
  | [], xs, h => by rw [DeepTs] at *; exact h
  | d :: ds, xs, h => by rw [DeepTs] at *; obtain ⟨y, ys, r, q, t⟩ := h; exact ⟨y, ys, r, DeepT.seqs e d y q, DeepTs.seqs e ds ys t⟩
end
def strsC : List Expr → Option (List Str)
  | [] => some []
  | .Constant (.str z) _ _ :: r => match strsC r with
    | some zs => some (z :: zs)
    | none => none
  | _ => none
theorem pa_strs {X : Cx} : ∀ {es : List Expr} {zs : List Str}, strsC es = some zs → PA X es (fun _ H Q => Q (zs.map V.str) H)
  | [], zs, h => by
    cases h
    exact pa_nil
  | .Constant (.str z) k ps :: r, zs, h => by
    rw [strsC] at h
    cases e : strsC r with
    | none => rw [e] at h; cases h
    | some ys =>
      rw [e] at h
      cases h
      exact pa_cons (te := fun _ H Q => Q (.str z) H) pe_str (pa_strs e) rfl
  | .Constant (.int _) _ _ :: r, zs, h => by cases h
theorem ps_setLit {X : Cx} {i : Nat} {x : Str} {es : List Expr} {zs : List Str} {pos pos' pl : Pos} (hN : X.N.Nodup) (hi : X.N[i]? = some x) (hx : Loc X.env.scope x) (hz : strsC es = some zs)
    (hs : swapsWith (.List es pl) (some (.Name x pos')) pos.line X.env = pure false) (hf : X.fn x = true ∨ X.env.scope.names.lookup x = some .local) : PS X (.Assign [.Name x pos'] (.List es pl) pos) (tAsg (tLst (fun _ H Q => Q (zs.map V.str) H)) (gName i)) :=
  ps_set hN hi hx (@pe_lst _ _ _ _ (@pa_strs _ _ _ hz)) hs hf
theorem pss_c {X : Cx} {st : Stmt} {rest : List Stmt} {t u : TS} (h1 : PS X st t) (h2 : PSs X rest u) : PSs X (st :: rest) (tSeq t u) := pss_cons h1 h2

end L2

namespace L2
open PySem PySem.Spec PyProof.Rows
section
variable {X : Cx}
theorem strsAre_of : ∀ {zs : List Str} {us : List Value}, Vals (zs.map V.str) us → StrsAre us zs
  | [], us, r => by cases r; exact .nil
  | z :: zs, us, r => by
    cases r with
    | cons r0 rs =>
      obtain ⟨t, rfl⟩ := r0
      exact .cons _ t (strsAre_of rs)
theorem strsAre_to : ∀ {zs : List Str} {us : List Value}, StrsAre us zs → Vals (zs.map V.str) us
  | _, _, .nil => .nil
  | _, _, .cons y t h => .cons ⟨t, rfl⟩ (strsAre_to h)
def rIdxL (K : PySem.W.Frag) : V → List V → Hp → VK → Prop := fun x vs H Q => ∃ (p : Addr) (zs : List Str) (z : Str) (j : Nat), x = .ref p ∧ vs = [.str z] ∧ SqL K H p (zs.map V.str) ∧ zs[j]? = some z ∧ (∀ i y, i < j → zs[i]? = some y → y ≠ z) ∧ Q (.int j) H
theorem strs_get {zs : List Str} {us : List Value} {i : Nat} {u : Value} (r : Vals (zs.map V.str) us) (h : us[i]? = some u) : ∃ y t, zs[i]? = some y ∧ u = .str y t := by
  induction zs generalizing us i with
  | nil => cases r; simp at h
  | cons z zs ih =>
    cases r with
    | cons r0 rs =>
      obtain ⟨t, rfl⟩ := r0
      cases i with
      | zero => simp at h; subst h; exact ⟨z, t, rfl, rfl⟩
      | succ i => exact ih rs (by simpa using h)
def isS (z : Str) : Value → Bool
  | .str y _ => y == z
  | _ => false
theorem mt_indexL (K : PySem.W.Frag) (hK : X.K = K := by rfl) : MtM X "list.index" (rIdxL K) := by
  subst hK
  intro pins s σ H x vs v us Q I rx rv h
  obtain ⟨p, zs, z, j, rfl, rfl, hp, hj, hno, q⟩ := h
  cases rx
  obtain ⟨u, rfl, t, rfl⟩ := rv.one
  obtain ⟨its, r, pl, hz⟩ := I.list hp
  obtain ⟨⟨cls, dd, data, sl⟩, ho, hc, n, hd⟩ := id pl.isList
  simp only at hc hd
  subst hc hd
  have hlen : its.length = zs.length := by rw [← r.length, List.length_map]
  have hjl : j < its.toArray.size := by
    rw [List.size_toArray, hlen]
    exact (List.getElem?_eq_some_iff.mp hj).1
  have hzl : zs.length ≤ sizeLine := by rw [List.length_map] at hz; exact hz
  have szl := sizeLine_eq
  have hjs : j < zs.length := (List.getElem?_eq_some_iff.mp hj).1
  have at' : ∀ (m : Nat) (hm : m < its.toArray.size), ∃ y t', zs[m]? = some y ∧ its.toArray[m] = .str y t' := fun m hm => by
    obtain ⟨y, t', e1, e2⟩ := strs_get (i := m) (u := its.toArray[m]) r (by simp)
    exact ⟨y, t', e1, e2⟩
  refine call_meets F.slot_list_index ⟨_, ho, rfl⟩ F.entry_list_index (F.args_list_index_2 _ _)
    (SeqAt.list_indexAt p its.toArray n dd sl (.str z t) (isS z) j hjl (by omega) ?_ ?_) ⟨ho, fun y hy => ?_, ⟨.int j, H, I.tok _, ⟨_, rfl⟩, q⟩⟩
  · obtain ⟨y, t', e1, e2⟩ := at' j hjl
    rw [e2]
    rw [hj] at e1
    cases e1
    show (z == z) = true
    simp
  · intro m hm hlt
    obtain ⟨y, t', e1, e2⟩ := at' m hm
    rw [e2]
    show (y == z) = false
    simpa using hno m y hlt e1
  · obtain ⟨m, hm, rfl⟩ := Array.mem_iff_getElem.mp hy
    obtain ⟨y, t', e1, e2⟩ := at' m hm
    rw [e2]
    exact SeqAt.EqAt.str_str y t' z t
section
variable {g : TG} {ti : TT} {te : TE} {Q : VK} {σ : St} {H : Hp} {pick : List (Option Nat)} {K : PySem.W.Frag} {a : Addr}
theorem compW_enum (xs : List V) (Pv : Nat → List V → St → Hp → Prop) (h0 : Pv 0 [] (pickS pick σ) H) (hl : ∀ i ys σ H, i ≤ xs.length → Pv i ys σ H → SqL K H a xs ∧ ys.length ≤ sizeLine)
    (hs : ∀ (i : Nat) y T ys σ H, xs[i]? = some y → Pv i ys σ H → H T = none → g (.ref T) σ (upd H T (.tup [.int i, y])) fun σ3 H3 => ti σ3 H3 fun b H4 => if b = true then te σ3 H4 fun v H5 => Pv (i + 1) (ys ++ [v]) σ3 H5 else Pv (i + 1) ys σ3 H4)
    (hd : ∀ ys σ H, Pv xs.length ys σ H → ∀ p, H p = none → Q (.ref p) (upd H p (.lst ys))) : CompW pick g ti te Q σ (Ite K a) H := by
  refine ⟨fun i m ys σ H => m = xs.length - i ∧ i ≤ xs.length ∧ Pv i ys σ H, ⟨xs.length, by simp, Nat.zero_le _, h0⟩, ?_⟩
  rintro i m ys σ H ⟨rfl, hi, p⟩
  obtain ⟨q, q2⟩ := hl i ys σ H hi p
  refine ⟨q2, ?_⟩
  by_cases hlt : i < xs.length
  · refine .inr ⟨⟨xs, xs[i], q, by simp [hlt]⟩, Pv (i + 1), fun zs σ' H' p' => ⟨xs.length - (i + 1), by omega, rfl, hlt, p'⟩, fun x H' y => ?_⟩
    obtain ⟨T, y, hT, e1, e2, e3⟩ := y
    subst e1 e2
    exact hs i y T ys σ H (e3 xs q) p hT
  · have e : i = xs.length := by omega
    subst e
    exact .inl ⟨⟨xs, q, Nat.le_refl _⟩, hd ys σ H p⟩
end
end

end L2

namespace L2
open PySem PySem.Spec PyProof.Rows
section
variable {X : Cx} {tg : Expr}
def rsz (a j c : Int) : Int := if a < j then (j - a - 1) / c + 1 else 0
theorem rsz_is {a j c : Int} (h : 1 ≤ c) : Builtin.Range.rangeSize a j c = rsz a j c := by
  unfold Builtin.Range.rangeSize rsz
  rw [if_pos (by omega)]
theorem rsz_pos {a j c : Int} (h : 1 ≤ c) : 0 ≤ rsz a j c := by
  unfold rsz
  split
  · have := Int.ediv_nonneg (a := j - a - 1) (b := c) (by omega) (by omega)
    omega
  · omega
theorem rsz_le {a j c : Int} (h : 1 ≤ c) (h0 : -1000 ≤ a) (h1 : j ≤ 1000) : rsz a j c ≤ 2001 := by
  unfold rsz
  split
  · have := Int.ediv_le_self (a := j - a - 1) c (by omega)
    omega
  · omega
def iRngG (ta : TA) : TI := fun σ H R => ta σ H fun vs H1 => ∃ a j c : Int, vs = [.int a, .int j, .int c] ∧ (-1000 ≤ a ∧ a ≤ 1000 ∧ -1000 ≤ j ∧ j ≤ 1000 ∧ 1 ≤ c ∧ c ≤ 1000) ∧ R (ItrS a c (rsz a j c).toNat) H1
theorem small_G {a j c : Int} (h : -1000 ≤ a ∧ a ≤ 1000 ∧ -1000 ≤ j ∧ j ≤ 1000 ∧ 1 ≤ c ∧ c ≤ 1000) : Builtin.Range.small a j c = true := by
  obtain ⟨h1, h2, h3, h4, h5, h6⟩ := h
  have e := rsz_is (a := a) (j := j) h5
  have p := rsz_pos (a := a) (j := j) h5
  have l := rsz_le h5 h1 h4
  unfold Builtin.Range.small
  rw [e]
  generalize rsz a j c = d at *
  simp only [Builtin.Range.rangeFitsLong, Bool.and_eq_true, Bool.or_eq_true, decide_eq_true_eq, beq_iff_eq, show c > 0 by omega, if_true]
  omega
theorem pi_rangeG {a b c : Expr} {ta : TA} {p pos : Pos} (hg : Gl X "range") (hm : X.mg "range" = none) (ha : PA X [a, b, c] ta) (hs : starEach [a, b, c] X.env = [(false, eval a X.env), (false, eval b X.env), (false, eval c X.env)] := by rfl)
    (hs2 : starEach [b, c] X.env = [(false, eval b X.env), (false, eval c X.env)] := by rfl) : PI X tg (.Call (.Name "range" p) [a, b, c] [] pos) (iRngG ta) := by
  intro pins s σ H R I h
  refine Call_ (ld_blt I hg hm boot_range (PyProof.Rows.callWith_type1 (thn (ha pos pins s σ H _ I h) fun us s1 ⟨vs, H1, I1, r1, q1⟩ => ?_) (by rw [hs, hs2]) (by rw [hs2]; rfl)))
  obtain ⟨lo, j, c', e, hq, q⟩ := q1
  have q3 := hq.2.2.2.2.1
  have q4 := hq.2.2.2.2.2
  subst e
  cases r1 with
  | cons r rr =>
    cases rr with
    | cons r' rr =>
      cases rr with
      | cons r'' rr =>
        cases rr
        obtain ⟨t, rfl⟩ := r
        obtain ⟨t', rfl⟩ := r'
        obtain ⟨t'', rfl⟩ := r''
        refine call_range_3 (by omega) ?_ (Or.inl (PyProof.noPylong_small (by omega)))
        refine wpAny_pyIter_range (IsRange.new ..) (small_G hq) ?_
        have I2 : Inw X pins σ H1 { s1 with heap := s1.heap.push { cls := .type "range", data := .fields #[.int lo t, .int j t', .int c' t''] }, toks := s1.toks } := I1.kept fun b o e => Heap.get?_push_of_some _ e
        have hz := rsz_pos (a := lo) (j := j) q3
        refine ⟨_, [_], _, _, H1, rfl, I2.kept (t' := s1.toks) fun b o e => Heap.get?_push_of_some _ e, turn_rangeS _ lo c' (rsz lo j c').toNat, ?_, fun b hb => ?_, q⟩
        · show IsRangeIter _ _ (lo + ((0 : Nat) : Int) * c') (((rsz lo j c').toNat : Int) - ((0 : Nat) : Int)) c'
          have e1 : lo + ((0 : Nat) : Int) * c' = lo := by simp
          have e2 : (((rsz lo j c').toNat : Int) - ((0 : Nat) : Int)) = Builtin.Range.rangeSize lo j c' := by rw [rsz_is q3]; omega
          rw [e1, e2]
          exact Heap.get?_push_size _ rfl
        · have e := List.mem_singleton.mp hb
          subst e
          exact I2.fpOk (Nat.le_refl _) (I2.hok.fresh (Nat.le_refl _))
end

end L2

namespace L2
open PySem PySem.Spec PyProof.Rows
def cst (o : Obj) : HO := .frz o (.ext fun _ => True)
theorem of_cst {P : Program} {w : World} {H : Hp} {h : Heap} {a : Addr} {o : Obj} (x : HOk P w H h) (e : H a = some (cst o)) : h.get? a = some o := (x a _ e).1
def Bmod (base : Heap) (mg : Str → Option Value) : Prop :=
  ∃ (bm : Addr) (ob : Obj), mg "__builtins__" = some (.ref bm) ∧ bm ≠ builtinsNs ∧ bm ≠ mainGlobals ∧ base.get? bm = some ob ∧ ob.cls = .type "module" ∧ ob.dict = some builtinsNs ∧ ob.data = .plain
theorem Bmod.keeps {h h' : Heap} {mg : Str → Option Value} (x : Bmod h mg) (k : ∀ b o, h.get? b = some o → h'.get? b = some o) : Bmod h' mg :=
  let ⟨bm, ob, a, b, c, e, r⟩ := x; ⟨bm, ob, a, b, c, k _ _ e, r⟩
section
variable {X : Cx}
end

structure LamScope (x y : Str) (sc : Scope) : Prop where
  kind : sc.kind = .function
  co : sc.isCoroutine = false
  gen : sc.isGenerator = false
  ne : y ≠ x
  par : sc.names.lookup y = some .local
  fre : sc.names.lookup x = some .free
  nocell : ∀ z ∈ sc.names, z.2 ≠ .cell
  only : ∀ z, sc.names.lookup z = some .free → z = x
theorem lk1 {x z : Str} {c d : Addr} (h : ([(x, c)] : List (Str × Addr)).lookup z = some d) : z = x ∧ d = c := by
  rw [List.lookup_cons] at h
  by_cases q : (z == x) = true
  · rw [q] at h; exact ⟨beq_iff_eq.mp q, (Option.some.inj h).symm⟩
  · rw [Bool.eq_false_iff.mpr q] at h; cases h

section
variable {X : Cx} {CX : CXT} {k : Nat} {f : Addr} {fd : FuncData} {ps : List Str} {sp : Sp} {dvs : List V} {ds : List Value} {E : XK}
end

section
variable {X : Cx} {CX : CXT} {k : Nat} {f : Addr} {fd : FuncData} {ps : List Str} {E : XK}
end

end L2

namespace L2
open PySem PySem.Spec PyProof.Rows
def IsFn (K : PySem.W.Frag) (H : Hp) (f : Addr) : Prop := PySem.W.fnIn K f = true ∨ ∃ (oc : Value) (od : Option Addr) (fd : FuncData) (sl : Array (Option Value)), H f = some (cst ⟨oc, od, .func fd, sl⟩)
section
variable {X : Cx}
theorem IsFn.at_ {K : PySem.W.Frag} {pins : List (Addr × Obj)} {σ : St} {H : Hp} {s : Shared} {f : Addr} (I : Inv X pins σ H s) (hK : X.K = K) (h : IsFn K H f) : PySem.W.FnAt f s.heap := by
  subst hK
  rcases h with h | ⟨oc, od, fd, sl, e⟩
  · unfold PySem.W.fnIn at h
    split at h
    · rename_i oc od fd sl e
      exact ⟨oc, od, fd, sl, I.kIn _ _ e⟩
    · cases h
  · exact ⟨oc, od, fd, sl, of_cst I.hok e⟩
end


end L2

namespace L2
open PySem PySem.Spec PyProof.Rows
structure KD (P : Program) (w : World) (K : PySem.W.Frag) (d : Addr) (kvs : List (Key × V)) : Prop where
  ex : ∃ (o : Obj) (es : Array DictEntry) (ep : Nat) (vs : List (Key × Value)), K.lookup d = some o ∧ o.ExactDict ∧ o.data = .dict es ep ∧ PySem.KeysOf (mixKind P w) es ∧ PySem.Pairs (mixKind P w) es.toList vs ∧ (vs.map (·.1)).Nodup ∧ KV kvs vs
  sm : (d == sysModules) = false
section
variable {X : Cx} {d : Addr} {kvs : List (Key × V)}
theorem KD.at_ {pins : List (Addr × Obj)} {σ : St} {H : Hp} {s : Shared} (D : KD X.prog X.w X.K d kvs) (I : Inv X pins σ H s) : ∃ vs ep, KV kvs vs ∧ s.heap.DictAt (mixKind X.prog X.w) d vs ep ∧ s.heap.DictOf (mixKind X.prog X.w) d vs := by
  obtain ⟨o, es, ep, vs, h1, h2, h3, h4, h5, h6, h7⟩ := D.ex
  exact ⟨vs, ep, h7, ⟨o, es, I.kIn _ _ h1, h2, h3, h4, h5, h6⟩, ⟨o, es, ep, I.kIn _ _ h1, h2, h3, h4, h5, h6⟩⟩
end

end L2

namespace L2
open PySem PySem.Spec PyProof.Rows
section
variable {X : Cx}
end

end L2

namespace L2
open PySem PySem.Spec PyProof.Rows
section
variable {X : Cx}
theorem call_intB : CallR X (.type "int") (fun xs H Q => ∃ b : Bool, xs = [.bl b] ∧ Q (.int (if b then 1 else 0)) H) := by
  intro pins s σ H xs us Q I r h
  obtain ⟨b, rfl, q⟩ := h
  obtain ⟨u, rfl, ru⟩ := vals1 r
  cases ru
  exact call_int_bool ⟨.int _, H, I.tok _, ⟨_, rfl⟩, q⟩
end
section
variable {H : Hp}
end

end L2

namespace L2
open PySem PySem.Spec PyProof.Rows
section
variable {X : Cx}
end

end L2

namespace L2
open PySem PySem.Spec PyProof.Rows
section
variable {prog : Program} {w : World} {A : Around} {E : Value → Shared → Prop} {s : Shared}
theorem nt_item {j b : Addr} {n : Nat} {vs : Array Value} {x : Value} {Q : Value → Shared → Prop} (g : s.heap.IsTupleIter j b n) (gt : s.heap.IsTuple b vs) (gx : vs[n]? = some x)
    (q : ∀ h2, h2.IsTupleIter j b (n + 1) → Heap.SameBut j s.heap h2 → Q x { s with heap := h2 }) : wpAny (model prog w) A (Builtin.SmallTypes.nextOf (.ref j)) Q E s := by
  obtain ⟨o1, g1, gc, gd⟩ := id g
  obtain ⟨o2, g2, _, m, gm⟩ := gt
  unfold Builtin.SmallTypes.nextOf
  refine wpAny_bind (wpAny_callSpecial?_slot (name := Str.ofString "__next__") g.typeIs F.slot_tuple_iterator_next (wpAny_call_entry F.slot_tuple_iterator_next g.typeIs F.entry_tuple_iterator_next ?_ (F.args_tuple_iterator_next_1 _)))
  show wpAny _ _ (field (.ref j) 0 >>= _) _ _ s
  refine wpAny_bind (wpAny_field g1 gd (x := .ref b) rfl ?_)
  show wpAny _ _ (if (Value.ref b == Value.none) = true then _ else _) _ _ s
  rw [if_neg (show ¬ ((Value.ref b == Value.none) = true) from Bool.false_ne_true)]
  show wpAny _ _ (field (.ref j) 1 >>= _) _ _ s
  refine wpAny_bind (wpAny_field g1 gd (x := .int n 0) rfl ?_)
  show wpAny _ _ (seqItems? (.ref b) >>= _) _ _ s
  refine wpAny_bind (wpAny_seqItems g2 gm ?_)
  simp only [Int.toNat_natCast, gx]
  refine wpAny_bind (wpAny_setField g1 gd (by simp) (wpAny_pure ⟨x, rfl, wpAny_pure (q _ ?_ (Heap.SameBut.update ..))⟩))
  exact ⟨_, Heap.get?_update_self _ g1 (Obj.isFreed_of_fields (Obj.data_mapFields gd _)), (Obj.cls_mapFields ..).trans gc, by rw [Obj.data_mapFields gd]; simp [rawInt]⟩
theorem nt_end {j b : Addr} {n : Nat} {vs : Array Value} {Q : Value → Shared → Prop} (ha : A.handled = none) (g : s.heap.IsTupleIter j b n) (gt : s.heap.IsTuple b vs) (gx : vs[n]? = none)
    (q : ∀ h2 e, Heap.ExtBut j s.heap h2 → (∃ o, h2.get? e = some o ∧ o.cls = .type "StopIteration") → E (.ref e) { s with heap := h2 }) : wpAny (model prog w) A (Builtin.SmallTypes.nextOf (.ref j)) Q E s := by
  obtain ⟨o1, g1, gc, gd⟩ := id g
  obtain ⟨o2, g2, _, m, gm⟩ := gt
  unfold Builtin.SmallTypes.nextOf
  refine wpAny_bind (wpAny_callSpecial?_slot (name := Str.ofString "__next__") g.typeIs F.slot_tuple_iterator_next (wpAny_call_entry F.slot_tuple_iterator_next g.typeIs F.entry_tuple_iterator_next ?_ (F.args_tuple_iterator_next_1 _)))
  show wpAny _ _ (field (.ref j) 0 >>= _) _ _ s
  refine wpAny_bind (wpAny_field g1 gd (x := .ref b) rfl ?_)
  show wpAny _ _ (if (Value.ref b == Value.none) = true then _ else _) _ _ s
  rw [if_neg (show ¬ ((Value.ref b == Value.none) = true) from Bool.false_ne_true)]
  show wpAny _ _ (field (.ref j) 1 >>= _) _ _ s
  refine wpAny_bind (wpAny_field g1 gd (x := .int n 0) rfl ?_)
  show wpAny _ _ (seqItems? (.ref b) >>= _) _ _ s
  refine wpAny_bind (wpAny_seqItems g2 gm ?_)
  simp only [Int.toNat_natCast, gx]
  refine wpAny_bind (wpAny_rule (wpAny_bind (wpAny_setField g1 gd (by simp) ?_)))
  refine wpAny_bind (m := newExc (.type "StopIteration") []) ?_
  simp only [newExc, newTuple]
  refine wpAny_bind (wpAny_newObj_type (wpAny_bind (m := firstArgMember _ _) (wpAny_of_eq (a := Value.none) (by first | rfl | (simp only [firstArgMember]; rfl)) (wpAny_newObj_type ?_ (by size_fits)))) (by size_fits))
  simp only [raiseNew]
  refine wpAny_bind (wpAny_handled ?_)
  first | rw [show A.in1.handled = none from ha] | rw [ha]
  exact wpAny_bind (wpAny_pure (wpAny_throw (q _ _ (((Heap.SameBut.update ..).extBut.push _).push _) ⟨_, Heap.get?_push_size _ rfl, rfl⟩)))
end
def SqIt (tp : Bool) (i l : Addr) (xs : Array Value) (k : Nat) (h : Heap) : Prop := if tp = true then h.IsTupleIter i l k ∧ h.IsTuple l xs else h.IsListIter i l k ∧ h.IsList l xs
theorem SqIt.keep {tp : Bool} {i l : Addr} {xs : Array Value} {k : Nat} {h h' : Heap} (q : SqIt tp i l xs k h) (k1 : ∀ o, h.get? i = some o → h'.get? i = some o) (k2 : ∀ o, h.get? l = some o → h'.get? l = some o) : SqIt tp i l xs k h' := by
  cases tp with
  | true => exact ⟨q.1.at k1, q.2.at k2⟩
  | false => exact ⟨q.1.at k1, q.2.at k2⟩
theorem SqIt.it {tp : Bool} {i l : Addr} {xs : Array Value} {k : Nat} {h : Heap} (q : SqIt tp i l xs k h) : ∃ o, h.get? i = some o ∧ ∀ v, o.data ≠ .cell v := by
  cases tp with
  | true => obtain ⟨⟨o, e, _, d⟩, _⟩ := q; exact ⟨o, e, fun v z => by rw [d] at z; cases z⟩
  | false => obtain ⟨⟨o, e, _, d⟩, _⟩ := q; exact ⟨o, e, fun v z => by rw [d] at z; cases z⟩
section
variable {prog : Program} {w : World} {A : Around} {E : Value → Shared → Prop} {s : Shared}
theorem SqIt.item {tp : Bool} {i l : Addr} {xs : Array Value} {k : Nat} {x : Value} {Q : Value → Shared → Prop} (g : SqIt tp i l xs k s.heap) (ne : l ≠ i) (gx : xs[k]? = some x)
    (q : ∀ h2, SqIt tp i l xs (k + 1) h2 → Heap.SameBut i s.heap h2 → Q x { s with heap := h2 }) : wpAny (model prog w) A (Builtin.SmallTypes.nextOf (.ref i)) Q E s := by
  cases tp with
  | true => exact nt_item g.1 g.2 gx fun h2 a b => q h2 ⟨a, g.2.at fun o e => b.extBut _ o ne e⟩ b
  | false => exact wpAny_nextOf_list_item g.1 g.2 gx fun h2 a b => q h2 ⟨a, g.2.at fun o e => b.extBut _ o ne e⟩ b
theorem SqIt.done {tp : Bool} {i l : Addr} {xs : Array Value} {k : Nat} {Q : Value → Shared → Prop} (ha : A.handled = none) (g : SqIt tp i l xs k s.heap) (gx : xs[k]? = none)
    (q : ∀ h2 e, Heap.ExtBut i s.heap h2 → (∃ o, h2.get? e = some o ∧ o.cls = .type "StopIteration") → E (.ref e) { s with heap := h2 }) : wpAny (model prog w) A (Builtin.SmallTypes.nextOf (.ref i)) Q E s := by
  cases tp with
  | true => exact nt_end ha g.1 g.2 gx q
  | false => exact wpAny_nextOf_list_end ha g.1 g.2 gx q
structure ZA (z a b i1 i2 l1 l2 : Addr) : Prop where
  az : a ≠ z
  bz : b ≠ z
  iz : i1 ≠ z
  jz : i2 ≠ z
  ab : a ≠ b
  ai : a ≠ i1
  aj : a ≠ i2
  bi : b ≠ i1
  bj : b ≠ i2
  ij : i1 ≠ i2
  lz : l1 ≠ z
  lb : l1 ≠ b
  li : l1 ≠ i1
  lj : l1 ≠ i2
  mz : l2 ≠ z
  mb : l2 ≠ b
  mi : l2 ≠ i1
  mj : l2 ≠ i2
end

end L2

namespace L2
open PySem PySem.Spec PyProof.Rows
section
variable {prog : Program} {w : World} {A : Around} {E : Value → Shared → Prop} {s : Shared}
end

end L2

namespace L2
open PySem PySem.Spec PyProof.Rows
def ItAt (tp : Bool) (i l : Addr) (k : Nat) (h : Heap) : Prop := if tp = true then h.IsTupleIter i l k else h.IsListIter i l k
theorem ItAt.keep {tp : Bool} {i l : Addr} {k : Nat} {h h' : Heap} (q : ItAt tp i l k h) (k1 : ∀ o, h.get? i = some o → h'.get? i = some o) : ItAt tp i l k h' := by
  cases tp with
  | true => exact Heap.IsTupleIter.at q k1
  | false => exact Heap.IsListIter.at q k1
theorem ItAt.obj {tp : Bool} {i l : Addr} {k : Nat} {h : Heap} (q : ItAt tp i l k h) : ∃ o, h.get? i = some o ∧ ∀ v, o.data ≠ .cell v := by
  cases tp with
  | true => obtain ⟨o, e, _, d⟩ := q; exact ⟨o, e, fun v z => by rw [d] at z; cases z⟩
  | false => obtain ⟨o, e, _, d⟩ := q; exact ⟨o, e, fun v z => by rw [d] at z; cases z⟩
section
variable {X : Cx} {es : List Expr} {k : Nat} {tp : Pos}
end

end L2

namespace L2
open PySem PySem.Spec PyProof.Rows
section
variable {prog : Program} {w : World} {A : Around} {E : Value → Shared → Prop} {s : Shared} {T : String} {r d : Addr} {n : Nat} {P : Nat → Value → Prop} {OK : Heap → Prop}
theorem collect_kdl {Q : List Value → Shared → Prop} (K : PySem.W.KdlSrc prog w T r d n P OK) (hh : A.handled = none) (hok : OK s.heap) (hn : n ≤ sizeLine)
    (q : ∀ h' tk acc, s.heap.objs.size < h'.objs.size → (∀ b o, s.heap.get? b = some o → h'.get? b = some o) → ItemsOf P acc n → Q acc.toList { s with heap := h', toks := tk }) : wpAny (model prog w) A (collect (.ref r)) Q E s := by
  obtain ⟨t1, t2⟩ := K.there s.heap hok
  unfold collect
  refine wpAny_bind (wpAny_runValue (codeAny_builtin PySem.F.entry_proto_collect ?_))
  rw [Around.under_plainId PySem.F.plain_proto_collect _]
  refine wpAny_bind (m := newList []) (wpAny_newObj_type (wpAny_pure ⟨plainId_quiet PySem.F.plain_list_iadd _, codeAny_builtin PySem.F.entry_list_iadd ?_⟩))
  rw [Around.under_plainId PySem.F.plain_list_iadd _]
  have g0 : (s.heap.push { cls := .type "list", data := .seq ([] : List Value).toArray }).get? s.heap.objs.size = some { cls := .type "list", data := .seq #[] } := Heap.get?_push_size _ rfl
  show wpAny _ A.in1 (Builtin.List.listExtendWith (.ref s.heap.objs.size) (.ref r) (.ref s.heap.objs.size)) _ _ _
  refine wpAny_mono (PySem.W.kdl_extend (s := { s with heap := s.heap.push { cls := .type "list", data := .seq ([] : List Value).toArray } }) (R := fun p s' => ∃ (h' : Heap) (tk : Nat) (acc : Array Value) (c : Nat), p = .ok (.ret (.ref s.heap.objs.size)) ∧ s' = { s with heap := h', toks := tk } ∧
      (∀ b o, s.heap.get? b = some o → h'.get? b = some o) ∧ h'.get? s.heap.objs.size = some { cls := .type "list", dict := none, data := .seq acc c, slots := #[] } ∧ ItemsOf P acc n) K (by first | exact hh | simpa using hh) (K.keep _ _ hok fun b _ o e => Heap.get?_push_of_some _ e) s.heap.objs.size (Nat.ne_of_gt t1) (Nat.ne_of_gt t2) (.ref s.heap.objs.size) 0 g0
      (fun h' tk acc c hk hS hacc => ⟨h', tk, acc, c, rfl, rfl, fun b o e => hk b o (Nat.ne_of_lt (Heap.lt_size e)) (Heap.get?_push_of_some _ e), hS, hacc⟩) hn) (fun fin s' x => ?_) fun e s' x => ?_
  · have fin1 : ∀ (p : Result) (s2 : Shared), (∃ (h' : Heap) (tk : Nat) (acc : Array Value) (c : Nat), p = .ok (.ret (.ref s.heap.objs.size)) ∧ s2 = { s with heap := h', toks := tk } ∧ (∀ b o, s.heap.get? b = some o → h'.get? b = some o) ∧ h'.get? s.heap.objs.size = some { cls := .type "list", dict := none, data := .seq acc c, slots := #[] } ∧ ItemsOf P acc n) →
        wpAny (model prog w) A (load s.heap.objs.size >>= fun o => match o.data with | .seq xs _ => pure xs.toList | _ => unsupported "internal:collect") Q E s2 := by
      rintro p s2 ⟨h', tk, acc, c, _, rfl, hk, hS, hacc⟩
      exact wpAny_bind (wpAny_load hS (wpAny_pure (q h' tk acc (Heap.lt_size hS) hk hacc)))
    cases fin with
    | done f =>
      have x0 := x
      obtain ⟨h', tk, acc, c, e, _⟩ := x
      cases e
      exact fin1 _ _ x0
    | again c1 =>
      refine ⟨x.1, codeAny_mono x.2 fun p s2 y => ?_⟩
      have y0 := y
      obtain ⟨h', tk, acc, c, rfl, _⟩ := y
      exact fin1 _ _ y0
  · obtain ⟨_, _, _, _, e', _⟩ := x
    cases e'
end
section
variable {X : Cx}
theorem kv_keys {kvs : List (Key × V)} {vs : List (Key × Value)} (r : KV kvs vs) : vs.map (·.1) = kvs.map (·.1) := by
  apply List.ext_getElem?
  intro i
  rw [List.getElem?_map, List.getElem?_map]
  cases hi : vs[i]? with
  | none =>
    have := List.getElem?_eq_none_iff.mp hi
    rw [← kv_len r] at this
    rw [List.getElem?_eq_none this]; rfl
  | some p =>
    obtain ⟨y, hy⟩ := kv_get r (i := i) (k := p.1) (v := p.2) hi
    rw [hy]; rfl
end

end L2

namespace L2
open PySem PySem.Spec PyProof.Rows
section
variable {X : Cx}
end

end L2

namespace L2
open PySem PySem.Spec PyProof.Rows
section
variable {X : Cx}
end
section
variable {g : TG} {ti : TT} {te : TE} {Q : VK} {σ : St} {H : Hp} {pick : List (Option Nat)} {tb : TS} {D : Ends} {K : PySem.W.Frag} {a : Addr}
end

end L2

namespace L2
open PySem PySem.Spec PyProof.Rows
section
variable {prog : Program} {w : World} {A : Around} {E : Value → Shared → Prop} {s : Shared}
end

end L2

namespace L2
open PySem PySem.Spec PyProof.Rows
section
variable {P : Program} {w : World} {K : PySem.W.Frag} {mg : Str → Option Value} {base : Heap} {N : List Str} {qual : Str} {scope : Scope} {f0 : Addr} {cd : Value} {A : Around} {outer : List Env} {s0 : Shared} {H0 : Hp} {E : XK}
end

end L2

namespace L2
open PySem PySem.Spec PyProof.Rows
section
variable {X : Cx}
end

end L2

namespace L2
open PySem PySem.Spec PyProof.Rows

end L2

namespace TS
section
open PySem PyProof.Rows
open Lean in
local macro_rules
  | `(nomatch $n:num) => return mkIdent (((((`_private.PySem.Builtin.List.W1All).num 0).str "PySem").str "Builtin").str (["gallop", "mergeLo", "mergeHi", "setMinGallop"].getD n.getNat ""))
abbrev SM := StateT SortSt Sem
def gal : Bool → Keyed → Array Keyed → Nat → Nat → Nat → SM (Option Nat) := nomatch 0
def mlo : Array Keyed → Array Keyed → SM (Array Keyed) := nomatch 1
def mhi : Array Keyed → Array Keyed → SM (Array Keyed) := nomatch 2
def smg : Nat → SM Unit := nomatch 3


end
end TS

namespace TS
section
open PySem PyProof.Rows
variable {κ : KeyKind} {prog : Program} {w : World} {A : Around} {E : Value → Shared → Prop} {s : Shared}
def ky (κ : KeyKind) (p : Keyed) : κ.α := (κ.keyOf p.1).getD κ.dflt
def Has (κ : KeyKind) (p : Keyed) : Prop := ∃ a, κ.keyOf p.1 = some a
theorem wp_elem {arr : Array Keyed} {i : Nat} {p : Keyed} {Q : Keyed → SortSt → Prop} {st : SortSt} (h : arr[i]? = some p) (q : Q p st) : wpS (model prog w) A E s (elem' arr i) Q st := by
  rw [elem'_eq, h]
  exact wpS_pure q
theorem wp_lt (ho : κ.OneLt) {st : SortSt} {x y : Keyed} {Q : Option Bool → SortSt → Prop} (hk : kindOf st = oneType') (hx : Has κ x) (hy : Has κ y) (q : Q (some (κ.blt (ky κ x) (ky κ y))) st) : wpS (model prog w) A E s (lt' x y) Q st := by
  obtain ⟨a, ha⟩ := hx
  obtain ⟨b, hb⟩ := hy
  rw [lt'_eq]
  refine wpS_bind (wpS_get ?_)
  rw [hk]
  refine wpS_bind (wpS_lift (wpAny_attempt ?_))
  have e : ky κ x = a ∧ ky κ y = b := ⟨by unfold ky; rw [ha]; rfl, by unfold ky; rw [hb]; rfl⟩
  rw [e.1, e.2] at q
  exact ho prog w A _ s x.1 y.1 a b ha hb ⟨rfl, wpS_pure q⟩
theorem wp_ite {α : Type} {c : Prop} [Decidable c] {m1 m2 : SM α} {Q : α → SortSt → Prop} {st : SortSt} (h1 : c → wpS (model prog w) A E s m1 Q st) (h2 : ¬ c → wpS (model prog w) A E s m2 Q st) : wpS (model prog w) A E s (if c then m1 else m2) Q st := by
  by_cases h : c
  · rw [if_pos h]; exact h1 h
  · rw [if_neg h]; exact h2 h
def bey (κ : KeyKind) (left : Bool) (key : Keyed) (arr : Array Keyed) (base i : Nat) : Bool := if left then κ.blt (KK κ arr (base + i)) (ky κ key) else !κ.blt (ky κ key) (KK κ arr (base + i))
theorem KK_at {arr : Array Keyed} {i : Nat} {p : Keyed} (h : arr[i]? = some p) : KK κ arr i = ky κ p := by
  unfold KK ky
  rw [h]
theorem wp_seq {α β : Type} {m : SM α} {f : α → SM β} {Q1 : α → SortSt → Prop} {Q : β → SortSt → Prop} {st : SortSt} (h1 : wpS (model prog w) A E s m Q1 st) (h2 : ∀ a st', Q1 a st' → wpS (model prog w) A E s (f a) Q st') : wpS (model prog w) A E s (m >>= f) Q st := wpS_bind (wpS_mono h1 h2)
abbrev GS := Option (Option Nat) × Nat × Nat
def inv1 (b : Nat → Bool) (n hint : Nat) (st : SortSt) (i : Nat) (c : GS) (st' : SortSt) : Prop := st = st' ∧ c.1 = none ∧ c.2.1 < c.2.2 ∧ i + 1 ≤ c.2.2 ∧ hint + c.2.1 < n ∧ b (hint + c.2.1) = true
def inv2 (b : Nat → Bool) (n hint : Nat) (st : SortSt) (i : Nat) (c : GS) (st' : SortSt) : Prop := st = st' ∧ c.1 = none ∧ c.2.1 < c.2.2 ∧ i + 1 ≤ c.2.2 ∧ c.2.1 ≤ hint ∧ b (hint - c.2.1) = false
def inv3 (b : Nat → Bool) (n : Nat) (st : SortSt) (i : Nat) (c : GS) (st' : SortSt) : Prop := st = st' ∧ c.1 = none ∧ c.2.1 ≤ c.2.2 ∧ c.2.2 ≤ n ∧ (c.2.1 = 0 ∨ b (c.2.1 - 1) = true) ∧ (c.2.2 = n ∨ b c.2.2 = false) ∧ c.2.2 - c.2.1 ≤ n - i
theorem wp_gal (ho : κ.OneLt) {st : SortSt} {left : Bool} {key : Keyed} {arr : Array Keyed} {base n hint : Nat} {Q : Option Nat → SortSt → Prop} (hk : kindOf st = oneType') (hH : ∀ p ∈ arr.toList, Has κ p) (hkey : Has κ key) (hb : base + n ≤ arr.size) (hh : hint < n)
    (mono : ∀ i j, i ≤ j → j < n → bey κ left key arr base j = true → bey κ left key arr base i = true)
    (q : ∀ k, k ≤ n → (∀ i, i < k → bey κ left key arr base i = true) → (∀ i, k ≤ i → i < n → bey κ left key arr base i = false) → Q (some k) st) : wpS (model prog w) A E s (gal left key arr base n hint) Q st := by
  have beyW : ∀ (i : Nat) (Q' : Option Bool → SortSt → Prop), i < n → Q' (some (bey κ left key arr base i)) st → wpS (model prog w) A E s (elem' arr (base + i) >>= fun x => if left = true then lt' x key else lt' key x >>= fun l => pure (Option.map (fun x => !x) l)) Q' st := fun i Q' hi q' => by
    obtain ⟨p, hp⟩ : ∃ p, arr[base + i]? = some p := ⟨arr[base + i], Array.getElem?_eq_getElem (by omega)⟩
    have hpm : Has κ p := hH p (by have := Array.getElem_of_getElem? hp; rw [← this.2]; simp)
    refine wpS_bind (wp_elem hp ?_)
    unfold bey at q'
    rw [KK_at hp] at q'
    refine wp_ite (fun hl => ?_) (fun hl => ?_)
    · rw [if_pos hl] at q'
      exact wp_lt ho hk hpm hkey q'
    · rw [if_neg hl] at q'
      exact wpS_bind (wp_lt ho hk hkey hpm (wpS_pure q'))
  generalize hbv : bey κ left key arr base = b at *
  have bin : ∀ (lo hi : Nat), lo ≤ hi → hi ≤ n → (lo = 0 ∨ b (lo - 1) = true) → (hi = n ∨ b hi = false) → inv3 b n st 0 (none, lo, hi) st := fun lo hi h1 h2 h3 h4 => ⟨rfl, rfl, h1, h2, h3, h4, by show hi - lo ≤ n - 0; omega⟩
  have spl : ∀ c st', inv3 b n st n c st' ∨ (inv3 b n st 0 c st' ∧ c.2.1 ≥ c.2.2) → st = st' ∧ c.1 = none ∧ Q (some c.2.2) st := fun c st' h => by
    obtain ⟨⟨e1, e2, l1, l2, l3, l4, _⟩, l5⟩ : inv3 b n st 0 c st' ∧ c.2.1 ≥ c.2.2 := by
      rcases h with ⟨e1, e2, l1, l2, l3, l4, l5⟩ | h
      · exact ⟨⟨e1, e2, l1, l2, l3, l4, by omega⟩, by omega⟩
      · exact h
    have e3 : c.2.1 = c.2.2 := by omega
    rw [e3] at l3
    refine ⟨e1, e2, q c.2.2 l2 (fun i hi => ?_) (fun i h1 h2 => ?_)⟩
    · rcases l3 with z | z
      · omega
      · exact mono i (c.2.2 - 1) (by omega) (by omega) z
    · rcases l4 with z | z
      · omega
      · cases hb : b i with
        | false => rfl
        | true => rw [mono c.2.2 i h1 h2 hb] at z; cases z
  refine wpS_bind (beyW hint _ hh ?_)
  dsimp only
  refine wp_ite (fun hr => ?_) (fun hr => ?_)
  · refine wp_seq (Q1 := fun c st' => st = st' ∧ c.1 = none ∧ c.2.1 < c.2.2 ∧ hint + c.2.1 < n ∧ b (hint + c.2.1) = true ∧ (c.2.2 ≥ n - hint ∨ b (hint + c.2.2) = false)) (wpS_forRange (inv1 b n hint st) ?_ ?_ ⟨rfl, rfl, by decide, by decide, by exact hh, hr⟩) ?_
    · rintro i ⟨o, la, of⟩ st' _ hi ⟨e1, e2, l1, l2, l3, l4⟩
      dsimp only at e2 l1 l2 l3 l4 ⊢
      subst e1
      refine wp_ite (fun h => wpS_pure ⟨rfl, rfl, l1, l3, l4, .inl h⟩) (fun h => wpS_bind (beyW (hint + of) _ (by omega) ?_))
      dsimp only
      refine wp_ite (fun h2 => wpS_pure ⟨rfl, rfl, l1, l3, l4, .inr (by simpa using h2)⟩) (fun h2 => wpS_pure ⟨rfl, rfl, by show of < 2 * of + 1; omega, by show i + 1 + 1 ≤ 2 * of + 1; omega, by show hint + of < n; omega, by simpa using h2⟩)
    · rintro ⟨o, la, of⟩ st' ⟨e1, e2, l1, l2, l3, l4⟩
      exact ⟨e1, e2, l1, l3, l4, .inl (by have : max 0 n + 1 ≤ of := l2; show of ≥ n - hint; omega)⟩
    · rintro ⟨o, la, of⟩ st' ⟨e1, e2, l1, l3, l4, l5⟩
      dsimp only at e2 l1 l3 l4 l5 ⊢
      subst e1 e2
      dsimp only
      refine wp_seq (Q1 := fun c st' => st = st' ∧ c.1 = none ∧ Q (some c.2.2) st) (wpS_forRange (inv3 b n st) ?_ ?_ (bin _ _ (by omega) (by omega) (.inr (by show b (hint + la + 1 - 1) = true; rw [Nat.add_sub_cancel]; exact l4)) ?_)) ?_
      · rintro i ⟨o, lo, hi⟩ st' _ hil ⟨e1, e2, l1, l2, l3, l4, l5⟩
        dsimp only at e2 l1 l2 l3 l4 l5 ⊢
        subst e1
        refine wp_ite (fun h => wpS_pure (spl _ _ (.inr ⟨⟨rfl, rfl, l1, l2, l3, l4, by show hi - lo ≤ n - 0; omega⟩, h⟩))) (fun h => wpS_bind (beyW (lo + (hi - lo) / 2) _ (by omega) ?_))
        dsimp only
        refine wp_ite (fun h2 => wpS_pure ⟨rfl, rfl, by show lo + (hi - lo) / 2 + 1 ≤ hi; omega, l2, .inr (by show b (lo + (hi - lo) / 2 + 1 - 1) = true; rw [Nat.add_sub_cancel]; exact h2), l4, by show hi - (lo + (hi - lo) / 2 + 1) ≤ n - (i + 1); omega⟩) (fun h2 => wpS_pure ⟨rfl, rfl, by show lo ≤ lo + (hi - lo) / 2; omega, by show lo + (hi - lo) / 2 ≤ n; omega, l3, .inr (by simpa using h2), by show lo + (hi - lo) / 2 - lo ≤ n - (i + 1); omega⟩)
      · rintro c st' h
        exact spl _ _ (.inl (by rw [Nat.max_eq_right (Nat.zero_le n)] at h; exact h))
      · by_cases hm : of ≥ n - hint
        · exact .inl (by rw [Nat.min_eq_right (by omega)]; omega)
        · exact .inr (by rw [Nat.min_eq_left (by omega)]; exact l5.resolve_left hm)
      · rintro ⟨o, lo, hi⟩ st' ⟨e1, e2, qq⟩
        dsimp only at e2 qq ⊢
        subst e1 e2
        exact wpS_pure qq
  · refine wp_seq (Q1 := fun c st' => st = st' ∧ c.1 = none ∧ c.2.1 < c.2.2 ∧ c.2.1 ≤ hint ∧ b (hint - c.2.1) = false ∧ (c.2.2 ≥ hint + 1 ∨ b (hint - c.2.2) = true)) (wpS_forRange (inv2 b n hint st) ?_ ?_ ⟨rfl, rfl, by decide, by decide, Nat.zero_le _, by simpa using hr⟩) ?_
    · rintro i ⟨o, la, of⟩ st' _ hi ⟨e1, e2, l1, l2, l3, l4⟩
      dsimp only at e2 l1 l2 l3 l4 ⊢
      subst e1
      refine wp_ite (fun h => wpS_pure ⟨rfl, rfl, l1, l3, l4, .inl h⟩) (fun h => wpS_bind (beyW (hint - of) _ (by omega) ?_))
      dsimp only
      refine wp_ite (fun h2 => wpS_pure ⟨rfl, rfl, l1, l3, l4, .inr h2⟩) (fun h2 => wpS_pure ⟨rfl, rfl, by show of < 2 * of + 1; omega, by show i + 1 + 1 ≤ 2 * of + 1; omega, by show of ≤ hint; omega, by simpa using h2⟩)
    · rintro ⟨o, la, of⟩ st' ⟨e1, e2, l1, l2, l3, l4⟩
      exact ⟨e1, e2, l1, l3, l4, .inl (by have : max 0 n + 1 ≤ of := l2; show of ≥ hint + 1; omega)⟩
    · rintro ⟨o, la, of⟩ st' ⟨e1, e2, l1, l3, l4, l5⟩
      dsimp only at e2 l1 l3 l4 l5 ⊢
      subst e1 e2
      dsimp only
      refine wp_seq (Q1 := fun c st' => st = st' ∧ c.1 = none ∧ Q (some c.2.2) st) (wpS_forRange (inv3 b n st) ?_ ?_ (bin _ _ (by omega) (by omega) ?_ (.inr l4))) ?_
      · rintro i ⟨o, lo, hi⟩ st' _ hil ⟨e1, e2, l1, l2, l3, l4, l5⟩
        dsimp only at e2 l1 l2 l3 l4 l5 ⊢
        subst e1
        refine wp_ite (fun h => wpS_pure (spl _ _ (.inr ⟨⟨rfl, rfl, l1, l2, l3, l4, by show hi - lo ≤ n - 0; omega⟩, h⟩))) (fun h => wpS_bind (beyW (lo + (hi - lo) / 2) _ (by omega) ?_))
        dsimp only
        refine wp_ite (fun h2 => wpS_pure ⟨rfl, rfl, by show lo + (hi - lo) / 2 + 1 ≤ hi; omega, l2, .inr (by show b (lo + (hi - lo) / 2 + 1 - 1) = true; rw [Nat.add_sub_cancel]; exact h2), l4, by show hi - (lo + (hi - lo) / 2 + 1) ≤ n - (i + 1); omega⟩) (fun h2 => wpS_pure ⟨rfl, rfl, by show lo ≤ lo + (hi - lo) / 2; omega, by show lo + (hi - lo) / 2 ≤ n; omega, l3, .inr (by simpa using h2), by show lo + (hi - lo) / 2 - lo ≤ n - (i + 1); omega⟩)
      · rintro c st' h
        exact spl _ _ (.inl (by rw [Nat.max_eq_right (Nat.zero_le n)] at h; exact h))
      · by_cases hm : of ≥ hint + 1
        · exact .inl (by rw [Nat.min_eq_right (by omega)]; omega)
        · refine .inr ?_
          rw [Nat.min_eq_left (by omega), show hint + 1 - of - 1 = hint - of by omega]
          exact l5.resolve_left hm
      · rintro ⟨o, lo, hi⟩ st' ⟨e1, e2, qq⟩
        dsimp only at e2 qq ⊢
        subst e1 e2
        exact wpS_pure qq


end
end TS

namespace TS
section
open PySem PyProof.Rows
variable {κ : KeyKind} {prog : Program} {w : World} {A : Around} {E : Value → Shared → Prop} {s : Shared}
def le (κ : KeyKind) (p q : Keyed) : Prop := κ.kle (ky κ p) (ky κ q)
theorem le_trans {p q r : Keyed} (h : le κ p q) (g : le κ q r) : le κ p r := KeyOrd.kle_trans h g
structure G (κ : KeyKind) (la lb out : List Keyed) (ia ib : Nat) : Prop where
  pm : out.Perm (la.take ia ++ lb.take ib)
  so : out.Pairwise (le κ)
  lw : ∀ x ∈ out, ∀ y, (y ∈ la.drop ia ∨ y ∈ lb.drop ib) → le κ x y
theorem G.swap {la lb out : List Keyed} {ia ib : Nat} (h : G κ la lb out ia ib) : G κ lb la out ib ia := ⟨h.pm.trans List.perm_append_comm, h.so, fun x hx y hy => h.lw x hx y hy.symm⟩
theorem drop_c {l : List Keyed} {i : Nat} {x : Keyed} (h : l[i]? = some x) : l.drop i = x :: l.drop (i + 1) := by
  obtain ⟨hi, e⟩ := List.getElem?_eq_some_iff.mp h
  rw [List.drop_eq_getElem_cons hi, e]
theorem G.push {la lb out : List Keyed} {ia ib : Nat} {x : Keyed} (h : G κ la lb out ia ib) (sa : la.Pairwise (le κ)) (ha : la[ia]? = some x) (hle : ∀ y ∈ lb.drop ib, le κ x y) : G κ la lb (out ++ [x]) (ia + 1) ib := by
  have hd := drop_c ha
  refine ⟨?_, ?_, ?_⟩
  · rw [List.take_add_one, ha]
    show (out ++ [x]).Perm (la.take ia ++ [x] ++ lb.take ib)
    refine (h.pm.append_right [x]).trans ?_
    rw [List.append_assoc, List.append_assoc]
    exact List.Perm.append_left _ List.perm_append_comm
  · rw [List.pairwise_append]
    refine ⟨h.so, List.pairwise_singleton _ _, fun z hz y hy => ?_⟩
    rw [List.mem_singleton.mp hy]
    exact h.lw z hz x (.inl (by rw [hd]; exact List.mem_cons_self))
  · intro z hz y hy
    rcases List.mem_append.mp hz with h1 | h1
    · exact h.lw z h1 y (hy.imp (fun m => by rw [hd]; exact List.mem_cons_of_mem _ m) id)
    · rw [List.mem_singleton.mp h1]
      rcases hy with m | m
      · have := (List.pairwise_cons.mp (hd ▸ sa.drop : (x :: la.drop (ia + 1)).Pairwise (le κ))).1
        exact this y m
      · exact hle y m
theorem G.chunk {la lb : List Keyed} {ib : Nat} (sa : la.Pairwise (le κ)) : ∀ (k : Nat) {out : List Keyed} {ia : Nat}, G κ la lb out ia ib → ia + k ≤ la.length → (∀ i, i < k → ∀ x, la[ia + i]? = some x → ∀ y ∈ lb.drop ib, le κ x y) → G κ la lb (out ++ (la.drop ia).take k) (ia + k) ib
  | 0, out, ia, h, _, _ => by rw [List.take_zero, List.append_nil]; exact h
  | k + 1, out, ia, h, hl, hk => by
    obtain ⟨x, hx⟩ : ∃ x, la[ia]? = some x := ⟨la[ia], List.getElem?_eq_getElem (by omega)⟩
    have h1 := h.push sa hx (hk 0 (by omega) x hx)
    have h2 := G.chunk sa k h1 (by omega) (fun i hi y hy => hk (i + 1) (by omega) y (by rw [show ia + (i + 1) = ia + 1 + i by omega]; exact hy))
    rw [drop_c hx, List.take_succ_cons]
    rw [List.append_assoc] at h2
    rw [show ia + (k + 1) = ia + 1 + k by omega]
    exact h2
def Fin2 (κ : KeyKind) (la lb r : List Keyed) : Prop := r.Perm (la ++ lb) ∧ r.Pairwise (le κ)
theorem G.fin {la lb out r : List Keyed} {ia ib : Nat} (h : G κ la lb out ia ib) (pr : r.Perm (la.drop ia ++ lb.drop ib)) (sr : r.Pairwise (le κ)) : Fin2 κ la lb (out ++ r) := by
  constructor
  · refine (h.pm.append pr).trans ?_
    have e1 : la ++ lb = la.take ia ++ (la.drop ia ++ (lb.take ib ++ lb.drop ib)) := by rw [← List.append_assoc, List.take_append_drop, List.take_append_drop]
    rw [e1, List.append_assoc]
    refine List.Perm.append_left _ ?_
    rw [← List.append_assoc, ← List.append_assoc]
    exact List.Perm.append_right _ List.perm_append_comm
  · rw [List.pairwise_append]
    refine ⟨h.so, sr, fun x hx y hy => h.lw x hx y ?_⟩
    exact List.mem_append.mp (pr.mem_iff.mp hy)
theorem G.doneA {la lb out : List Keyed} {ia ib : Nat} (h : G κ la lb out ia ib) (sa : la.Pairwise (le κ)) (hb : lb.drop ib = []) : Fin2 κ la lb (out ++ la.drop ia ++ lb.drop ib) := by
  rw [List.append_assoc]
  exact h.fin (List.Perm.refl _) (by rw [hb, List.append_nil]; exact sa.drop)
theorem G.doneB {la lb out : List Keyed} {ia ib : Nat} (h : G κ la lb out ia ib) (sb : lb.Pairwise (le κ)) (ha : la.drop ia = []) : Fin2 κ la lb (out ++ la.drop ia ++ lb.drop ib) := by
  rw [List.append_assoc]
  exact h.fin (List.Perm.refl _) (by rw [ha, List.nil_append]; exact sb.drop)
theorem G.last {la lb out : List Keyed} {ia ib : Nat} {x : Keyed} (h : G κ la lb out ia ib) (sb : lb.Pairwise (le κ)) (ha : la.drop ia = [x]) (hx : ∀ y ∈ lb, le κ y x) : Fin2 κ la lb (out ++ lb.drop ib ++ la.drop ia) := by
  rw [List.append_assoc]
  refine h.fin List.perm_append_comm ?_
  rw [ha, List.pairwise_append]
  refine ⟨sb.drop, List.pairwise_singleton _ _, fun y hy z hz => ?_⟩
  rw [List.mem_singleton.mp hz]
  exact hx y (List.mem_of_mem_drop hy)
structure SG (st st' : SortSt) : Prop where
  ki : kindOf st' = kindOf st
  ar : arrOf st' = arrOf st
  pe : pendingOf st' = pendingOf st
  fa : failedOf st' = failedOf st
theorem SG.refl (st : SortSt) : SG st st := ⟨rfl, rfl, rfl, rfl⟩
theorem SG.trans {a b c : SortSt} (h : SG a b) (g : SG b c) : SG a c := ⟨g.ki.trans h.ki, g.ar.trans h.ar, g.pe.trans h.pe, g.fa.trans h.fa⟩
theorem wp_smg {g : Nat} {st : SortSt} {Q : Unit → SortSt → Prop} (q : ∀ st', SG st st' → Q () st') : wpS (model prog w) A E s (smg g) Q st := wpS_modify (q _ ⟨rfl, rfl, rfl, rfl⟩)
theorem sorted_at {l : List Keyed} (h : l.Pairwise (le κ)) {i j : Nat} {x y : Keyed} (hij : i ≤ j) (hx : l[i]? = some x) (hy : l[j]? = some y) : le κ x y := by
  obtain ⟨h1, e1⟩ := List.getElem?_eq_some_iff.mp hx
  obtain ⟨h2, e2⟩ := List.getElem?_eq_some_iff.mp hy
  rcases Nat.lt_or_eq_of_le hij with h3 | h3
  · have := List.pairwise_iff_getElem.mp h i j h1 h2 h3
    rw [e1, e2] at this
    exact this
  · subst h3
    rw [← e1, ← e2]
    exact KeyOrd.kle_refl _
theorem ext1 (a : Array Keyed) (i : Nat) : (a.extract i).toList = a.toList.drop i := by simp [List.take_of_length_le]
theorem ext2 (a : Array Keyed) (i j : Nat) : (a.extract i j).toList = (a.toList.drop i).take (j - i) := by simp
theorem tl (a : Array Keyed) (i : Nat) : a.toList[i]? = a[i]? := Array.getElem?_toList
theorem len_tl (a : Array Keyed) : a.toList.length = a.size := Array.length_toList
theorem at_lt {a : Array Keyed} {i : Nat} (h : i < a.size) : ∃ x, a[i]? = some x := ⟨a[i], Array.getElem?_eq_getElem h⟩
theorem mem_at {a : Array Keyed} {i : Nat} {x : Keyed} (h : a[i]? = some x) : x ∈ a.toList := List.mem_of_getElem? (by rw [tl]; exact h)
theorem mem_drop {l : List Keyed} {i : Nat} {y : Keyed} (h : y ∈ l.drop i) : ∃ j, i ≤ j ∧ l[j]? = some y := by
  obtain ⟨j, hj⟩ := List.mem_iff_getElem?.mp h
  rw [List.getElem?_drop] at hj
  exact ⟨i + j, by omega, hj⟩
theorem kle_not {x y : κ.α} (h : κ.blt y x = false) : κ.kle x y := KeyOrd.kle_of_not_klt (by intro z; have z' : κ.blt y x = true := z; rw [h] at z'; cases z')
theorem not_kle {x y : κ.α} (h : κ.kle x y) : κ.blt y x = false := by
  cases hb : κ.blt y x with
  | false => rfl
  | true => exact absurd (show κ.klt y x from hb) (KeyOrd.not_klt_of_kle h)
theorem lt_le {x y : κ.α} (h : κ.blt x y = true) : κ.kle x y := KeyOrd.kle_of_klt (show κ.klt x y from h)
theorem wp_galR (ho : κ.OneLt) {st : SortSt} {key : Keyed} {arr : Array Keyed} {base n hint : Nat} {Q : Option Nat → SortSt → Prop} (hk : kindOf st = oneType') (hH : ∀ p ∈ arr.toList, Has κ p) (hkey : Has κ key) (hb : base + n ≤ arr.size) (hh : hint < n) (so : ∀ i j x y, base ≤ i → i ≤ j → j < base + n → arr[i]? = some x → arr[j]? = some y → le κ x y)
    (q : ∀ k, k ≤ n → (∀ i x, i < k → arr[base + i]? = some x → le κ x key) → (∀ i x, k ≤ i → i < n → arr[base + i]? = some x → le κ key x) → Q (some k) st) : wpS (model prog w) A E s (gal false key arr base n hint) Q st := by
  refine wp_gal ho hk hH hkey hb hh (fun i j hij hj h => ?_) (fun k k1 k2 k3 => q k k1 (fun i x hi hx => ?_) (fun i x hi hin hx => ?_))
  · obtain ⟨x, hx⟩ := at_lt (a := arr) (i := base + i) (by omega)
    obtain ⟨y, hy⟩ := at_lt (a := arr) (i := base + j) (by omega)
    have := so (base + i) (base + j) x y (by omega) (by omega) (by omega) hx hy
    unfold bey at h ⊢
    rw [KK_at hy] at h
    rw [KK_at hx]
    simp at h ⊢
    exact not_kle (KeyOrd.kle_trans this (kle_not h))
  · have := k2 i hi
    unfold bey at this
    rw [KK_at hx] at this
    simp at this
    exact kle_not this
  · have := k3 i hi hin
    unfold bey at this
    rw [KK_at hx] at this
    simp at this
    exact lt_le this
theorem wp_galL (ho : κ.OneLt) {st : SortSt} {key : Keyed} {arr : Array Keyed} {base n hint : Nat} {Q : Option Nat → SortSt → Prop} (hk : kindOf st = oneType') (hH : ∀ p ∈ arr.toList, Has κ p) (hkey : Has κ key) (hb : base + n ≤ arr.size) (hh : hint < n) (so : ∀ i j x y, base ≤ i → i ≤ j → j < base + n → arr[i]? = some x → arr[j]? = some y → le κ x y)
    (q : ∀ k, k ≤ n → (∀ i x, i < k → arr[base + i]? = some x → le κ x key) → (∀ i x, k ≤ i → i < n → arr[base + i]? = some x → le κ key x) → Q (some k) st) : wpS (model prog w) A E s (gal true key arr base n hint) Q st := by
  refine wp_gal ho hk hH hkey hb hh (fun i j hij hj h => ?_) (fun k k1 k2 k3 => q k k1 (fun i x hi hx => ?_) (fun i x hi hin hx => ?_))
  · obtain ⟨x, hx⟩ := at_lt (a := arr) (i := base + i) (by omega)
    obtain ⟨y, hy⟩ := at_lt (a := arr) (i := base + j) (by omega)
    have := so (base + i) (base + j) x y (by omega) (by omega) (by omega) hx hy
    unfold bey at h ⊢
    rw [KK_at hy] at h
    rw [KK_at hx]
    simp at h ⊢
    exact KeyOrd.klt_of_kle_of_klt this h
  · have := k2 i hi
    unfold bey at this
    rw [KK_at hx] at this
    simp at this
    exact lt_le this
  · have := k3 i hi hin
    unfold bey at this
    rw [KK_at hx] at this
    simp at this
    exact kle_not this


end
end TS

namespace TS
section
open PySem PyProof.Rows
variable {κ : KeyKind} {prog : Program} {w : World} {A : Around} {E : Value → Shared → Prop} {s : Shared}
structure Gd (κ : KeyKind) (a b out : Array Keyed) (ia ib : Nat) : Prop where
  g : G κ a.toList b.toList out.toList ia ib
  la : ia + 1 < a.size
  lb : ib < b.size
def Fin3 (κ : KeyKind) (a b r : Array Keyed) : Prop := Fin2 κ a.toList b.toList r.toList
theorem pushA {a b out : Array Keyed} {ia ib : Nat} {x y : Keyed} (h : G κ a.toList b.toList out.toList ia ib) (sa : a.toList.Pairwise (le κ)) (sb : b.toList.Pairwise (le κ)) (hx : a[ia]? = some x) (hy : b[ib]? = some y) (hle : le κ x y) : G κ a.toList b.toList (out.push x).toList (ia + 1) ib := by
  rw [Array.toList_push]
  refine h.push sa (by rw [tl]; exact hx) fun z hz => ?_
  obtain ⟨j, hj, ez⟩ := mem_drop hz
  exact le_trans hle (sorted_at sb hj (by rw [tl]; exact hy) ez)
theorem pushB {a b out : Array Keyed} {ia ib : Nat} {x y : Keyed} (h : G κ a.toList b.toList out.toList ia ib) (sa : a.toList.Pairwise (le κ)) (sb : b.toList.Pairwise (le κ)) (hx : a[ia]? = some x) (hy : b[ib]? = some y) (hle : le κ y x) : G κ a.toList b.toList (out.push y).toList ia (ib + 1) := (pushA h.swap sb sa hy hx hle).swap
theorem chunkA {a b out : Array Keyed} {ia ib k : Nat} {y : Keyed} (h : G κ a.toList b.toList out.toList ia ib) (sa : a.toList.Pairwise (le κ)) (sb : b.toList.Pairwise (le κ)) (hk : ia + k ≤ a.size) (hy : b[ib]? = some y) (hle : ∀ i x, i < k → a[ia + i]? = some x → le κ x y) : G κ a.toList b.toList (out ++ a.extract ia (ia + k)).toList (ia + k) ib := by
  rw [Array.toList_append, ext2, Nat.add_sub_cancel_left]
  refine h.chunk sa k (by rw [len_tl]; exact hk) fun i hi x hx z hz => ?_
  obtain ⟨j, hj, ez⟩ := mem_drop hz
  exact le_trans (hle i x hi (by rw [← tl]; exact hx)) (sorted_at sb hj (by rw [tl]; exact hy) ez)
theorem chunkB {a b out : Array Keyed} {ia ib k : Nat} {x : Keyed} (h : G κ a.toList b.toList out.toList ia ib) (sa : a.toList.Pairwise (le κ)) (sb : b.toList.Pairwise (le κ)) (hk : ib + k ≤ b.size) (hx : a[ia]? = some x) (hle : ∀ i y, i < k → b[ib + i]? = some y → le κ y x) : G κ a.toList b.toList (out ++ b.extract ib (ib + k)).toList ia (ib + k) := (chunkA h.swap sb sa hk hx hle).swap
theorem endB {a b out : Array Keyed} {ia ib : Nat} (h : G κ a.toList b.toList out.toList ia ib) (sa : a.toList.Pairwise (le κ)) (e : (ib == b.size) = true) : Fin3 κ a b (out ++ a.extract ia ++ b.extract ib) := by
  unfold Fin3
  rw [Array.toList_append, Array.toList_append, ext1, ext1]
  exact h.doneA sa (List.drop_eq_nil_of_le (by rw [len_tl]; have := eq_of_beq e; omega))
theorem endA {a b out : Array Keyed} {ia ib : Nat} (h : G κ a.toList b.toList out.toList ia ib) (sb : b.toList.Pairwise (le κ)) (e : (ia == a.size) = true) : Fin3 κ a b (out ++ a.extract ia ++ b.extract ib) := by
  unfold Fin3
  rw [Array.toList_append, Array.toList_append, ext1, ext1]
  exact h.doneB sb (List.drop_eq_nil_of_le (by rw [len_tl]; have := eq_of_beq e; omega))
theorem lastA {a b out : Array Keyed} {ia ib : Nat} (h : G κ a.toList b.toList out.toList ia ib) (sb : b.toList.Pairwise (le κ)) (hl : ∀ x, a[a.size - 1]? = some x → ∀ y ∈ b.toList, le κ y x) (e : (ia + 1 == a.size) = true) : Fin3 κ a b (out ++ b.extract ib ++ a.extract ia) := by
  unfold Fin3
  have e' : ia + 1 = a.size := eq_of_beq e
  obtain ⟨x, hx⟩ := at_lt (a := a) (i := ia) (by omega)
  rw [Array.toList_append, Array.toList_append, ext1, ext1]
  refine h.last (x := x) sb ?_ (hl x (by rw [show a.size - 1 = ia by omega]; exact hx))
  rw [drop_c (by rw [tl]; exact hx), List.drop_eq_nil_of_le (by rw [len_tl]; omega)]
abbrev C1 := Option (Array Keyed) × Array Keyed × Nat × Nat × Nat × Nat
abbrev C2 := Option (Array Keyed) × Array Keyed × Nat × Nat × Nat × Nat × Nat
def R1 (κ : KeyKind) (a b : Array Keyed) (st : SortSt) (n : Nat) (c : C1) (st' : SortSt) : Prop := SG st st' ∧ ((∃ r, c.1 = some r ∧ Fin3 κ a b r) ∨ (c.1 = none ∧ Gd κ a b c.2.1 c.2.2.1 c.2.2.2.1 ∧ n ≤ c.2.2.1 + c.2.2.2.1))
def R2 (κ : KeyKind) (a b : Array Keyed) (st : SortSt) (n : Nat) (c : C2) (st' : SortSt) : Prop := SG st st' ∧ ((∃ r, c.1 = some r ∧ Fin3 κ a b r) ∨ (c.1 = none ∧ Gd κ a b c.2.1 c.2.2.1 c.2.2.2.1 ∧ n ≤ c.2.2.1 + c.2.2.2.1))
def J1 (κ : KeyKind) (a b : Array Keyed) (st : SortSt) (n j : Nat) (c : C1) (st' : SortSt) : Prop := SG st st' ∧ c.1 = none ∧ Gd κ a b c.2.1 c.2.2.1 c.2.2.2.1 ∧ n + j ≤ c.2.2.1 + c.2.2.2.1
def J2 (κ : KeyKind) (a b : Array Keyed) (st : SortSt) (n j : Nat) (c : C2) (st' : SortSt) : Prop := SG st st' ∧ c.1 = none ∧ Gd κ a b c.2.1 c.2.2.1 c.2.2.2.1 ∧ n ≤ c.2.2.1 + c.2.2.2.1
def J0 (κ : KeyKind) (a b : Array Keyed) (st : SortSt) (i : Nat) (c : Option (Array Keyed) × Array Keyed × Nat × Nat × Nat) (st' : SortSt) : Prop := SG st st' ∧ c.1 = none ∧ Gd κ a b c.2.1 c.2.2.1 c.2.2.2.1 ∧ i + 1 ≤ c.2.2.1 + c.2.2.2.1
theorem wp_mlo (ho : κ.OneLt) {st : SortSt} {a b : Array Keyed} {Q : Array Keyed → SortSt → Prop} (hk : kindOf st = oneType') (hHa : ∀ p ∈ a.toList, Has κ p) (hHb : ∀ p ∈ b.toList, Has κ p) (sa : a.toList.Pairwise (le κ)) (sb : b.toList.Pairwise (le κ)) (na : 1 ≤ a.size) (nb : 1 ≤ b.size)
    (h0 : ∀ x, b[0]? = some x → ∀ y ∈ a.toList, le κ x y) (hl : ∀ x, a[a.size - 1]? = some x → ∀ y ∈ b.toList, le κ y x)
    (q : ∀ r st', SG st st' → Fin3 κ a b r → Q r st') : wpS (model prog w) A E s (mlo a b) Q st := by
  obtain ⟨b0, hb0⟩ := at_lt (a := b) (i := 0) (by omega)
  have g0 : G κ a.toList b.toList (#[b0] : Array Keyed).toList 0 1 := by
    have g : G κ a.toList b.toList (#[] : Array Keyed).toList 0 0 := ⟨by simp, List.Pairwise.nil, fun x hx => by cases hx⟩
    obtain ⟨a0, ha0⟩ := at_lt (a := a) (i := 0) (by omega)
    exact pushB g sa sb ha0 hb0 (h0 b0 hb0 a0 (mem_at ha0))
  have soA : ∀ i j x y, i ≤ j → a[i]? = some x → a[j]? = some y → le κ x y := fun i j x y hij hx hy => sorted_at sa hij (by rw [tl]; exact hx) (by rw [tl]; exact hy)
  have soB : ∀ i j x y, i ≤ j → b[i]? = some x → b[j]? = some y → le κ x y := fun i j x y hij hx hy => sorted_at sb hij (by rw [tl]; exact hx) (by rw [tl]; exact hy)
  refine wpS_bind (wpS_lift (wpAny_rule ⟨rfl, ?_⟩))
  refine wpS_bind (wp_elem hb0 ?_)
  refine wp_ite (fun h => wpS_pure (q _ _ (SG.refl _) (endB g0 sa h))) (fun h => wp_ite (fun h2 => wpS_pure (q _ _ (SG.refl _) (lastA g0 sb hl h2))) (fun h2 => wpS_bind (wpS_get ?_)))
  have n1 : ¬ 1 = b.size := fun e => h (by rw [← e]; rfl)
  have n2 : ¬ 0 + 1 = a.size := fun e => h2 (by rw [← e]; rfl)
  refine wp_seq (Q1 := fun c st' => SG st st' ∧ ∃ r, c.1 = some r ∧ Fin3 κ a b r) (wpS_forRange (J0 κ a b st) ?_ ?_ ⟨SG.refl _, rfl, ⟨g0, by show 0 + 1 < a.size; omega, by show 1 < b.size; omega⟩, by show 0 + 1 ≤ 0 + 1; omega⟩) ?_
  · rintro i ⟨o, out, ia, ib, mg⟩ st' _ hi ⟨s1, e1, gd, hn⟩
    dsimp only at e1 gd hn
    refine wp_seq (Q1 := R1 κ a b st (ia + ib + 1)) (wpS_forRange (J1 κ a b st (ia + ib)) ?_ ?_ ⟨s1, rfl, gd, Nat.le_refl _⟩) ?_
    · rintro j ⟨o, out, ja, jb, ac, bc⟩ st2 _ hj ⟨s2, e2, gd, hn2⟩
      dsimp only at e2 gd hn2
      obtain ⟨x, hx⟩ := at_lt (a := a) (i := ja) (by have := gd.la; omega)
      obtain ⟨y, hy⟩ := at_lt (a := b) (i := jb) gd.lb
      refine wpS_bind (wp_elem hy (wpS_bind (wp_elem hx (wpS_bind (wp_lt ho (s2.ki.trans hk) (hHb _ (mem_at hy)) (hHa _ (mem_at hx)) ?_)))))
      refine wp_ite (fun hb => wpS_bind (wp_elem hy ?_)) (fun hb => wpS_bind (wp_elem hx ?_))
      · have g1 := pushB gd.g sa sb hx hy (lt_le hb)
        refine wp_ite (fun e => wpS_pure ⟨s2, .inl ⟨_, rfl, endB g1 sa e⟩⟩) (fun e => ?_)
        have ne : ¬ jb + 1 = b.size := fun e' => e (by rw [← e']; exact beq_self_eq_true _)
        have gd1 : Gd κ a b (out.push y) ja (jb + 1) := ⟨g1, gd.la, by have := gd.lb; omega⟩
        exact wp_ite (fun _ => wpS_pure ⟨s2, .inr ⟨rfl, gd1, by show ia + ib + 1 ≤ ja + (jb + 1); omega⟩⟩) (fun _ => wpS_pure ⟨s2, rfl, gd1, by show ia + ib + (j + 1) ≤ ja + (jb + 1); omega⟩)
      · have g1 := pushA gd.g sa sb hx hy (kle_not (by simpa using hb))
        refine wp_ite (fun e => wpS_pure ⟨s2, .inl ⟨_, rfl, lastA g1 sb hl e⟩⟩) (fun e => ?_)
        have ne : ¬ ja + 1 + 1 = a.size := fun e' => e (by rw [← e']; exact beq_self_eq_true _)
        have gd1 : Gd κ a b (out.push x) (ja + 1) jb := ⟨g1, by have := gd.la; omega, gd.lb⟩
        exact wp_ite (fun _ => wpS_pure ⟨s2, .inr ⟨rfl, gd1, by show ia + ib + 1 ≤ ja + 1 + jb; omega⟩⟩) (fun _ => wpS_pure ⟨s2, rfl, gd1, by show ia + ib + (j + 1) ≤ ja + 1 + jb; omega⟩)
    · rintro ⟨o, out, ja, jb, ac, bc⟩ st2 ⟨s2, e2, gd, hn2⟩
      dsimp only at e2 gd hn2
      exact ⟨s2, .inr ⟨e2, gd, by show ia + ib + 1 ≤ ja + jb; omega⟩⟩
    · rintro ⟨o, out, ja, jb, ac, bc⟩ st2 ⟨s2, ⟨r, e2, hr⟩ | ⟨e2, gd, hn2⟩⟩
      · dsimp only at e2
        subst e2
        exact wpS_pure ⟨s2, r, rfl, hr⟩
      · dsimp only at e2 gd hn2
        subst e2
        refine wpS_bind (wpS_lift (wpAny_rule ⟨rfl, ?_⟩))
        refine wp_seq (Q1 := R2 κ a b st (ia + ib + 1)) (wpS_forRange (J2 κ a b st (ia + ib + 1)) ?_ ?_ ⟨s2, rfl, gd, hn2⟩) ?_
        · clear gd hn2
          rintro j ⟨o, out, ja, jb, mg2, ac, bc⟩ st3 _ hj ⟨s3, e3, gd, hn3⟩
          dsimp only at e3 gd hn3
          obtain ⟨y, hy⟩ := at_lt (a := b) (i := jb) gd.lb
          refine wp_ite (fun _ => ?_) (fun _ => ?_) <;> {
            refine wpS_bind (wp_smg fun st4 s4 => ?_)
            have s34 := s3.trans s4
            have k4 := s34.ki.trans hk
            have la := gd.la
            refine wpS_bind (wp_elem hy (wpS_bind (wp_galR ho k4 hHa (hHb _ (mem_at hy)) (by show ja + (a.size - ja) ≤ a.size; omega) (by show 0 < a.size - ja; omega) (fun i j x y _ hij _ hx hy => soA i j x y hij hx hy) fun k (k1 : k ≤ a.size - ja) (k2 : ∀ i x, i < k → a[ja + i]? = some x → le κ x y) (k3 : ∀ i x, k ≤ i → i < a.size - ja → a[ja + i]? = some x → le κ y x) => ?_)))
            have gk := chunkA (k := k) gd.g sa sb (by omega) hy k2
            refine wp_ite (fun hk0 => wp_ite (fun e => wpS_pure ⟨s34, .inl ⟨_, rfl, lastA gk sb hl e⟩⟩) fun e => wp_ite (fun e2 => wpS_pure ⟨s34, .inl ⟨_, rfl, endA gk sb e2⟩⟩) fun e2 => ?_) (fun hk0 => ?_)
            have ne1 : ¬ ja + k + 1 = a.size := fun e' => e (by show (ja + k + 1 == a.size) = true; rw [e']; exact beq_self_eq_true _)
            have ne2 : ¬ ja + k = a.size := fun e' => e2 (by show (ja + k == a.size) = true; rw [e']; exact beq_self_eq_true _)
            dsimp only
            obtain ⟨o2, ka, hO, hK, gk', L1, C1, hn4⟩ : ∃ (o2 : Array Keyed) (ka : Nat), o2 = out ++ a.extract ja (ja + k) ∧ ka = ja + k ∧ G κ a.toList b.toList o2.toList ka jb ∧ ka + 1 < a.size ∧ (∀ i x, ka ≤ i → i < a.size → a[i]? = some x → le κ y x) ∧ ia + ib + 1 ≤ ka + jb := ⟨_, _, rfl, rfl, gk, by omega, fun i x h1 h2 hx => k3 (i - ja) x (by omega) (by omega) (by rw [show ja + (i - ja) = i by omega]; exact hx), by omega⟩
            rw [← hO, ← hK]
            rotate_left
            have ek : k = 0 := by omega
            dsimp only
            obtain ⟨o2, ka, hO, hK, gk', L1, C1, hn4⟩ : ∃ (o2 : Array Keyed) (ka : Nat), o2 = out ∧ ka = ja ∧ G κ a.toList b.toList o2.toList ka jb ∧ ka + 1 < a.size ∧ (∀ i x, ka ≤ i → i < a.size → a[i]? = some x → le κ y x) ∧ ia + ib + 1 ≤ ka + jb := ⟨out, ja, rfl, rfl, gd.g, gd.la, fun i x h1 h2 hx => k3 (i - ja) x (by omega) (by omega) (by rw [show ja + (i - ja) = i by omega]; exact hx), hn3⟩
            rw [← hO, ← hK]
            all_goals
              obtain ⟨x, hx⟩ := at_lt (a := a) (i := ka) (by omega)
              have lb := gd.lb
              refine wpS_bind (wp_elem hy ?_)
              have g1 := pushB gk' sa sb hx hy (C1 ka x (Nat.le_refl _) (by omega) hx)
              refine wp_ite (fun e => wpS_pure ⟨s34, .inl ⟨_, rfl, endB g1 sa e⟩⟩) (fun e => ?_)
              have ne : ¬ jb + 1 = b.size := fun e' => e (by rw [e']; exact beq_self_eq_true _)
              refine wpS_bind (wp_elem hx (wpS_bind (wp_galL ho k4 hHb (hHa _ (mem_at hx)) (by omega) (by omega) (fun i j x y _ hij _ hx hy => soB i j x y hij hx hy) fun k' l1 l2 l3 => ?_)))
              have g2 := chunkB (k := k') g1 sa sb (by omega) hx l2
              have fin3 : ∀ (o3 : Array Keyed) (jc : Nat), G κ a.toList b.toList o3.toList ka jc → jc < b.size → (∀ z, b[jc]? = some z → le κ x z) → jb + 1 ≤ jc → ((ka + 1 + 1 == a.size) = true → Fin3 κ a b ((o3.push x) ++ b.extract jc ++ a.extract (ka + 1))) ∧ (¬ (ka + 1 + 1 == a.size) = true → Gd κ a b (o3.push x) (ka + 1) jc ∧ ia + ib + 1 ≤ ka + 1 + jc) := fun o3 jc h1 h2 h3 h4 => by
                obtain ⟨z, hz⟩ := at_lt h2
                have g3 := pushA h1 sa sb hx hz (h3 z hz)
                exact ⟨fun e5 => lastA g3 sb hl e5, fun e5 => ⟨⟨g3, by have : ¬ ka + 1 + 1 = a.size := fun e' => e5 (by rw [e']; exact beq_self_eq_true _); omega, h2⟩, by omega⟩⟩
              refine wp_ite (fun h5 => wp_ite (fun e3 => wpS_pure ⟨s34, .inl ⟨_, rfl, endB g2 sa e3⟩⟩) fun e3 => wpS_bind (wp_elem hx ?_)) (fun h5 => wpS_bind (wp_elem hx ?_))
              · have ne3 : ¬ jb + 1 + k' = b.size := fun e' => e3 (by rw [e']; exact beq_self_eq_true _)
                have f3 := fin3 _ _ g2 (by omega) (fun z hz => l3 k' z (Nat.le_refl _) (by omega) hz) (by omega)
                exact wp_ite (fun e5 => wpS_pure ⟨s34, .inl ⟨_, rfl, f3.1 e5⟩⟩) (fun e5 => wp_ite (fun _ => wpS_pure ⟨s34, .inr ⟨rfl, f3.2 e5⟩⟩) (fun _ => wpS_pure ⟨s34, rfl, f3.2 e5⟩))
              · have f3 := fin3 _ _ g1 (by omega) (fun z hz => l3 0 z (by omega) (by omega) hz) (by omega)
                exact wp_ite (fun e5 => wpS_pure ⟨s34, .inl ⟨_, rfl, f3.1 e5⟩⟩) (fun e5 => wp_ite (fun _ => wpS_pure ⟨s34, .inr ⟨rfl, f3.2 e5⟩⟩) (fun _ => wpS_pure ⟨s34, rfl, f3.2 e5⟩))
          }
        · rintro ⟨o, out, ja, jb, mg2, ac, bc⟩ st3 ⟨s3, e3, gd, hn3⟩
          exact ⟨s3, .inr ⟨e3, gd, hn3⟩⟩
        · rintro ⟨o, out, ja, jb, mg2, ac, bc⟩ st3 ⟨s3, ⟨r, e3, hr⟩ | ⟨e3, gd, hn3⟩⟩
          · dsimp only at e3
            subst e3
            exact wpS_pure ⟨s3, r, rfl, hr⟩
          · dsimp only at e3 gd hn3
            subst e3
            exact wpS_bind (wp_smg fun st4 s4 => wpS_pure ⟨s3.trans s4, rfl, gd, by show i + 1 + 1 ≤ ja + jb; omega⟩)
  · rintro ⟨o, out, ia, ib, mg⟩ st' ⟨s1, e1, gd, hn⟩
    dsimp only at e1 gd hn
    exact absurd gd.lb (by have := gd.la; omega)
  · rintro ⟨o, out, ia, ib, mg⟩ st' ⟨s1, r, e1, hr⟩
    dsimp only at e1
    subst e1
    exact wpS_pure (q r st' s1 hr)


end
end TS

namespace TS
section
open PySem PyProof.Rows
variable {κ : KeyKind} {prog : Program} {w : World} {A : Around} {E : Value → Shared → Prop} {s : Shared}
structure Hh (κ : KeyKind) (la lb out : List Keyed) (na nb : Nat) : Prop where
  pm : out.Perm (la.drop na ++ lb.drop nb)
  so : out.reverse.Pairwise (le κ)
  up : ∀ x, (x ∈ la.take na ∨ x ∈ lb.take nb) → ∀ y ∈ out, le κ x y
theorem Hh.swap {la lb out : List Keyed} {na nb : Nat} (h : Hh κ la lb out na nb) : Hh κ lb la out nb na := ⟨h.pm.trans List.perm_append_comm, h.so, fun x hx y hy => h.up x hx.symm y hy⟩
theorem mem_take {l : List Keyed} {i : Nat} {y : Keyed} (h : y ∈ l.take i) : ∃ j, j < i ∧ l[j]? = some y := by
  obtain ⟨j, hj⟩ := List.mem_iff_getElem?.mp h
  rw [List.getElem?_take] at hj
  split at hj
  · rename_i h1; exact ⟨j, h1, hj⟩
  · cases hj
theorem take_s {l : List Keyed} {n : Nat} {x : Keyed} (h : l[n]? = some x) : l.take (n + 1) = l.take n ++ [x] := by rw [List.take_add_one, h]; rfl
theorem Hh.push {la lb out : List Keyed} {n nb : Nat} {x : Keyed} (h : Hh κ la lb out (n + 1) nb) (sa : la.Pairwise (le κ)) (ha : la[n]? = some x) (hle : ∀ z ∈ lb.take nb, le κ z x) : Hh κ la lb (out ++ [x]) n nb := by
  refine ⟨?_, ?_, ?_⟩
  · rw [drop_c ha]
    exact List.perm_append_comm.trans (h.pm.cons x)
  · rw [List.reverse_append]
    show (x :: out.reverse).Pairwise (le κ)
    rw [List.pairwise_cons]
    exact ⟨fun y hy => h.up x (.inl (by rw [take_s ha]; simp)) y (List.mem_reverse.mp hy), h.so⟩
  · intro z hz y hy
    rcases List.mem_append.mp hy with h1 | h1
    · exact h.up z (hz.imp (fun m => by rw [take_s ha]; exact List.mem_append_left _ m) id) y h1
    · rw [List.mem_singleton.mp h1]
      rcases hz with m | m
      · obtain ⟨j, hj, ez⟩ := mem_take m
        exact sorted_at sa (by omega) ez ha
      · exact hle z m
theorem Hh.chunk {la lb : List Keyed} {nb : Nat} (sa : la.Pairwise (le κ)) (d : Nat) : ∀ (k : Nat) {out : List Keyed}, Hh κ la lb out (d + k) nb → d + k ≤ la.length → (∀ i, i < k → ∀ x, la[d + i]? = some x → ∀ z ∈ lb.take nb, le κ z x) → Hh κ la lb (out ++ ((la.drop d).take k).reverse) d nb
  | 0, out, h, _, _ => by rw [List.take_zero, List.reverse_nil, List.append_nil]; exact h
  | k + 1, out, h, hl, hk => by
    obtain ⟨x, hx⟩ : ∃ x, la[d + k]? = some x := ⟨la[d + k], List.getElem?_eq_getElem (by omega)⟩
    have h1 := h.push (n := d + k) sa hx (hk k (by omega) x hx)
    have h2 := Hh.chunk sa d k h1 (by omega) (fun i hi => hk i (by omega))
    have e : (la.drop d).take (k + 1) = (la.drop d).take k ++ [x] := take_s (by rw [List.getElem?_drop]; exact hx)
    rw [e, List.reverse_append, ← List.append_assoc]
    exact h2
theorem Hh.fin {la lb out r : List Keyed} {na nb : Nat} (h : Hh κ la lb out na nb) (pr : r.Perm (la.take na ++ lb.take nb)) (sr : r.Pairwise (le κ)) : Fin2 κ la lb (r ++ out.reverse) := by
  constructor
  · refine (pr.append (out.reverse_perm.trans h.pm)).trans ?_
    have e1 : la ++ lb = la.take na ++ (la.drop na ++ (lb.take nb ++ lb.drop nb)) := by rw [← List.append_assoc, List.take_append_drop, List.take_append_drop]
    rw [e1, List.append_assoc]
    refine List.Perm.append_left _ ?_
    rw [← List.append_assoc, ← List.append_assoc]
    exact List.Perm.append_right _ List.perm_append_comm
  · rw [List.pairwise_append]
    exact ⟨sr, h.so, fun x hx y hy => h.up x (List.mem_append.mp (pr.mem_iff.mp hx)) y (List.mem_reverse.mp hy)⟩
theorem ext0 (a : Array Keyed) (n : Nat) : (a.extract 0 n).toList = a.toList.take n := by simp
abbrev Hl (κ : KeyKind) (a b out : Array Keyed) (na nb : Nat) : Prop := Hh κ a.toList b.toList out.toList na nb
theorem hpushA {a b out : Array Keyed} {n nb : Nat} {x y : Keyed} (h : Hl κ a b out (n + 1) (nb + 1)) (sa : a.toList.Pairwise (le κ)) (sb : b.toList.Pairwise (le κ)) (hx : a[n]? = some x) (hy : b[nb]? = some y) (hle : le κ y x) : Hl κ a b (out.push x) n (nb + 1) := by
  show Hh κ a.toList b.toList (out.push x).toList n (nb + 1)
  rw [Array.toList_push]
  refine Hh.push h sa (by rw [tl]; exact hx) fun z hz => ?_
  obtain ⟨j, hj, ez⟩ := mem_take hz
  exact le_trans (sorted_at (j := nb) sb (by omega) ez (by rw [tl]; exact hy)) hle
theorem hpushB {a b out : Array Keyed} {na nb : Nat} {x y : Keyed} (h : Hl κ a b out (na + 1) (nb + 1)) (sa : a.toList.Pairwise (le κ)) (sb : b.toList.Pairwise (le κ)) (hx : a[na]? = some x) (hy : b[nb]? = some y) (hle : le κ x y) : Hl κ a b (out.push y) (na + 1) nb := (hpushA (Hh.swap h) sb sa hy hx hle).swap
theorem hchunkA {a b out : Array Keyed} {d n nb : Nat} {y : Keyed} (h : Hl κ a b out n (nb + 1)) (sa : a.toList.Pairwise (le κ)) (sb : b.toList.Pairwise (le κ)) (hd : d ≤ n) (hn : n ≤ a.size) (hy : b[nb]? = some y) (hle : ∀ i x, d ≤ i → i < n → a[i]? = some x → le κ y x) : Hl κ a b (out ++ (a.extract d n).reverse) d (nb + 1) := by
  show Hh κ a.toList b.toList (out ++ (a.extract d n).reverse).toList d (nb + 1)
  rw [Array.toList_append, Array.toList_reverse, ext2]
  refine Hh.chunk sa d (n - d) (by rw [show d + (n - d) = n by omega]; exact h) (by rw [len_tl]; omega) fun i hi x hx z hz => ?_
  obtain ⟨j, hj, ez⟩ := mem_take hz
  exact le_trans (sorted_at (j := nb) sb (by omega) ez (by rw [tl]; exact hy)) (hle (d + i) x (by omega) (by omega) (by rw [← tl]; exact hx))
theorem hchunkB {a b out : Array Keyed} {d n na : Nat} {x : Keyed} (h : Hl κ a b out (na + 1) n) (sa : a.toList.Pairwise (le κ)) (sb : b.toList.Pairwise (le κ)) (hd : d ≤ n) (hn : n ≤ b.size) (hx : a[na]? = some x) (hle : ∀ i y, d ≤ i → i < n → b[i]? = some y → le κ x y) : Hl κ a b (out ++ (b.extract d n).reverse) (na + 1) d := (hchunkA (Hh.swap h) sb sa hd hn hx hle).swap
theorem hendA {a b out : Array Keyed} {na nb : Nat} (h : Hl κ a b out na nb) (sb : b.toList.Pairwise (le κ)) (e : (na == 0) = true) : Fin3 κ a b (a.extract 0 na ++ b.extract 0 nb ++ out.reverse) := by
  unfold Fin3
  have e' : na = 0 := eq_of_beq e
  subst e'
  rw [Array.toList_append, Array.toList_append, Array.toList_reverse, ext0, ext0]
  exact Hh.fin h (List.Perm.refl _) (by rw [List.take_zero, List.nil_append]; exact sb.take)
theorem hendB {a b out : Array Keyed} {na nb : Nat} (h : Hl κ a b out na nb) (sa : a.toList.Pairwise (le κ)) (e : (nb == 0) = true) : Fin3 κ a b (a.extract 0 na ++ b.extract 0 nb ++ out.reverse) := by
  unfold Fin3
  have e' : nb = 0 := eq_of_beq e
  subst e'
  rw [Array.toList_append, Array.toList_append, Array.toList_reverse, ext0, ext0]
  exact Hh.fin h (List.Perm.refl _) (by rw [List.take_zero, List.append_nil]; exact sa.take)
theorem hfirst {a b out : Array Keyed} {na nb : Nat} (h : Hl κ a b out na nb) (sa : a.toList.Pairwise (le κ)) (h0 : ∀ x, b[0]? = some x → ∀ y ∈ a.toList, le κ x y) (e : (nb == 1) = true) : Fin3 κ a b (b.extract 0 nb ++ a.extract 0 na ++ out.reverse) := by
  unfold Fin3
  have e' : nb = 1 := eq_of_beq e
  subst e'
  rw [Array.toList_append, Array.toList_append, Array.toList_reverse, ext0, ext0]
  refine Hh.fin h List.perm_append_comm ?_
  rw [List.pairwise_append]
  refine ⟨?_, sa.take, fun x hx y hy => ?_⟩
  · cases b.toList with
    | nil => exact List.Pairwise.nil
    | cons z l => exact List.pairwise_singleton _ _
  · obtain ⟨j, hj, ex⟩ := mem_take hx
    have : j = 0 := by omega
    subst this
    exact h0 x (by rw [← tl]; exact ex) y (List.mem_of_mem_take hy)


end
end TS

namespace TS
section
open PySem PyProof.Rows
variable {κ : KeyKind} {prog : Program} {w : World} {A : Around} {E : Value → Shared → Prop} {s : Shared}
structure Hd (κ : KeyKind) (a b out : Array Keyed) (na nb : Nat) : Prop where
  g : Hl κ a b out na nb
  na1 : 1 ≤ na
  nb2 : 2 ≤ nb
  la : na ≤ a.size
  lb : nb ≤ b.size
abbrev D1 := Option (Array Keyed) × Nat × Nat × Array Keyed × Nat × Nat
abbrev D2 := Option (Array Keyed) × Nat × Nat × Array Keyed × Nat × Nat × Nat
def S1 (κ : KeyKind) (a b : Array Keyed) (st : SortSt) (n : Nat) (c : D1) (st' : SortSt) : Prop := SG st st' ∧ ((∃ r, c.1 = some r ∧ Fin3 κ a b r) ∨ (c.1 = none ∧ Hd κ a b c.2.2.2.1 c.2.1 c.2.2.1 ∧ c.2.1 + c.2.2.1 + n ≤ a.size + b.size))
def S2 (κ : KeyKind) (a b : Array Keyed) (st : SortSt) (n : Nat) (c : D2) (st' : SortSt) : Prop := SG st st' ∧ ((∃ r, c.1 = some r ∧ Fin3 κ a b r) ∨ (c.1 = none ∧ Hd κ a b c.2.2.2.1 c.2.1 c.2.2.1 ∧ c.2.1 + c.2.2.1 + n ≤ a.size + b.size))
def L1 (κ : KeyKind) (a b : Array Keyed) (st : SortSt) (n j : Nat) (c : D1) (st' : SortSt) : Prop := SG st st' ∧ c.1 = none ∧ Hd κ a b c.2.2.2.1 c.2.1 c.2.2.1 ∧ c.2.1 + c.2.2.1 + (n + j) ≤ a.size + b.size
def L2 (κ : KeyKind) (a b : Array Keyed) (st : SortSt) (n j : Nat) (c : D2) (st' : SortSt) : Prop := SG st st' ∧ c.1 = none ∧ Hd κ a b c.2.2.2.1 c.2.1 c.2.2.1 ∧ c.2.1 + c.2.2.1 + n ≤ a.size + b.size
def L0 (κ : KeyKind) (a b : Array Keyed) (st : SortSt) (i : Nat) (c : Option (Array Keyed) × Nat × Nat × Array Keyed × Nat) (st' : SortSt) : Prop := SG st st' ∧ c.1 = none ∧ Hd κ a b c.2.2.2.1 c.2.1 c.2.2.1 ∧ c.2.1 + c.2.2.1 + (i + 1) ≤ a.size + b.size
theorem wp_mhi (ho : κ.OneLt) {st : SortSt} {a b : Array Keyed} {Q : Array Keyed → SortSt → Prop} (hk : kindOf st = oneType') (hHa : ∀ p ∈ a.toList, Has κ p) (hHb : ∀ p ∈ b.toList, Has κ p) (sa : a.toList.Pairwise (le κ)) (sb : b.toList.Pairwise (le κ)) (na : 1 ≤ a.size) (nb : 1 ≤ b.size)
    (h0 : ∀ x, b[0]? = some x → ∀ y ∈ a.toList, le κ x y) (hl : ∀ x, a[a.size - 1]? = some x → ∀ y ∈ b.toList, le κ y x)
    (q : ∀ r st', SG st st' → Fin3 κ a b r → Q r st') : wpS (model prog w) A E s (mhi a b) Q st := by
  obtain ⟨a0, ha0⟩ := at_lt (a := a) (i := a.size - 1) (by omega)
  have g0 : Hl κ a b (#[a0] : Array Keyed) (a.size - 1) b.size := by
    have g : Hl κ a b (#[] : Array Keyed) (a.size - 1 + 1) (b.size - 1 + 1) := ⟨by rw [List.drop_eq_nil_of_le (by rw [len_tl]; omega), List.drop_eq_nil_of_le (by rw [len_tl]; omega)]; exact List.Perm.refl _, List.Pairwise.nil, fun x _ y hy => by cases hy⟩
    obtain ⟨y, hy⟩ := at_lt (a := b) (i := b.size - 1) (by omega)
    have := hpushA g sa sb ha0 hy (hl a0 ha0 y (mem_at hy))
    rw [show b.size - 1 + 1 = b.size by omega] at this
    exact this
  have soA : ∀ i j x y, i ≤ j → a[i]? = some x → a[j]? = some y → le κ x y := fun i j x y hij hx hy => sorted_at sa hij (by rw [tl]; exact hx) (by rw [tl]; exact hy)
  have soB : ∀ i j x y, i ≤ j → b[i]? = some x → b[j]? = some y → le κ x y := fun i j x y hij hx hy => sorted_at sb hij (by rw [tl]; exact hx) (by rw [tl]; exact hy)
  refine wpS_bind (wpS_lift (wpAny_rule ⟨rfl, ?_⟩))
  refine wpS_bind (wp_elem ha0 ?_)
  refine wp_ite (fun h => wpS_pure (q _ _ (SG.refl _) (hendA g0 sb h))) (fun h => wp_ite (fun h2 => wpS_pure (q _ _ (SG.refl _) (hfirst g0 sa h0 h2))) (fun h2 => wpS_bind (wpS_get ?_)))
  have n1 : ¬ a.size - 1 = 0 := fun e => h (by rw [e]; rfl)
  have n2 : ¬ b.size = 1 := fun e => h2 (by rw [e]; rfl)
  refine wp_seq (Q1 := fun c st' => SG st st' ∧ ∃ r, c.1 = some r ∧ Fin3 κ a b r) (wpS_forRange (L0 κ a b st) ?_ ?_ ⟨SG.refl _, rfl, ⟨g0, by show 1 ≤ a.size - 1; omega, by show 2 ≤ b.size; omega, by show a.size - 1 ≤ a.size; omega, Nat.le_refl _⟩, by show a.size - 1 + b.size + (0 + 1) ≤ a.size + b.size; omega⟩) ?_
  · rintro i ⟨o, ia, ib, out, mg⟩ st' _ hi ⟨s1, e1, gd, hn⟩
    dsimp only at e1 gd hn
    refine wp_seq (Q1 := S1 κ a b st (i + 2)) (wpS_forRange (L1 κ a b st (i + 1)) ?_ ?_ ⟨s1, rfl, gd, hn⟩) ?_
    · rintro j ⟨o, ja, jb, out, ac, bc⟩ st2 _ hj ⟨s2, e2, gd, hn2⟩
      dsimp only at e2 gd hn2
      obtain ⟨ja, rfl⟩ : ∃ n, ja = n + 1 := ⟨ja - 1, by have := gd.na1; omega⟩
      obtain ⟨jb, rfl⟩ : ∃ n, jb = n + 1 := ⟨jb - 1, by have := gd.nb2; omega⟩
      have lA := gd.la
      have lB := gd.lb
      have l2 := gd.nb2
      obtain ⟨x, hx⟩ := at_lt (a := a) (i := ja) (by omega)
      obtain ⟨y, hy⟩ := at_lt (a := b) (i := jb) (by omega)
      refine wpS_bind (wp_elem hy (wpS_bind (wp_elem hx (wpS_bind (wp_lt ho (s2.ki.trans hk) (hHb _ (mem_at hy)) (hHa _ (mem_at hx)) ?_)))))
      refine wp_ite (fun hb => wpS_bind (wp_elem hx ?_)) (fun hb => wpS_bind (wp_elem hy ?_))
      · have g1 := hpushA gd.g sa sb hx hy (lt_le hb)
        refine wp_ite (fun e => wpS_pure ⟨s2, .inl ⟨_, rfl, hendA g1 sb e⟩⟩) (fun e => ?_)
        have ne : ¬ ja = 0 := fun e' => e (by show (ja == 0) = true; rw [e']; rfl)
        have gd1 : Hd κ a b (out.push x) ja (jb + 1) := ⟨g1, by omega, l2, by omega, lB⟩
        exact wp_ite (fun _ => wpS_pure ⟨s2, .inr ⟨rfl, gd1, by show ja + (jb + 1) + (i + 2) ≤ a.size + b.size; omega⟩⟩) (fun _ => wpS_pure ⟨s2, rfl, gd1, by show ja + (jb + 1) + (i + 1 + (j + 1)) ≤ a.size + b.size; omega⟩)
      · have g1 := hpushB gd.g sa sb hx hy (kle_not (by simpa using hb))
        refine wp_ite (fun e => wpS_pure ⟨s2, .inl ⟨_, rfl, hfirst g1 sa h0 e⟩⟩) (fun e => ?_)
        have ne : ¬ jb = 1 := fun e' => e (by show (jb == 1) = true; rw [e']; rfl)
        have gd1 : Hd κ a b (out.push y) (ja + 1) jb := ⟨g1, by omega, by omega, lA, by omega⟩
        exact wp_ite (fun _ => wpS_pure ⟨s2, .inr ⟨rfl, gd1, by show ja + 1 + jb + (i + 2) ≤ a.size + b.size; omega⟩⟩) (fun _ => wpS_pure ⟨s2, rfl, gd1, by show ja + 1 + jb + (i + 1 + (j + 1)) ≤ a.size + b.size; omega⟩)
    · rintro ⟨o, ja, jb, out, ac, bc⟩ st2 ⟨s2, e2, gd, hn2⟩
      dsimp only at e2 gd hn2
      exact ⟨s2, .inr ⟨e2, gd, by show ja + jb + (i + 2) ≤ a.size + b.size; omega⟩⟩
    · rintro ⟨o, ja, jb, out, ac, bc⟩ st2 ⟨s2, ⟨r, e2, hr⟩ | ⟨e2, gd, hn2⟩⟩
      · dsimp only at e2
        subst e2
        exact wpS_pure ⟨s2, r, rfl, hr⟩
      · dsimp only at e2 gd hn2
        subst e2
        refine wpS_bind (wpS_lift (wpAny_rule ⟨rfl, ?_⟩))
        refine wp_seq (Q1 := S2 κ a b st (i + 2)) (wpS_forRange (L2 κ a b st (i + 2)) ?_ ?_ ⟨s2, rfl, gd, hn2⟩) ?_
        · clear gd hn2
          rintro j ⟨o, ja, jb, out, mg2, ac, bc⟩ st3 _ hj ⟨s3, e3, gd, hn3⟩
          dsimp only at e3 gd hn3
          obtain ⟨jb, rfl⟩ : ∃ n, jb = n + 1 := ⟨jb - 1, by have := gd.nb2; omega⟩
          have lA := gd.la
          have lB := gd.lb
          have l1 := gd.na1
          have l2 := gd.nb2
          obtain ⟨y, hy⟩ := at_lt (a := b) (i := jb) (by omega)
          refine wp_ite (fun _ => ?_) (fun _ => ?_) <;> {
            refine wpS_bind (wp_smg fun st4 s4 => ?_)
            have s34 := s3.trans s4
            have k4 := s34.ki.trans hk
            refine wpS_bind (wp_elem hy (wpS_bind (wp_galR ho k4 hHa (hHb _ (mem_at hy)) (by show 0 + ja ≤ a.size; omega) (by show ja - 1 < ja; omega) (fun i j x y _ hij _ hx hy => soA i j x y hij hx hy) fun d (k1 : d ≤ ja) (k2 : ∀ i x, i < d → a[0 + i]? = some x → le κ x y) (k3 : ∀ i x, d ≤ i → i < ja → a[0 + i]? = some x → le κ y x) => ?_)))
            have gk := hchunkA (d := d) gd.g sa sb k1 lA hy (fun i x h1 h2 hx => k3 i x h1 h2 (by rw [Nat.zero_add]; exact hx))
            refine wp_ite (fun hk0 => wp_ite (fun e => wpS_pure ⟨s34, .inl ⟨_, rfl, hendA gk sb e⟩⟩) fun e => ?_) (fun hk0 => ?_)
            have ne1 : ¬ d = 0 := fun e' => e (by show (d == 0) = true; rw [e']; rfl)
            dsimp only
            obtain ⟨o2, ka, hO, hK, gk', K1, K2, C1, hn4⟩ : ∃ (o2 : Array Keyed) (ka : Nat), o2 = out ++ (a.extract d ja).reverse ∧ ka = d ∧ Hl κ a b o2 ka (jb + 1) ∧ 1 ≤ ka ∧ ka ≤ a.size ∧ (∀ i x, i < ka → a[i]? = some x → le κ x y) ∧ ka + jb + 1 + (i + 2) ≤ a.size + b.size := ⟨_, _, rfl, rfl, gk, by omega, by omega, fun i x h1 hx => k2 i x h1 (by rw [Nat.zero_add]; exact hx), by omega⟩
            rw [← hO, ← hK]
            rotate_left
            have ek : d = ja := by
              have h9 : ¬ ja - d > 0 := hk0
              omega
            subst ek
            dsimp only
            obtain ⟨o2, ka, hO, hK, gk', K1, K2, C1, hn4⟩ : ∃ (o2 : Array Keyed) (ka : Nat), o2 = out ∧ ka = d ∧ Hl κ a b o2 ka (jb + 1) ∧ 1 ≤ ka ∧ ka ≤ a.size ∧ (∀ i x, i < ka → a[i]? = some x → le κ x y) ∧ ka + jb + 1 + (i + 2) ≤ a.size + b.size := ⟨out, d, rfl, rfl, gd.g, l1, lA, fun i x h1 hx => k2 i x h1 (by rw [Nat.zero_add]; exact hx), by omega⟩
            rw [← hO, ← hK]
            all_goals
              obtain ⟨kp, rfl⟩ : ∃ n, ka = n + 1 := ⟨ka - 1, by omega⟩
              obtain ⟨x, hx⟩ := at_lt (a := a) (i := kp) (by omega)
              refine wpS_bind (wp_elem hy ?_)
              have g1 := hpushB gk' sa sb hx hy (C1 kp x (by omega) hx)
              refine wp_ite (fun e => wpS_pure ⟨s34, .inl ⟨_, rfl, hfirst g1 sa h0 e⟩⟩) (fun e => ?_)
              have ne : ¬ jb = 1 := fun e' => e (by show (jb == 1) = true; rw [e']; rfl)
              refine wpS_bind (wp_elem hx (wpS_bind (wp_galL ho k4 hHb (hHa _ (mem_at hx)) (by show 0 + jb ≤ b.size; omega) (by show jb - 1 < jb; omega) (fun i j x y _ hij _ hx hy => soB i j x y hij hx hy) fun c (m1 : c ≤ jb) (m2 : ∀ i y, i < c → b[0 + i]? = some y → le κ y x) (m3 : ∀ i y, c ≤ i → i < jb → b[0 + i]? = some y → le κ x y) => ?_)))
              have g2 := hchunkB (d := c) g1 sa sb m1 (by omega) hx (fun i y h1 h2 hy => m3 i y h1 h2 (by rw [Nat.zero_add]; exact hy))
              have fin3 : ∀ (o3 : Array Keyed) (jc : Nat), Hl κ a b o3 (kp + 1) jc → 2 ≤ jc → jc ≤ jb → (∀ z, b[jc - 1]? = some z → le κ z x) → ((kp == 0) = true → Fin3 κ a b (a.extract 0 kp ++ b.extract 0 jc ++ (o3.push x).reverse)) ∧ (¬ (kp == 0) = true → Hd κ a b (o3.push x) kp jc ∧ kp + jc + (i + 2) ≤ a.size + b.size) := fun o3 jc h1 h2 h3 h4 => by
                obtain ⟨jc, rfl⟩ : ∃ n, jc = n + 1 := ⟨jc - 1, by omega⟩
                obtain ⟨z, hz⟩ := at_lt (a := b) (i := jc) (by omega)
                have g3 := hpushA h1 sa sb hx hz (h4 z (by rw [Nat.add_sub_cancel]; exact hz))
                exact ⟨fun e5 => hendA g3 sb e5, fun e5 => ⟨⟨g3, by have : ¬ kp = 0 := fun e' => e5 (by rw [e']; rfl); omega, h2, by omega, by omega⟩, by omega⟩⟩
              refine wp_ite (fun h5 => wp_ite (fun e3 => wpS_pure ⟨s34, .inl ⟨_, rfl, hfirst g2 sa h0 e3⟩⟩) fun e3 => wp_ite (fun e4 => wpS_pure ⟨s34, .inl ⟨_, rfl, hendB g2 sa e4⟩⟩) fun e4 => wpS_bind (wp_elem hx ?_)) (fun h5 => wpS_bind (wp_elem hx ?_))
              · have ne3 : ¬ c = 1 := fun e' => e3 (by show (c == 1) = true; rw [e']; rfl)
                have ne4 : ¬ c = 0 := fun e' => e4 (by show (c == 0) = true; rw [e']; rfl)
                have f3 := fin3 _ _ g2 (by omega) (by omega) (fun z hz => m2 (c - 1) z (by omega) (by rw [Nat.zero_add]; exact hz))
                exact wp_ite (fun e5 => wpS_pure ⟨s34, .inl ⟨_, rfl, f3.1 e5⟩⟩) (fun e5 => wp_ite (fun _ => wpS_pure ⟨s34, .inr ⟨rfl, f3.2 e5⟩⟩) (fun _ => wpS_pure ⟨s34, rfl, f3.2 e5⟩))
              · have ec : c = jb := by
                  have h9 : ¬ jb - c > 0 := h5
                  omega
                have f3 := fin3 _ _ g1 (by omega) (Nat.le_refl _) (fun z hz => m2 (jb - 1) z (by omega) (by rw [Nat.zero_add]; exact hz))
                exact wp_ite (fun e5 => wpS_pure ⟨s34, .inl ⟨_, rfl, f3.1 e5⟩⟩) (fun e5 => wp_ite (fun _ => wpS_pure ⟨s34, .inr ⟨rfl, f3.2 e5⟩⟩) (fun _ => wpS_pure ⟨s34, rfl, f3.2 e5⟩))
          }
        · rintro ⟨o, ja, jb, out, mg2, ac, bc⟩ st3 ⟨s3, e3, gd, hn3⟩
          exact ⟨s3, .inr ⟨e3, gd, hn3⟩⟩
        · rintro ⟨o, ja, jb, out, mg2, ac, bc⟩ st3 ⟨s3, ⟨r, e3, hr⟩ | ⟨e3, gd, hn3⟩⟩
          · dsimp only at e3
            subst e3
            exact wpS_pure ⟨s3, r, rfl, hr⟩
          · dsimp only at e3 gd hn3
            subst e3
            exact wpS_bind (wp_smg fun st4 s4 => wpS_pure ⟨s3.trans s4, rfl, gd, by show ja + jb + (i + 1 + 1) ≤ a.size + b.size; omega⟩)
  · rintro ⟨o, ia, ib, out, mg⟩ st' ⟨s1, e1, gd, hn⟩
    dsimp only at e1 gd hn
    exact absurd gd.na1 (by omega)
  · rintro ⟨o, ia, ib, out, mg⟩ st' ⟨s1, r, e1, hr⟩
    dsimp only at e1
    subst e1
    exact wpS_pure (q r st' s1 hr)


end
end TS

namespace TS
section
open PySem PyProof.Rows
variable {κ : KeyKind} {prog : Program} {w : World} {A : Around} {E : Value → Shared → Prop} {s : Shared}
theorem wp_set {x st : SortSt} {Q : PUnit → SortSt → Prop} (q : Q PUnit.unit x) : wpS (model prog w) A E s (set x) Q st := wpS_modify (f := fun _ => x) q
theorem write_seg : ∀ (M : List Keyed) (n t : Nat) (arr : Array Keyed), t + n + M.length ≤ arr.size → (List.foldl (fun a (x : Keyed × Nat) => match x with | (p, j) => a.setIfInBounds (t + j) p) arr (M.zipIdx n)).toList = arr.toList.take (t + n) ++ M ++ arr.toList.drop (t + n + M.length)
  | [], n, t, arr, _ => by simp
  | x :: M, n, t, arr, h => by
    rw [List.length_cons] at h
    rw [List.zipIdx_cons, List.foldl_cons]
    have ih := write_seg M (n + 1) t (arr.setIfInBounds (t + n) x) (by rw [Array.size_setIfInBounds]; omega)
    rw [ih, Array.toList_setIfInBounds]
    have h1 : (arr.toList.set (t + n) x).take (t + (n + 1)) = arr.toList.take (t + n) ++ [x] := by
      rw [show t + (n + 1) = t + n + 1 by omega, List.take_add_one, List.take_set_of_le (Nat.le_refl _), List.getElem?_set_self (by rw [len_tl]; omega)]
      rfl
    have h2 : (arr.toList.set (t + n) x).drop (t + (n + 1) + M.length) = arr.toList.drop (t + n + (M.length + 1)) := by
      rw [List.drop_set_of_lt (by omega), show t + (n + 1) + M.length = t + n + (M.length + 1) by omega]
    rw [h1, h2, List.length_cons]
    simp
def seg (l : List Keyed) (lo hi : Nat) : List Keyed := (l.drop lo).take (hi - lo)
theorem seg_at {l : List Keyed} {lo hi i : Nat} {x : Keyed} (h1 : lo ≤ i) (h2 : i < hi) (hx : l[i]? = some x) : (seg l lo hi)[i - lo]? = some x := by
  unfold seg
  rw [List.getElem?_take, if_pos (by omega), List.getElem?_drop, show lo + (i - lo) = i by omega]
  exact hx
theorem seg_mem {l : List Keyed} {lo hi : Nat} {x : Keyed} (h : x ∈ seg l lo hi) : ∃ i, lo ≤ i ∧ i < hi ∧ l[i]? = some x := by
  obtain ⟨j, hj, ex⟩ := mem_take h
  rw [List.getElem?_drop] at ex
  exact ⟨lo + j, by omega, by omega, ex⟩
theorem seg_so {l : List Keyed} {lo hi i j : Nat} {x y : Keyed} (h : (seg l lo hi).Pairwise (le κ)) (h1 : lo ≤ i) (h2 : i ≤ j) (h3 : j < hi) (hx : l[i]? = some x) (hy : l[j]? = some y) : le κ x y :=
  sorted_at h (by omega) (seg_at h1 (by omega) hx) (seg_at (by omega) h3 hy)
theorem seg_sub {l : List Keyed} {lo hi lo' hi' : Nat} (h : (seg l lo hi).Pairwise (le κ)) (h1 : lo ≤ lo') (h2 : hi' ≤ hi) (h3 : lo' ≤ hi') : (seg l lo' hi').Pairwise (le κ) := by
  have e : seg l lo' hi' = ((seg l lo hi).drop (lo' - lo)).take (hi' - lo') := by
    unfold seg
    rw [List.drop_take, List.drop_drop, List.take_take, show lo + (lo' - lo) = lo' by omega, Nat.min_eq_left (by omega)]
  rw [e]
  exact h.drop.take
theorem seg_split (l : List Keyed) {a b c : Nat} (h1 : a ≤ b) (h2 : b ≤ c) : seg l a c = seg l a b ++ seg l b c := by
  unfold seg
  rw [show c - a = (b - a) + (c - b) by omega, List.take_add, List.drop_drop, show a + (b - a) = b by omega]
theorem whole (l : List Keyed) {a b : Nat} (h1 : a ≤ b) : l = l.take a ++ seg l a b ++ l.drop b := by
  unfold seg
  rw [List.append_assoc, show l.drop b = (l.drop a).drop (b - a) by rw [List.drop_drop, show a + (b - a) = b by omega], List.take_append_drop, List.take_append_drop]
theorem wp_mergeAt (ho : κ.OneLt) {st : SortSt} {i sa na pw sb nb pw2 : Nat} {Q : Bool → SortSt → Prop} (hk : kindOf st = oneType') (hf : failedOf st = none) (hH : ∀ p ∈ (arrOf st).toList, Has κ p) (hp1 : (pendingOf st)[i]? = some (sa, na, pw)) (hp2 : (pendingOf st)[i + 1]? = some (sb, nb, pw2)) (hsb : sb = sa + na) (hna : 1 ≤ na) (hnb : 1 ≤ nb) (hsz : sb + nb ≤ (arrOf st).size)
    (s1 : (seg (arrOf st).toList sa sb).Pairwise (le κ)) (s2 : (seg (arrOf st).toList sb (sb + nb)).Pairwise (le κ))
    (q : ∀ st' R, kindOf st' = oneType' → failedOf st' = none → pendingOf st' = ((pendingOf st).setIfInBounds i (sa, na + nb, pw)).eraseIdxIfInBounds (i + 1) → (arrOf st').toList = (arrOf st).toList.take sa ++ R ++ (arrOf st).toList.drop (sb + nb) → R.Perm (seg (arrOf st).toList sa (sb + nb)) → R.Pairwise (le κ) → Q true st') : wpS (model prog w) A E s (mergeAt' i) Q st := by
  refine wpS_bind (wpS_get ?_)
  rw [hp1, hp2]
  refine wpS_bind (wp_set ?_)
  subst hsb
  have lz : (arrOf st).toList.length = (arrOf st).size := len_tl _
  have so1 : ∀ i j x y, sa ≤ i → i ≤ j → j < sa + na → (arrOf st)[i]? = some x → (arrOf st)[j]? = some y → le κ x y := fun i j x y h1 h2 h3 hx hy => seg_so s1 h1 h2 h3 (by rw [tl]; exact hx) (by rw [tl]; exact hy)
  have so2 : ∀ i j x y, sa + na ≤ i → i ≤ j → j < sa + na + nb → (arrOf st)[i]? = some x → (arrOf st)[j]? = some y → le κ x y := fun i j x y h1 h2 h3 hx hy => seg_so s2 h1 h2 h3 (by rw [tl]; exact hx) (by rw [tl]; exact hy)
  have sp := seg_split (arrOf st).toList (a := sa) (b := sa + na) (c := sa + na + nb) (by omega) (by omega)
  obtain ⟨y0, hy0⟩ := at_lt (a := arrOf st) (i := sa + na) (by omega)
  refine wpS_bind (wp_elem hy0 (wpS_bind (wp_galR ho hk hH (hH _ (mem_at hy0)) (by show sa + na ≤ (arrOf st).size; omega) (by omega) so1 fun k k1 k2 k3 => ?_)))
  refine wp_ite (fun e => wpS_pure (q _ (seg (arrOf st).toList sa (sa + na + nb)) hk hf rfl (whole _ (by omega)) (List.Perm.refl _) ?_)) (fun e => ?_)
  · have ek : k = na := by have := eq_of_beq e; omega
    rw [sp, List.pairwise_append]
    refine ⟨s1, s2, fun x hx y hy => ?_⟩
    obtain ⟨i1, l1, l2, ex⟩ := seg_mem hx
    obtain ⟨i2, l3, l4, ey⟩ := seg_mem hy
    rw [tl] at ex ey
    exact le_trans (k2 (i1 - sa) x (by omega) (by rw [show sa + (i1 - sa) = i1 by omega]; exact ex)) (so2 _ i2 y0 y (Nat.le_refl _) l3 l4 hy0 ey)
  have nk : ¬ na - k = 0 := fun e' => e (by rw [e']; rfl)
  obtain ⟨xl, hxl⟩ := at_lt (a := arrOf st) (i := sa + k + (na - k) - 1) (by omega)
  refine wpS_bind (wp_elem hxl (wpS_bind (wp_galL ho hk hH (hH _ (mem_at hxl)) (by omega) (by omega) so2 fun c c1 c2 c3 => ?_)))
  have exl : sa + k + (na - k) - 1 = sa + na - 1 := by omega
  rw [exl] at hxl
  refine wp_ite (fun e2 => wpS_pure (q _ (seg (arrOf st).toList sa (sa + na + nb)) hk hf rfl (whole _ (by omega)) (List.Perm.refl _) ?_)) (fun e2 => ?_)
  · have ec : c = 0 := eq_of_beq e2
    rw [sp, List.pairwise_append]
    refine ⟨s1, s2, fun x hx y hy => ?_⟩
    obtain ⟨i1, l1, l2, ex⟩ := seg_mem hx
    obtain ⟨i2, l3, l4, ey⟩ := seg_mem hy
    rw [tl] at ex ey
    exact le_trans (so1 i1 _ x xl l1 (by omega) (by omega) ex hxl) (c3 (i2 - (sa + na)) y (by omega) (by omega) (by rw [show sa + na + (i2 - (sa + na)) = i2 by omega]; exact ey))
  have nc : ¬ c = 0 := fun e' => e2 (by rw [e']; rfl)
  have eA : ((arrOf st).extract (sa + k) (sa + na)).toList = seg (arrOf st).toList (sa + k) (sa + na) := ext2 _ _ _
  have eB : ((arrOf st).extract (sa + na) (sa + na + c)).toList = seg (arrOf st).toList (sa + na) (sa + na + c) := ext2 _ _ _
  have lA : ((arrOf st).extract (sa + k) (sa + na)).size = na - k := by rw [Array.size_extract]; omega
  have lB : ((arrOf st).extract (sa + na) (sa + na + c)).size = c := by rw [Array.size_extract]; omega
  have memA : ∀ z ∈ ((arrOf st).extract (sa + k) (sa + na)).toList, ∃ i, sa + k ≤ i ∧ i < sa + na ∧ (arrOf st)[i]? = some z := fun z hz => by
    rw [eA] at hz
    obtain ⟨i1, l1, l2, ex⟩ := seg_mem hz
    exact ⟨i1, l1, l2, by rw [← tl]; exact ex⟩
  have memB : ∀ z ∈ ((arrOf st).extract (sa + na) (sa + na + c)).toList, ∃ i, sa + na ≤ i ∧ i < sa + na + c ∧ (arrOf st)[i]? = some z := fun z hz => by
    rw [eB] at hz
    obtain ⟨i1, l1, l2, ex⟩ := seg_mem hz
    exact ⟨i1, l1, l2, by rw [← tl]; exact ex⟩
  have hHa : ∀ p ∈ ((arrOf st).extract (sa + k) (sa + na)).toList, Has κ p := fun p hp => by obtain ⟨_, _, _, ex⟩ := memA p hp; exact hH p (mem_at ex)
  have hHb : ∀ p ∈ ((arrOf st).extract (sa + na) (sa + na + c)).toList, Has κ p := fun p hp => by obtain ⟨_, _, _, ex⟩ := memB p hp; exact hH p (mem_at ex)
  have sA : ((arrOf st).extract (sa + k) (sa + na)).toList.Pairwise (le κ) := by rw [eA]; exact seg_sub s1 (by omega) (Nat.le_refl _) (by omega)
  have sB : ((arrOf st).extract (sa + na) (sa + na + c)).toList.Pairwise (le κ) := by rw [eB]; exact seg_sub s2 (Nat.le_refl _) (by omega) (by omega)
  have h0 : ∀ x, ((arrOf st).extract (sa + na) (sa + na + c))[0]? = some x → ∀ y ∈ ((arrOf st).extract (sa + k) (sa + na)).toList, le κ x y := fun x hx y hy => by
    have ex : x = y0 := by
      rw [← tl, eB] at hx
      have := seg_at (lo := sa + na) (hi := sa + na + c) (Nat.le_refl _) (by omega) (by rw [tl]; exact hy0)
      rw [Nat.sub_self, hx] at this
      exact Option.some.inj this
    obtain ⟨i1, l1, l2, ey⟩ := memA y hy
    rw [ex]
    exact k3 (i1 - sa) y (by omega) (by omega) (by rw [show sa + (i1 - sa) = i1 by omega]; exact ey)
  have hl : ∀ x, ((arrOf st).extract (sa + k) (sa + na))[((arrOf st).extract (sa + k) (sa + na)).size - 1]? = some x → ∀ y ∈ ((arrOf st).extract (sa + na) (sa + na + c)).toList, le κ y x := fun x hx y hy => by
    have ex : x = xl := by
      rw [← tl, eA, lA] at hx
      have := seg_at (lo := sa + k) (hi := sa + na) (i := sa + na - 1) (by omega) (by omega) (by rw [tl]; exact hxl)
      rw [show sa + na - 1 - (sa + k) = na - k - 1 by omega, hx] at this
      exact Option.some.inj this
    obtain ⟨i1, l1, l2, ey⟩ := memB y hy
    rw [ex]
    exact c2 (i1 - (sa + na)) y (by omega) (by rw [show sa + na + (i1 - (sa + na)) = i1 by omega]; exact ey)
  have eas : sa + k + (na - k) = sa + na := by omega
  have fin : ∀ (r : Array Keyed), Fin3 κ ((arrOf st).extract (sa + k) (sa + na)) ((arrOf st).extract (sa + na) (sa + na + c)) r → ∃ R : List Keyed, (List.foldl (fun a (x : Keyed × Nat) => match x with | (p, j) => a.setIfInBounds (sa + k + j) p) (arrOf st) r.toList.zipIdx).toList = (arrOf st).toList.take sa ++ R ++ (arrOf st).toList.drop (sa + na + nb) ∧ R.Perm (seg (arrOf st).toList sa (sa + na + nb)) ∧ R.Pairwise (le κ) := fun r hr => by
    obtain ⟨pr, sr⟩ := hr
    rw [eA, eB] at pr
    have lr : r.toList.length = (na - k) + c := by
      have h1 := pr.length_eq
      have h2 := congrArg List.length eA
      have h3 := congrArg List.length eB
      rw [len_tl, lA] at h2
      rw [len_tl, lB] at h3
      rw [List.length_append] at h1
      omega
    refine ⟨seg (arrOf st).toList sa (sa + k) ++ r.toList ++ seg (arrOf st).toList (sa + na + c) (sa + na + nb), ?_, ?_, ?_⟩
    · rw [write_seg r.toList 0 (sa + k) (arrOf st) (by omega), lr, show sa + k + 0 + ((na - k) + c) = sa + na + c by omega, Nat.add_zero]
      have t1 : (arrOf st).toList.take (sa + k) = (arrOf st).toList.take sa ++ seg (arrOf st).toList sa (sa + k) := by
        unfold seg
        rw [← List.take_add, show sa + (sa + k - sa) = sa + k by omega]
      have t2 : (arrOf st).toList.drop (sa + na + c) = seg (arrOf st).toList (sa + na + c) (sa + na + nb) ++ (arrOf st).toList.drop (sa + na + nb) := by
        unfold seg
        rw [show (arrOf st).toList.drop (sa + na + nb) = ((arrOf st).toList.drop (sa + na + c)).drop (sa + na + nb - (sa + na + c)) by rw [List.drop_drop, show sa + na + c + (sa + na + nb - (sa + na + c)) = sa + na + nb by omega], List.take_append_drop]
      rw [t1, t2]
      simp
    · rw [sp, seg_split _ (a := sa) (b := sa + k) (c := sa + na) (by omega) (by omega), seg_split _ (a := sa + na) (b := sa + na + c) (c := sa + na + nb) (by omega) (by omega)]
      have := (pr.append_left (seg (arrOf st).toList sa (sa + k))).append_right (seg (arrOf st).toList (sa + na + c) (sa + na + nb))
      simpa using this
    · have inR : ∀ z ∈ r.toList, (∃ i, sa + k ≤ i ∧ i < sa + na ∧ (arrOf st)[i]? = some z) ∨ ∃ i, sa + na ≤ i ∧ i < sa + na + c ∧ (arrOf st)[i]? = some z := fun z hz => by
        rcases List.mem_append.mp (pr.mem_iff.mp hz) with h | h
        · exact .inl (memA z (by rw [eA]; exact h))
        · exact .inr (memB z (by rw [eB]; exact h))
      have lo : ∀ x ∈ seg (arrOf st).toList sa (sa + k), ∀ i y, sa + na ≤ i → i < sa + na + nb → (arrOf st)[i]? = some y → le κ x y := fun x hx i y l1 l2 ey => by
        obtain ⟨i1, l3, l4, ex⟩ := seg_mem hx
        rw [tl] at ex
        exact le_trans (k2 (i1 - sa) x (by omega) (by rw [show sa + (i1 - sa) = i1 by omega]; exact ex)) (so2 _ i y0 y (Nat.le_refl _) l1 l2 hy0 ey)
      rw [List.pairwise_append, List.pairwise_append]
      refine ⟨⟨seg_sub s1 (Nat.le_refl _) (by omega) (by omega), sr, fun x hx y hy => ?_⟩, seg_sub s2 (by omega) (Nat.le_refl _) (by omega), fun x hx y hy => ?_⟩
      · rcases inR y hy with ⟨i2, l1, l2, ey⟩ | ⟨i2, l1, l2, ey⟩
        · obtain ⟨i1, l3, l4, ex⟩ := seg_mem hx
          rw [tl] at ex
          exact so1 i1 i2 x y l3 (by omega) l2 ex ey
        · exact lo x hx i2 y l1 (by omega) ey
      · obtain ⟨i2, l1, l2, ey⟩ := seg_mem hy
        rw [tl] at ey
        rcases List.mem_append.mp hx with h | h
        · exact lo x h i2 y (by omega) l2 ey
        · rcases inR x h with ⟨i1, l3, l4, ex⟩ | ⟨i1, l3, l4, ex⟩
          · exact le_trans (so1 i1 _ x xl (by omega) (by omega) (by omega) ex hxl) (c3 (i2 - (sa + na)) y (by omega) (by omega) (by rw [show sa + na + (i2 - (sa + na)) = i2 by omega]; exact ey))
          · exact so2 i1 i2 x y l3 (by omega) l2 ex ey
  refine wp_ite (fun _ => wpS_bind (wp_mlo ho hk hHa hHb sA sB (by rw [lA]; omega) (by rw [lB]; omega) h0 hl fun r st' g hr => ?_)) (fun _ => wpS_bind (wp_mhi ho hk hHa hHb sA sB (by rw [lA]; omega) (by rw [lB]; omega) h0 hl fun r st' g hr => ?_))
  all_goals
    refine wpS_bind (wpS_modify (wpS_bind (wpS_get ?_)))
    obtain ⟨R, f1, f2, f3⟩ := fin r hr
    have ef : failedOf st' = none := g.fa.trans hf
    have q' := q (SortSt.mk' (kindOf st') (List.foldl (fun a (x : Keyed × Nat) => match x with | (p, j) => a.setIfInBounds (sa + k + j) p) (arrOf st') r.toList.zipIdx) (pendingOf st') (gallopOf st') (failedOf st')) R (g.ki.trans hk) ef g.pe (by show (List.foldl _ (arrOf st') _).toList = _; rw [g.ar]; exact f1) f2 f3
    refine wpS_pure ?_
    show Q (failedOf st').isNone _
    rw [ef]
    exact q'


end
end TS

namespace TS
section
open PySem PyProof.Rows
variable {κ : KeyKind} {prog : Program} {w : World} {A : Around} {E : Value → Shared → Prop} {s : Shared}
structure B (st0 st : SortSt) (lo : Nat) : Prop where
  ki : kindOf st = oneType'
  fa : failedOf st = none
  pe : pendingOf st = pendingOf st0
  pm : (arrOf st).Perm (arrOf st0)
  be : ∀ k, k < lo → (arrOf st)[k]? = (arrOf st0)[k]?
theorem B.sz {st0 st : SortSt} {lo : Nat} (h : B st0 st lo) : (arrOf st).size = (arrOf st0).size := h.pm.size_eq
theorem B.has {st0 st : SortSt} {lo : Nat} (h : B st0 st lo) (hH : ∀ p ∈ (arrOf st0).toList, Has κ p) : ∀ p ∈ (arrOf st).toList, Has κ p := fun p hp => hH p ((Array.perm_iff_toList_perm.mp h.pm).mem_iff.mp hp)
def SK (κ : KeyKind) (a : Array Keyed) (lo hi : Nat) : Prop := ∀ i j, lo ≤ i → i ≤ j → j < hi → κ.kle (KK κ a i) (KK κ a j)
theorem wp_ltAt (ho : κ.OneLt) {st0 st : SortSt} {lo i j : Nat} {Q : Option Bool → SortSt → Prop} (hb : B st0 st lo) (hH : ∀ p ∈ (arrOf st0).toList, Has κ p) (hi : i < (arrOf st0).size) (hj : j < (arrOf st0).size) (q : Q (some (κ.blt (KK κ (arrOf st) i) (KK κ (arrOf st) j))) st) : wpS (model prog w) A E s (ltAt' i j) Q st := by
  obtain ⟨x, hx⟩ := at_lt (a := arrOf st) (i := i) (by rw [hb.sz]; exact hi)
  obtain ⟨y, hy⟩ := at_lt (a := arrOf st) (i := j) (by rw [hb.sz]; exact hj)
  obtain ⟨a, ha⟩ := hb.has hH x (mem_at hx)
  obtain ⟨b, hb'⟩ := hb.has hH y (mem_at hy)
  refine wpS_ltAtK ho hb.ki hx hy ha hb' ?_
  have e1 : KK κ (arrOf st) i = a := by rw [KK_at hx]; unfold ky; rw [ha]; rfl
  have e2 : KK κ (arrOf st) j = b := by rw [KK_at hy]; unfold ky; rw [hb']; rfl
  rw [e1, e2] at q
  exact q
theorem wp_move {st : SortSt} {src dst : Nat} {Q : Unit → SortSt → Prop} (q : Q () (setArr st (bubble (arrOf st) src (src - dst)))) : wpS (model prog w) A E s (moveDown' src dst) Q st := by
  rw [moveDown'_eq]
  exact wpS_modify q
abbrev BI := Option Bool × Nat × Nat
def bi (κ : KeyKind) (st : SortSt) (lo k i : Nat) (c : BI) (st' : SortSt) : Prop := st = st' ∧ c.1 = none ∧ c.2.1 ≤ c.2.2 ∧ c.2.2 ≤ k ∧ c.2.2 - c.2.1 ≤ k - i ∧ (∀ j, j < c.2.1 → κ.kle (KK κ (arrOf st) (lo + j)) (KK κ (arrOf st) (lo + k))) ∧ (∀ j, c.2.2 ≤ j → j < k → κ.kle (KK κ (arrOf st) (lo + k)) (KK κ (arrOf st) (lo + j)))
theorem bub_sorted {a : Array Keyed} {lo k l : Nat} (hs : SK κ a lo (lo + k)) (hl : l ≤ k) (hz : lo + k < a.size) (h1 : ∀ j, j < l → κ.kle (KK κ a (lo + j)) (KK κ a (lo + k))) (h2 : ∀ j, l ≤ j → j < k → κ.kle (KK κ a (lo + k)) (KK κ a (lo + j))) : SK κ (bubble a (lo + k) (lo + k - (lo + l))) lo (lo + (k + 1)) := by
  intro i j hi hij hj
  rw [KK_bubble hz (by omega), KK_bubble hz (by omega)]
  rw [show lo + k - (lo + k - (lo + l)) = lo + l by omega]
  obtain ⟨i, rfl⟩ : ∃ n, i = lo + n := ⟨i - lo, by omega⟩
  obtain ⟨j, rfl⟩ : ∃ n, j = lo + n := ⟨j - lo, by omega⟩
  by_cases e1 : lo + i = lo + l
  · rw [if_pos e1]
    by_cases e2 : lo + j = lo + l
    · rw [if_pos e2]; exact KeyOrd.kle_refl _
    · rw [if_neg e2, if_pos (by omega), show lo + j - 1 = lo + (j - 1) by omega]
      exact h2 (j - 1) (by omega) (by omega)
  · rw [if_neg e1]
    by_cases e3 : lo + l < lo + i ∧ lo + i ≤ lo + k
    · rw [if_pos e3, if_neg (by omega), if_pos (by omega)]
      exact hs _ _ (by omega) (by omega) (by omega)
    · rw [if_neg e3]
      by_cases e2 : lo + j = lo + l
      · rw [if_pos e2]; exact h1 i (by omega)
      · rw [if_neg e2]
        by_cases e4 : lo + l < lo + j ∧ lo + j ≤ lo + k
        · rw [if_pos e4]; exact hs _ _ (by omega) (by omega) (by omega)
        · rw [if_neg e4]; exact hs _ _ (by omega) (by omega) (by omega)
theorem wp_bsort (ho : κ.OneLt) {st0 st : SortSt} {lo n ok : Nat} {Q : Bool → SortSt → Prop} (hb : B st0 st lo) (hH : ∀ p ∈ (arrOf st0).toList, Has κ p) (hn : lo + n ≤ (arrOf st0).size) (h1 : 1 ≤ ok) (h2 : ok ≤ n) (hs : SK κ (arrOf st) lo (lo + ok))
    (q : ∀ st', B st0 st' lo → SK κ (arrOf st') lo (lo + n) → Q true st') : wpS (model prog w) A E s (binarySort' lo n ok) Q st := by
  rw [binarySort'_eq]
  refine wp_seq (Q1 := fun c st' => c.1 = none ∧ B st0 st' lo ∧ SK κ (arrOf st') lo (lo + n)) (wpS_forRange (fun k c st' => c.1 = none ∧ B st0 st' lo ∧ SK κ (arrOf st') lo (lo + k)) ?_ ?_ ⟨rfl, hb, by rw [Nat.max_eq_left h1]; exact hs⟩) ?_
  · rintro k ⟨o, _⟩ st1 hk1 hk2 ⟨e1, b1, s1⟩
    have h0 : lo + k < (arrOf st0).size := by omega
    refine wp_seq (Q1 := fun c st' => st1 = st' ∧ c.1 = none ∧ c.2.1 ≤ k ∧ (∀ j, j < c.2.1 → κ.kle (KK κ (arrOf st1) (lo + j)) (KK κ (arrOf st1) (lo + k))) ∧ (∀ j, c.2.1 ≤ j → j < k → κ.kle (KK κ (arrOf st1) (lo + k)) (KK κ (arrOf st1) (lo + j)))) (wpS_forRange (bi κ st1 lo k) ?_ ?_ ⟨rfl, rfl, Nat.zero_le _, Nat.le_refl _, Nat.le_refl _, (fun j hj => absurd hj (Nat.not_lt_zero _)), fun j h1 h2 => absurd h2 (by have : k ≤ j := h1; omega)⟩) ?_
    · rintro i ⟨o, l, r⟩ st2 _ hi ⟨e2, e3, l1, l2, l3, l4, l5⟩
      dsimp only at e3 l1 l2 l3 l4 l5
      subst e2
      refine wp_ite (fun hg => wpS_pure ⟨rfl, rfl, by show l ≤ k; omega, l4, fun j h1 h2 => l5 j (by have h1' : l ≤ j := h1; have hg' : l ≥ r := hg; omega) h2⟩) (fun hg => ?_)
      have hlr : l < r := by
        have hg' : ¬ l ≥ r := hg
        omega
      refine wpS_bind (wp_ltAt ho b1 hH h0 (show lo + (l + r) / 2 < (arrOf st0).size by omega) ?_)
      refine wp_ite (fun hb => wpS_pure ⟨rfl, rfl, by show l ≤ (l + r) / 2; omega, by show (l + r) / 2 ≤ k; omega, by show (l + r) / 2 - l ≤ k - (i + 1); omega, l4, fun j h1 h2 => ?_⟩) (fun hb => wpS_pure ⟨rfl, rfl, by show (l + r) / 2 + 1 ≤ r; omega, l2, by show r - ((l + r) / 2 + 1) ≤ k - (i + 1); omega, fun j h1 => ?_, l5⟩)
      · have h1' : (l + r) / 2 ≤ j := h1
        exact KeyOrd.kle_trans (lt_le hb) (s1 (lo + (l + r) / 2) (lo + j) (by omega) (by omega) (by omega))
      · have h1' : j < (l + r) / 2 + 1 := h1
        exact KeyOrd.kle_trans (s1 _ _ (by omega) (show lo + j ≤ lo + (l + r) / 2 by omega) (by omega)) (kle_not (by simpa using hb))
    · rintro ⟨o, l, r⟩ st2 ⟨e2, e3, l1, l2, l3, l4, l5⟩
      dsimp only at e3 l1 l2 l3 l4 l5
      exact ⟨e2, e3, by show l ≤ k; omega, l4, fun j h1 h2 => l5 j (by have h1' : l ≤ j := h1; omega) h2⟩
    · rintro ⟨o, l, r⟩ st2 ⟨e2, e3, l1, l4, l5⟩
      dsimp only at e3 l1 l4 l5
      subst e2 e3
      refine wpS_bind (wp_move (wpS_pure ⟨rfl, ⟨b1.ki, b1.fa, b1.pe, (bubble_perm _ _ _).trans b1.pm, fun j hj => ?_⟩, ?_⟩))
      · show (bubble (arrOf st1) (lo + k) (lo + k - (lo + l)))[j]? = _
        rw [getElem?_bubble (by rw [b1.sz]; exact h0) _ (by omega), if_neg (by omega), if_neg (by omega)]
        exact b1.be j hj
      · exact bub_sorted s1 l1 (by rw [b1.sz]; exact h0) l4 l5
  · rintro ⟨o, _⟩ st1 ⟨e1, b1, s1⟩
    rw [show max (max ok 1) n = n by omega] at s1
    exact ⟨e1, b1, s1⟩
  · rintro ⟨o, _⟩ st1 ⟨e1, b1, s1⟩
    dsimp only at e1
    subst e1
    exact wpS_pure (q st1 b1 s1)


end
end TS

namespace TS
section
open PySem PyProof.Rows
variable {κ : KeyKind} {prog : Program} {w : World} {A : Around} {E : Value → Shared → Prop} {s : Shared}
def NI (κ : KeyKind) (a : Array Keyed) (lo hi : Nat) : Prop := ∀ i j, lo ≤ i → i ≤ j → j < hi → κ.kle (KK κ a j) (KK κ a i)
theorem B.rev {st0 st : SortSt} {lo i j : Nat} (h : B st0 st lo) (hi : lo ≤ i) (hj : j ≤ (arrOf st0).size) : B st0 (setArr st (mirror (arrOf st) i j ((j - i) / 2))) lo :=
  ⟨h.ki, h.fa, h.pe, (mirror_perm _ _ _ _).trans h.pm, fun k hk => by
    show (mirror (arrOf st) i j ((j - i) / 2))[k]? = _
    rw [getElem?_mirror_all (by rw [h.sz]; exact hj), if_neg (by omega)]
    exact h.be k hk⟩
theorem wp_rev {st0 st : SortSt} {lo i j : Nat} {Q : Unit → SortSt → Prop} (h : B st0 st lo) (hi : lo ≤ i) (hj : j ≤ (arrOf st0).size) (q : ∀ st', B st0 st' lo → (∀ k, KK κ (arrOf st') k = if i ≤ k ∧ k < j then KK κ (arrOf st) (i + j - 1 - k) else KK κ (arrOf st) k) → Q () st') : wpS (model prog w) A E s (reverseSlice' i j) Q st :=
  wpS_reverse (q _ (h.rev hi hj) (fun k => KK_mirror (by rw [h.sz]; exact hj) k))
def asc (κ : KeyKind) (st0 : SortSt) (lo i : Nat) (c : Option (Option Nat) × Nat) (st : SortSt) : Prop := c = (none, i) ∧ B st0 st lo ∧ SK κ (arrOf st) lo (lo + i)
theorem SK.step {a : Array Keyed} {lo n : Nat} (h : SK κ a lo (lo + n)) (hn : 1 ≤ n) (hb : κ.blt (KK κ a (lo + n)) (KK κ a (lo + n - 1)) = false) : SK κ a lo (lo + (n + 1)) := fun i j h1 h2 h3 => by
  by_cases e : j = lo + n
  · subst e
    by_cases e2 : i = lo + n
    · rw [e2]; exact KeyOrd.kle_refl _
    · exact KeyOrd.kle_trans (h i (lo + n - 1) h1 (by omega) (by omega)) (kle_not hb)
  · exact h i j h1 h2 (by omega)
theorem NI.step {a : Array Keyed} {lo n : Nat} (h : NI κ a lo (lo + n)) (hn : 1 ≤ n) (hb : κ.kle (KK κ a (lo + n)) (KK κ a (lo + n - 1))) : NI κ a lo (lo + (n + 1)) := fun i j h1 h2 h3 => by
  by_cases e : j = lo + n
  · subst e
    by_cases e2 : i = lo + n
    · rw [e2]; exact KeyOrd.kle_refl _
    · exact KeyOrd.kle_trans hb (h i (lo + n - 1) h1 (by omega) (by omega))
  · exact h i j h1 h2 (by omega)
def Lk (κ : KeyKind) (a : Array Keyed) (lo n neq : Nat) : Prop := neq + 1 ≤ n ∧ ∀ j, lo + n - (neq + 1) ≤ j → j < lo + n → KK κ a j = KK κ a (lo + n - 1)
def dsc (κ : KeyKind) (st0 : SortSt) (lo i : Nat) (c : Option (Option Nat) × Nat × Nat) (st : SortSt) : Prop := c.1 = none ∧ c.2.1 = i ∧ B st0 st lo ∧ NI κ (arrOf st) lo (lo + i) ∧ Lk κ (arrOf st) lo i c.2.2
theorem rev_same {a a' : Array Keyed} {lo n neq : Nat} (h : Lk κ a lo n neq) (hk : ∀ k, KK κ a' k = if lo + n - (neq + 1) ≤ k ∧ k < lo + n then KK κ a (lo + n - (neq + 1) + (lo + n) - 1 - k) else KK κ a k) : ∀ k, KK κ a' k = KK κ a k := fun k => by
  rw [hk]
  by_cases e : lo + n - (neq + 1) ≤ k ∧ k < lo + n
  · have := h.1
    rw [if_pos e, h.2 _ (by omega) (by omega), h.2 k e.1 e.2]
  · rw [if_neg e]
theorem wp_countRun (ho : κ.OneLt) {st0 st : SortSt} {lo nrem : Nat} {Q : Option Nat → SortSt → Prop} (hb : B st0 st lo) (hH : ∀ p ∈ (arrOf st0).toList, Has κ p) (hn : lo + nrem ≤ (arrOf st0).size) (h1 : 1 ≤ nrem)
    (q : ∀ m st', B st0 st' lo → 1 ≤ m → m ≤ nrem → SK κ (arrOf st') lo (lo + m) → Q (some m) st') : wpS (model prog w) A E s (countRun' lo nrem) Q st := by
  have desc : ∀ (n : Nat) (st1 : SortSt), 1 ≤ n → n < nrem → B st0 st1 lo → NI κ (arrOf st1) lo (lo + (n + 1)) → dsc κ st0 lo (n + 1) (none, n + 1, 0) st1 := fun n st1 h1 h2 b1 s1 => ⟨rfl, rfl, b1, s1, by show 0 + 1 ≤ n + 1; omega, fun j h3 h4 => by have h3' : lo + (n + 1) - (0 + 1) ≤ j := h3; rw [show j = lo + (n + 1) - 1 by omega]⟩
  refine wp_seq (Q1 := fun c st' => ∃ n, c = (none, n) ∧ B st0 st' lo ∧ 1 ≤ n ∧ n ≤ nrem ∧ SK κ (arrOf st') lo (lo + n) ∧ (n = nrem ∨ (n < nrem ∧ κ.blt (KK κ (arrOf st') (lo + n)) (KK κ (arrOf st') (lo + n - 1)) = true))) (wpS_forRange (asc κ st0 lo) ?_ ?_ ⟨rfl, hb, fun i j h1 h2 h3 => by rw [show i = j by omega]; exact KeyOrd.kle_refl _⟩) ?_
  · rintro i c st1 hi1 hi2 ⟨rfl, b1, s1⟩
    refine wpS_bind (wp_ltAt ho b1 hH (show lo + i < (arrOf st0).size by omega) (show lo + i - 1 < (arrOf st0).size by omega) ?_)
    exact wp_ite (fun h => wpS_pure ⟨i, rfl, b1, hi1, by omega, s1, .inr ⟨hi2, h⟩⟩) (fun h => wpS_pure ⟨rfl, b1, s1.step hi1 (by simpa using h)⟩)
  · rintro c st1 ⟨rfl, b1, s1⟩
    rw [Nat.max_eq_right h1] at s1 ⊢
    exact ⟨nrem, rfl, b1, h1, Nat.le_refl _, s1, .inl rfl⟩
  · rintro c st1 ⟨n, rfl, b1, n1, n2, s1, hd⟩
    refine wp_ite (fun e => wpS_pure (q n st1 b1 n1 n2 s1)) (fun e => ?_)
    have hlt : n < nrem := by
      rcases hd with e' | ⟨h, _⟩
      · exact absurd (by show (n == nrem) = true; rw [e']; exact beq_self_eq_true _) e
      · exact h
    have hbl := (hd.resolve_left (by omega)).2
    refine wp_ite (fun e2 => wpS_bind (wp_ltAt ho b1 hH (show lo < (arrOf st0).size by omega) (show lo + n - 1 < (arrOf st0).size by omega) ?_)) (fun e2 => ?_)
    refine wp_ite (fun _ => wpS_pure (q n st1 b1 n1 n2 s1)) (fun hr => ?_)
    refine wpS_bind (wp_rev (κ := κ) b1 (Nat.le_refl _) (by show lo + n ≤ (arrOf st0).size; omega) fun st2 b2 kk => ?_)
    have kk' : ∀ k, KK κ (arrOf st2) k = if lo ≤ k ∧ k < lo + n then KK κ (arrOf st1) (lo + (lo + n) - 1 - k) else KK κ (arrOf st1) k := kk
    have ni : NI κ (arrOf st2) lo (lo + (n + 1)) := by
      have hr' : κ.kle (KK κ (arrOf st1) (lo + n - 1)) (KK κ (arrOf st1) lo) := kle_not (by simpa using hr)
      have all : ∀ i j, lo ≤ i → i < lo + n → lo ≤ j → j < lo + n → κ.kle (KK κ (arrOf st1) i) (KK κ (arrOf st1) j) := fun i j h1 h2 h3 h4 => KeyOrd.kle_trans (s1 i (lo + n - 1) h1 (by omega) (by omega)) (KeyOrd.kle_trans hr' (s1 lo j (Nat.le_refl _) h3 h4))
      intro i j h1 h2 h3
      rw [kk', kk']
      by_cases e3 : j = lo + n
      · subst e3
        rw [if_neg (by omega)]
        by_cases e4 : i = lo + n
        · rw [e4, if_neg (by omega)]; exact KeyOrd.kle_refl _
        · rw [if_pos (by omega)]
          exact KeyOrd.kle_trans (lt_le hbl) (all _ _ (by omega) (by omega) (by omega) (by omega))
      · rw [if_pos (by omega), if_pos (by omega)]
        exact all _ _ (by omega) (by omega) (by omega) (by omega)
    rotate_left
    have en : n = 1 := by
      have e2' : ¬ n > 1 := e2
      omega
    obtain ⟨st2, hst, b2, ni⟩ : ∃ st2, st2 = st1 ∧ B st0 st2 lo ∧ NI κ (arrOf st2) lo (lo + (n + 1)) := ⟨st1, rfl, b1, NI.step (fun i j h1 h2 h3 => by rw [show i = j by omega]; exact KeyOrd.kle_refl _) n1 (lt_le hbl)⟩
    rw [← hst]
    all_goals
      refine wpS_bind (wpS_lift (wpAny_rule ⟨rfl, ?_⟩))
      refine wp_seq (Q1 := fun c st' => ∃ m neq, c = (none, m, neq) ∧ B st0 st' lo ∧ 1 ≤ m ∧ m ≤ nrem ∧ NI κ (arrOf st') lo (lo + m) ∧ Lk κ (arrOf st') lo m neq) (wpS_forRange (dsc κ st0 lo) ?_ ?_ (desc n st2 n1 hlt b2 ni)) ?_
      · rintro i ⟨o, m, neq⟩ st3 hi1 hi2 ⟨e3, e4, b3, ni3, lk3⟩
        dsimp only at e3 e4 hi1 lk3
        subst e3 e4
        have l1 := lk3.1
        refine wpS_bind (wp_ltAt ho b3 hH (show lo + m < (arrOf st0).size by omega) (show lo + m - 1 < (arrOf st0).size by omega) ?_)
        have one : ∀ a : Array Keyed, Lk κ a lo (m + 1) 0 := fun a => ⟨by omega, fun j h1 h2 => by rw [show j = lo + (m + 1) - 1 by omega]⟩
        refine wp_ite (fun hs => ?_) (fun hs => wpS_bind (wp_ltAt ho b3 hH (show lo + m - 1 < (arrOf st0).size by omega) (show lo + m < (arrOf st0).size by omega) ?_))
        · refine wp_ite (fun _ => wpS_bind (wp_rev (κ := κ) b3 (show lo ≤ lo + m - (neq + 1) by omega) (show lo + m ≤ (arrOf st0).size by omega) fun st4 b4 kk => wpS_pure ⟨rfl, rfl, b4, ?_, one _⟩)) (fun _ => wpS_pure ⟨rfl, rfl, b3, ni3.step (by omega) (lt_le hs), one _⟩)
          have sm := rev_same lk3 kk
          intro i j h1 h2 h3
          rw [sm, sm]
          exact ni3.step (by omega) (lt_le hs) i j h1 h2 h3
        · refine wp_ite (fun _ => wpS_pure ⟨m, neq, rfl, b3, by omega, by omega, ni3, lk3⟩) (fun hl => wpS_pure ⟨rfl, rfl, b3, ni3.step (by omega) (kle_not (by simpa using hl)), ?_⟩)
          have eq : KK κ (arrOf st3) (lo + m) = KK κ (arrOf st3) (lo + m - 1) := κ.total _ _ (by simpa using hs) (by simpa using hl)
          refine ⟨by show neq + 1 + 1 ≤ m + 1; omega, fun j h1 h2 => ?_⟩
          have h1' : lo + (m + 1) - (neq + 1 + 1) ≤ j := h1
          rw [show lo + (m + 1) - 1 = lo + m by omega]
          by_cases ej : j = lo + m
          · rw [ej]
          · rw [lk3.2 j (by omega) (by omega), eq]
      · rintro ⟨o, m, neq⟩ st3 ⟨e3, e4, b3, ni3, lk3⟩
        dsimp only at e3 e4 lk3
        rw [show max (n + 1) nrem = nrem by omega] at e4 ni3 lk3
        subst e3 e4
        exact ⟨m, neq, rfl, b3, h1, Nat.le_refl _, ni3, lk3⟩
      · rintro c st3 ⟨m, neq, rfl, b3, m1, m2, ni3, lk3⟩
        have l1 := lk3.1
        refine wp_ite (fun _ => wpS_bind (wp_rev (κ := κ) b3 (show lo ≤ lo + m - (neq + 1) by omega) (show lo + m ≤ (arrOf st0).size by omega) fun st4 b4 kk => ?_)) (fun _ => ?_)
        have ni4 : NI κ (arrOf st4) lo (lo + m) := by
          have sm := rev_same lk3 kk
          intro i j h1 h2 h3
          rw [sm, sm]
          exact ni3 i j h1 h2 h3
        rotate_left
        obtain ⟨st4, hst4, b4, ni4⟩ : ∃ st4, st4 = st3 ∧ B st0 st4 lo ∧ NI κ (arrOf st4) lo (lo + m) := ⟨st3, rfl, b3, ni3⟩
        rw [← hst4]
        all_goals
          refine wpS_bind (wp_rev (κ := κ) b4 (Nat.le_refl _) (show lo + m ≤ (arrOf st0).size by omega) fun st5 b5 kk5 => ?_)
          have kk6 : ∀ k, KK κ (arrOf st5) k = if lo ≤ k ∧ k < lo + m then KK κ (arrOf st4) (lo + (lo + m) - 1 - k) else KK κ (arrOf st4) k := kk5
          have s5 : SK κ (arrOf st5) lo (lo + m) := fun i j h1 h2 h3 => by
            rw [kk6, kk6, if_pos (by omega), if_pos (by omega)]
            exact ni4 _ _ (by omega) (by omega) (by omega)
          refine wp_seq (Q1 := fun c st' => ∃ n', c = (none, n') ∧ B st0 st' lo ∧ 1 ≤ n' ∧ n' ≤ nrem ∧ SK κ (arrOf st') lo (lo + n')) (wpS_forRange (asc κ st0 lo) ?_ ?_ ⟨rfl, b5, s5⟩) ?_
          · rintro i c st6 hi1 hi2 ⟨rfl, b6, s6⟩
            have hi1' : m ≤ i := hi1
            refine wpS_bind (wp_ltAt ho b6 hH (show lo + i < (arrOf st0).size by omega) (show lo + i - 1 < (arrOf st0).size by omega) ?_)
            exact wp_ite (fun h => wpS_pure ⟨i, rfl, b6, by omega, by omega, s6⟩) (fun h => wpS_pure ⟨rfl, b6, s6.step (by omega) (by simpa using h)⟩)
          · rintro c st6 ⟨rfl, b6, s6⟩
            have em : max m nrem = nrem := by omega
            refine ⟨nrem, ?_, b6, h1, Nat.le_refl _, ?_⟩
            · show (none, max m nrem) = _
              rw [em]
            · have : SK κ (arrOf st6) lo (lo + max m nrem) := s6
              rw [em] at this
              exact this
          · rintro c st6 ⟨n', rfl, b6, h3, h4, s6⟩
            exact wpS_pure (q n' st6 b6 h3 h4 s6)


end
end TS

namespace TS
section
open PySem PyProof.Rows
variable {κ : KeyKind} {prog : Program} {w : World} {A : Around} {E : Value → Shared → Prop} {s : Shared}
theorem KK_eq {a a' : Array Keyed} {k : Nat} (h : a'[k]? = a[k]?) : KK κ a' k = KK κ a k := by unfold KK; rw [h]
theorem sk_seg {a : Array Keyed} {lo hi : Nat} (h : SK κ a lo hi) : (seg a.toList lo hi).Pairwise (le κ) := by
  rw [List.pairwise_iff_getElem]
  intro i j h1 h2 h3
  have e1 : (seg a.toList lo hi)[i]? = some (seg a.toList lo hi)[i] := List.getElem?_eq_getElem _
  have e2 : (seg a.toList lo hi)[j]? = some (seg a.toList lo hi)[j] := List.getElem?_eq_getElem _
  generalize (seg a.toList lo hi)[i] = x at *
  generalize (seg a.toList lo hi)[j] = y at *
  unfold seg at e1 e2
  rw [List.getElem?_take] at e1 e2
  split at e1
  · split at e2
    · rw [List.getElem?_drop, tl] at e1 e2
      have := h (lo + i) (lo + j) (by omega) (by omega) (by omega)
      rw [KK_at e1, KK_at e2] at this
      exact this
    · cases e2
  · cases e1
def Runs (κ : KeyKind) (a : Array Keyed) : Nat → List (Nat × Nat × Nat) → Nat → Prop
  | t, [], e => t = e
  | t, x :: r, e => x.1 = t ∧ 1 ≤ x.2.1 ∧ SK κ a t (t + x.2.1) ∧ Runs κ a (t + x.2.1) r e
theorem Runs.le {a : Array Keyed} : ∀ {t e : Nat} {p : List (Nat × Nat × Nat)}, Runs κ a t p e → t + p.length ≤ e
  | t, e, [], h => by have h' : t = e := h; simp [h']
  | t, e, x :: r, h => by
    have := Runs.le h.2.2.2
    have := h.2.1
    rw [List.length_cons]
    omega
theorem Runs.app {a : Array Keyed} : ∀ {t e : Nat} {p q : List (Nat × Nat × Nat)}, Runs κ a t (p ++ q) e ↔ ∃ m, Runs κ a t p m ∧ Runs κ a m q e
  | t, e, [], q => by
    constructor
    · intro h; exact ⟨t, rfl, h⟩
    · rintro ⟨m, h1, h2⟩
      have h1' : t = m := h1
      rw [h1']; exact h2
  | t, e, x :: p, q => by
    constructor
    · rintro ⟨h1, h2, h3, h4⟩
      obtain ⟨m, h5, h6⟩ := Runs.app.mp h4
      exact ⟨m, ⟨h1, h2, h3, h5⟩, h6⟩
    · rintro ⟨m, ⟨h1, h2, h3, h4⟩, h5⟩
      exact ⟨h1, h2, h3, Runs.app.mpr ⟨m, h4, h5⟩⟩
theorem SK.congr {a a' : Array Keyed} {lo hi : Nat} (h : SK κ a lo hi) (e : ∀ k, lo ≤ k → k < hi → a'[k]? = a[k]?) : SK κ a' lo hi := fun i j h1 h2 h3 => by
  rw [KK_eq (e i h1 (by omega)), KK_eq (e j (by omega) h3)]
  exact h i j h1 h2 h3
theorem Runs.congr {a a' : Array Keyed} : ∀ {t e : Nat} {p : List (Nat × Nat × Nat)}, Runs κ a t p e → (∀ k, t ≤ k → k < e → a'[k]? = a[k]?) → Runs κ a' t p e
  | t, e, [], h, _ => h
  | t, e, x :: r, ⟨h1, h2, h3, h4⟩, hk => by
    have := Runs.le h4
    exact ⟨h1, h2, h3.congr fun k k1 k2 => hk k k1 (by omega), Runs.congr h4 fun k k1 k2 => hk k (by omega) k2⟩
structure S0 (κ : KeyKind) (a0 : Array Keyed) (st : SortSt) : Prop where
  ki : kindOf st = oneType'
  fa : failedOf st = none
  pm : (arrOf st).Perm a0
theorem S0.sz {a0 : Array Keyed} {st : SortSt} (h : S0 κ a0 st) : (arrOf st).size = a0.size := h.pm.size_eq
theorem S0.has {a0 : Array Keyed} {st : SortSt} (h : S0 κ a0 st) (hH : ∀ p ∈ a0.toList, Has κ p) : ∀ p ∈ (arrOf st).toList, Has κ p := fun p hp => hH p ((Array.perm_iff_toList_perm.mp h.pm).mem_iff.mp hp)
theorem wp_mergeRuns (ho : κ.OneLt) {a0 : Array Keyed} {st : SortSt} {i e : Nat} {Q : Bool → SortSt → Prop} (h : S0 κ a0 st) (hH : ∀ p ∈ a0.toList, Has κ p) (hr : Runs κ (arrOf st) 0 (pendingOf st).toList e) (he : e ≤ a0.size) (hi : i + 1 < (pendingOf st).size)
    (q : ∀ st', S0 κ a0 st' → Runs κ (arrOf st') 0 (pendingOf st').toList e → (pendingOf st').size + 1 = (pendingOf st).size → (∀ k, e ≤ k → (arrOf st')[k]? = (arrOf st)[k]?) → Q true st') : wpS (model prog w) A E s (mergeAt' i) Q st := by
  obtain ⟨p, ⟨sa, na, pw⟩, ⟨sb, nb, pw2⟩, r, hp, hl⟩ : ∃ p x y r, (pendingOf st).toList = p ++ x :: y :: r ∧ p.length = i := by
    have h1 : i < (pendingOf st).toList.length := by rw [Array.length_toList]; omega
    have h2 : i + 1 < (pendingOf st).toList.length := by rw [Array.length_toList]; omega
    refine ⟨(pendingOf st).toList.take i, (pendingOf st).toList[i], (pendingOf st).toList[i + 1], (pendingOf st).toList.drop (i + 2), ?_, by rw [List.length_take]; omega⟩
    rw [← List.drop_eq_getElem_cons h2, ← List.drop_eq_getElem_cons h1, List.take_append_drop]
  have hr0 := hr
  rw [hp, Runs.app] at hr
  obtain ⟨m, r1, ⟨e1, n1, k1, e2, n2, k2, r3⟩⟩ := hr
  dsimp only at e1 n1 k1 e2 n2 k2 r3
  subst e1
  have le3 := Runs.le r3
  have g1 : (pendingOf st)[i]? = some (sa, na, pw) := by rw [← Array.getElem?_toList, hp, List.getElem?_append_right (by omega), hl, Nat.sub_self]; rfl
  have g2 : (pendingOf st)[i + 1]? = some (sb, nb, pw2) := by rw [← Array.getElem?_toList, hp, List.getElem?_append_right (by omega), hl, show i + 1 - i = 1 by omega]; rfl
  subst e2
  have sz := h.sz
  refine wp_mergeAt ho h.ki h.fa (h.has hH) g1 g2 rfl n1 n2 (by omega) (sk_seg k1) (sk_seg k2) fun st' R f1 f2 f3 f4 f5 f6 => ?_
  have lR : R.length = na + nb := by
    rw [f5.length_eq]
    unfold seg
    rw [List.length_take, List.length_drop, len_tl]
    omega
  have lT : ((arrOf st).toList.take sa).length = sa := by rw [List.length_take, len_tl]; omega
  have out1 : ∀ k, k < sa → (arrOf st')[k]? = (arrOf st)[k]? := fun k hk => by
    rw [← tl, f4, List.append_assoc, List.getElem?_append_left (by omega), List.getElem?_take, if_pos hk, tl]
  have out2 : ∀ k, sa + na + nb ≤ k → (arrOf st')[k]? = (arrOf st)[k]? := fun k hk => by
    rw [← tl, f4, List.getElem?_append_right (by rw [List.length_append, lT, lR]; omega), List.length_append, lT, lR, List.getElem?_drop, tl, show sa + na + nb + (k - (sa + (na + nb))) = k by omega]
  have mid : SK κ (arrOf st') sa (sa + (na + nb)) := fun i j h1 h2 h3 => by
    have get : ∀ k, sa ≤ k → k < sa + (na + nb) → ∃ x, R[k - sa]? = some x ∧ (arrOf st')[k]? = some x := fun k h1 h2 => by
      refine ⟨R[k - sa]'(by omega), List.getElem?_eq_getElem _, ?_⟩
      rw [← tl, f4, List.getElem?_append_left (by rw [List.length_append, lT, lR]; omega), List.getElem?_append_right (by omega), lT]
      exact List.getElem?_eq_getElem _
    obtain ⟨x, x1, x2⟩ := get i h1 (by omega)
    obtain ⟨y, y1, y2⟩ := get j (by omega) h3
    rw [KK_at x2, KK_at y2]
    exact sorted_at f6 (by omega) x1 y1
  have pP : (pendingOf st').toList = p ++ (sa, na + nb, pw) :: r := by
    rw [f3]
    have : ((pendingOf st).setIfInBounds i (sa, na + nb, pw)).toList = p ++ (sa, na + nb, pw) :: (sa + na, nb, pw2) :: r := by
      rw [Array.toList_setIfInBounds, hp, List.set_append_right _ _ (by omega), hl, Nat.sub_self]
      rfl
    rw [Array.toList_eraseIdxIfInBounds, this, List.eraseIdx_append_of_length_le (by omega), hl, show i + 1 - i = 1 by omega]
    rfl
  refine q st' ⟨f1, f2, ?_⟩ ?_ ?_ fun k hk => out2 k (by omega)
  · refine (Array.perm_iff_toList_perm.mpr ?_).trans h.pm
    rw [f4]
    have := (f5.append_left ((arrOf st).toList.take sa)).append_right ((arrOf st).toList.drop (sa + na + nb))
    rw [← whole _ (by omega)] at this
    exact this
  · rw [pP, Runs.app]
    exact ⟨sa, r1.congr fun k _ k2 => out1 k k2, rfl, by show 1 ≤ na + nb; omega, mid, by
      rw [show sa + (na + nb) = sa + na + nb by omega]
      exact r3.congr fun k k1 _ => out2 k k1⟩
  · have h1 := congrArg List.length hp
    have h2 := congrArg List.length pP
    rw [Array.length_toList] at h1 h2
    simp at h1 h2
    omega


end
end TS

namespace TS
section
open PySem PyProof.Rows
variable {κ : KeyKind} {prog : Program} {w : World} {A : Around} {E : Value → Shared → Prop} {s : Shared}
def iv1 (κ : KeyKind) (a0 : Array Keyed) (i : Nat) (c : Option Unit × Nat) (st : SortSt) : Prop := c.1 = none ∧ S0 κ a0 st ∧ Runs κ (arrOf st) 0 (pendingOf st).toList c.2 ∧ c.2 ≤ a0.size ∧ i ≤ c.2
def iv2 (κ : KeyKind) (a0 : Array Keyed) (lo n : Nat) (_ : Nat) (c : Option Unit × Unit) (st : SortSt) : Prop := c.1 = none ∧ S0 κ a0 st ∧ Runs κ (arrOf st) 0 (pendingOf st).toList lo ∧ SK κ (arrOf st) lo (lo + n)
def iv3 (κ : KeyKind) (a0 : Array Keyed) (j : Nat) (c : Option Unit × Unit) (st : SortSt) : Prop := c.1 = none ∧ S0 κ a0 st ∧ Runs κ (arrOf st) 0 (pendingOf st).toList a0.size ∧ (pendingOf st).size + j ≤ a0.size
theorem runs_last {a : Array Keyed} {lo : Nat} {P : Array (Nat × Nat × Nat)} (f : Nat × Nat × Nat → Nat × Nat × Nat) (hf : ∀ x, (f x).1 = x.1 ∧ (f x).2.1 = x.2.1) (h : Runs κ a 0 P.toList lo) : Runs κ a 0 (P.modify (P.size - 1) f).toList lo := by
  have gen : ∀ (l : List (Nat × Nat × Nat)) (t i : Nat), Runs κ a t l lo → Runs κ a t (l.modify i f) lo := by
    intro l
    induction l with
    | nil => intro t i h; rw [List.modify_nil]; exact h
    | cons x l ih =>
      intro t i h
      cases i with
      | zero =>
        show Runs κ a t (f x :: l) lo
        obtain ⟨h1, h2, h3, h4⟩ := h
        have e := hf x
        refine ⟨e.1.trans h1, ?_, ?_, ?_⟩
        · rw [e.2]; exact h2
        · rw [e.2]; exact h3
        · rw [e.2]; exact h4
      | succ i =>
        show Runs κ a t (x :: l.modify i f) lo
        exact ⟨h.1, h.2.1, h.2.2.1, ih _ i h.2.2.2⟩
  rw [Array.toList_modify]
  exact gen _ _ _ h
theorem runs_push {a : Array Keyed} {lo n : Nat} {P : Array (Nat × Nat × Nat)} (h : Runs κ a 0 P.toList lo) (hn : 1 ≤ n) (hs : SK κ a lo (lo + n)) : Runs κ a 0 (P.push (lo, n, 0)).toList (lo + n) := by
  rw [Array.toList_push, Runs.app]
  exact ⟨lo, h, rfl, hn, hs, rfl⟩
theorem wp_sortRuns (ho : κ.OneLt) {st : SortSt} {Q : Unit → SortSt → Prop} (hk : kindOf st = oneType') (hf : failedOf st = none) (hp : pendingOf st = #[]) (hH : ∀ p ∈ (arrOf st).toList, Has κ p) (h2 : 1 ≤ (arrOf st).size)
    (q : ∀ st', (arrOf st').Perm (arrOf st) → failedOf st' = none → SK κ (arrOf st') 0 (arrOf st).size → Q () st') : wpS (model prog w) A E s sortRuns' Q st := by
  rw [sortRuns'_eq]
  refine wpS_bind (wpS_get ?_)
  have r0 : Runs κ (arrOf st) 0 (pendingOf st).toList 0 := by rw [hp]; rfl
  refine wp_seq (Q1 := fun c st' => c.1 = none ∧ S0 κ (arrOf st) st' ∧ Runs κ (arrOf st') 0 (pendingOf st').toList (arrOf st).size) (wpS_forRange (iv1 κ (arrOf st)) ?_ ?_ ⟨rfl, ⟨hk, hf, Array.Perm.refl _⟩, r0, Nat.zero_le _, Nat.le_refl _⟩) ?_
  · rintro i ⟨o, lo⟩ st1 _ hi ⟨e1, b1, r1, l1, l2⟩
    dsimp only at e1 r1 l1 l2
    refine wp_ite (fun hg => wpS_pure ⟨rfl, b1, by have : (arrOf st).size ≤ lo := hg; rw [show (arrOf st).size = lo by omega]; exact r1⟩) (fun hg => ?_)
    have hlt : lo < (arrOf st).size := by
      have : ¬ lo ≥ (arrOf st).size := hg
      omega
    have bb : B st1 st1 lo := ⟨b1.ki, b1.fa, rfl, Array.Perm.refl _, fun _ _ => rfl⟩
    have hH1 := b1.has hH
    have sz1 := b1.sz
    refine wpS_bind (wp_countRun ho bb hH1 (show lo + ((arrOf st).size - lo) ≤ (arrOf st1).size by omega) (show 1 ≤ (arrOf st).size - lo by omega) fun n st2 b2 n1 n2 s2 => ?_)
    refine wp_ite (fun hm => wpS_bind (wpS_lift (wpAny_rule ⟨rfl, ?_⟩))) (fun hm => ?_)
    refine wpS_bind (wp_bsort ho b2 hH1 (show lo + min ((arrOf st).size - lo) _ ≤ (arrOf st1).size by omega) n1 (show n ≤ min ((arrOf st).size - lo) (minRun' (arrOf st).size (arrOf st).size 0) by have n2' : n ≤ (arrOf st).size - lo := n2; omega) s2 fun st4 b4 s4 => ?_)
    refine wp_ite (fun c => absurd c (by simp)) (fun _ => ?_)
    dsimp only
    obtain ⟨m, hmm, m1, m2, s4⟩ : ∃ m, m = min ((arrOf st).size - lo) (minRun' (arrOf st).size (arrOf st).size 0) ∧ 1 ≤ m ∧ lo + m ≤ (arrOf st).size ∧ SK κ (arrOf st4) lo (lo + m) := ⟨_, rfl, by have n2' : n ≤ (arrOf st).size - lo := n2; omega, by omega, s4⟩
    rw [← hmm]
    rotate_left
    dsimp only
    obtain ⟨st4, m, hst, hmm, b4, m1, m2, s4⟩ : ∃ st4 m, st4 = st2 ∧ m = n ∧ B st1 st4 lo ∧ 1 ≤ m ∧ lo + m ≤ (arrOf st).size ∧ SK κ (arrOf st4) lo (lo + m) := ⟨st2, n, rfl, rfl, b2, n1, by have n2' : n ≤ (arrOf st).size - lo := n2; omega, s2⟩
    rw [← hst, ← hmm]
    all_goals
      have S4 : S0 κ (arrOf st) st4 := ⟨b4.ki, b4.fa, b4.pm.trans b1.pm⟩
      have R4 : Runs κ (arrOf st4) 0 (pendingOf st4).toList lo := by rw [b4.pe]; exact r1.congr fun k _ k2 => b4.be k k2
      have fin : ∀ st5, S0 κ (arrOf st) st5 → Runs κ (arrOf st5) 0 (pendingOf st5).toList lo → SK κ (arrOf st5) lo (lo + m) → iv1 κ (arrOf st) (i + 1) (none, lo + m) (setPending st5 ((pendingOf st5).push (lo, m, 0))) := fun st5 S5 R5 s5 => ⟨rfl, ⟨S5.ki, S5.fa, S5.pm⟩, runs_push R5 m1 s5, m2, by show i + 1 ≤ lo + m; omega⟩
      refine wpS_bind (wpS_get ?_)
      cases hbk : (pendingOf st4).back? with
      | none => exact wpS_bind (wpS_modify (wpS_pure (fin st4 S4 R4 s4)))
      | some x =>
        obtain ⟨x1, x2, x3⟩ := x
        refine wp_seq (Q1 := fun c st' => c.1 = none ∧ S0 κ (arrOf st) st' ∧ Runs κ (arrOf st') 0 (pendingOf st').toList lo ∧ SK κ (arrOf st') lo (lo + m)) (wpS_forRange (iv2 κ (arrOf st) lo m) ?_ ?_ ⟨rfl, S4, R4, s4⟩) ?_
        · rintro j ⟨o, u⟩ st5 _ hj ⟨e5, S5, R5, s5⟩
          refine wpS_bind (wpS_get ?_)
          by_cases hsz : (pendingOf st5).size > 1
          · obtain ⟨x, hx⟩ : ∃ x, (pendingOf st5)[(pendingOf st5).size - 2]? = some x := ⟨_, Array.getElem?_eq_getElem (by omega)⟩
            rw [if_pos hsz, hx]
            obtain ⟨y1, y2, y3⟩ := x
            exact wp_ite (fun _ => wpS_pure ⟨rfl, S5, R5, s5⟩) (fun _ => wpS_bind (wp_mergeRuns ho S5 hH R5 (by omega) (by omega) fun st6 S6 R6 _ k6 => wp_ite (fun c => absurd c (by simp)) fun _ => wpS_pure ⟨rfl, S6, R6, s5.congr fun k k1 _ => k6 k k1⟩))
          · rw [if_neg hsz]
            exact wpS_pure ⟨rfl, S5, R5, s5⟩
        · rintro ⟨o, u⟩ st5 h
          exact h
        · rintro ⟨o, u⟩ st5 ⟨e5, S5, R5, s5⟩
          dsimp only at e5
          subst e5
          exact wpS_bind (wpS_modify (wpS_bind (wpS_modify (wpS_pure (fin (setPending st5 _) ⟨S5.ki, S5.fa, S5.pm⟩ (runs_last _ (fun x => ⟨rfl, rfl⟩) R5) s5)))))
  · rintro ⟨o, lo⟩ st1 ⟨e1, b1, r1, l1, l2⟩
    dsimp only at e1 r1 l1 l2
    have : lo = (arrOf st).size := by omega
    rw [this] at r1
    exact ⟨e1, b1, r1⟩
  · rintro ⟨o, lo⟩ st1 ⟨e1, b1, r1⟩
    dsimp only at e1
    subst e1
    have le1 := Runs.le r1
    rw [Array.length_toList] at le1
    refine wp_seq (Q1 := fun c st' => c.1 = none ∧ S0 κ (arrOf st) st' ∧ Runs κ (arrOf st') 0 (pendingOf st').toList (arrOf st).size ∧ (pendingOf st').size ≤ 1) (wpS_forRange (iv3 κ (arrOf st)) ?_ ?_ ⟨rfl, b1, r1, by omega⟩) ?_
    · rintro j ⟨o, u⟩ st2 _ hj ⟨e2, S2, R2, l2⟩
      refine wpS_bind (wpS_get ?_)
      refine wp_ite (fun hle => wpS_pure ⟨rfl, S2, R2, hle⟩) (fun hle => ?_)
      have hle' : ¬ (pendingOf st2).size ≤ 1 := hle
      refine wpS_bind (wp_mergeRuns ho S2 hH R2 (Nat.le_refl _) (by (repeat' split) <;> omega) fun st3 S3 R3 l3 _ => wp_ite (fun c => absurd c (by simp)) fun _ => wpS_pure ⟨rfl, S3, R3, by omega⟩)
    · rintro ⟨o, u⟩ st2 ⟨e2, S2, R2, l2⟩
      exact ⟨e2, S2, R2, by omega⟩
    · rintro ⟨o, u⟩ st2 ⟨e2, S2, R2, l2⟩
      dsimp only at e2
      subst e2
      refine wpS_pure (q st2 S2.pm S2.fa ?_)
      rw [← Array.length_toList] at l2
      match hl : (pendingOf st2).toList, R2, l2 with
      | [], h, _ =>
        have h' : 0 = (arrOf st).size := h
        omega
      | [x], h, _ =>
        obtain ⟨h1, h3, h4, h5⟩ := h
        have h5' : 0 + x.2.1 = (arrOf st).size := h5
        rw [h5'] at h4
        exact h4
      | _ :: _ :: _, _, h => simp at h


end
end TS

namespace TS
section
open PySem PyProof.Rows
variable {κ : KeyKind} {prog : Program} {w : World} {A : Around} {E : Value → Shared → Prop} {s : Shared}
theorem list_sort_any (hO : κ.OneLt) {a : Addr} {vs : List Value} {n : Nat} {P : Fin → Shared → Prop} (ho : s.heap.get? a = some (seqObj "list" vs.toArray n)) (h0 : KeysOf κ (pairsOf vs))
    (hkk : ∀ (v₁ v₂ : Value) (rest : List Value), vs = v₁ :: v₂ :: rest → keyKind' (v₁ :: v₂ :: rest).toArray = pure oneType') (hn : vs.length ≤ 1000000)
    (h : ∀ st' : SortSt, (arrOf st').Perm (pairsOf vs) → SortedToK κ (arrOf st') (pairsOf vs).size → P (Fin.done (Flow.ret Value.none)) { heap := sortedHeap s.heap a vs (Array.map (fun x => x.snd) (arrOf st')), gens := s.gens, drawn := s.drawn, toks := s.toks, os := s.os }) :
    wpAny (model prog w) A (PySem.Builtin.«list.sort» { pos := [Value.ref a] }) P E s := by
  by_cases h64 : vs.length < 64
  · exact list_sort_treeK hO ho h0 hkk h64 h
  have ha := Heap.lt_size ho
  have line : vs.toArray.size ≤ sizeLine := by rw [List.size_toArray, sizeLine_eq]; omega
  rw [list_sort_plain]
  refine wpAny_bind (listItems_at ho rfl ?_)
  refine wpAny_bind (listUpdate_at ho rfl ?_ ?_ ?_)
  · obtain ⟨e1, ho1⟩ : ∃ e, (s.heap.update a (Obj.mapSeq fun x => #[])).get? a = some (seqObj "list" #[] e) := ⟨_, get?_update_seq ho fun x => #[]⟩
    refine wpAny_bind (seqEpoch_at ho1 rfl ?_)
    refine wpAny_bind (wpAny_newTuple ?_ ?_)
    · refine wpAny_bind (wpAny_newList ?_ ?_)
      · refine wpAny_holding ?_
        have ho6 : (((s.heap.update a (Obj.mapSeq fun x => #[])).push (seqObj "tuple" vs.toArray 0)).push (seqObj "list" #[] 0)).get? a = some (seqObj "list" #[] e1) := by
          rw [Heap.get?_push_ne _ _ _ (by rw [size_push', Heap.size_update]; exact Nat.ne_of_lt (Nat.lt_succ_of_lt ha)), Heap.get?_push_ne _ _ _ (by rw [Heap.size_update]; exact Nat.ne_of_lt ha)]
          exact ho1
        obtain ⟨v₁, v₂, rest, rfl⟩ : ∃ v₁ v₂ rest, vs = v₁ :: v₂ :: rest := by
          match vs, h64 with
          | [], h => exact absurd (by decide) h
          | [x], h => exact absurd (show 1 < 64 by decide) h
          | v₁ :: v₂ :: rest, _ => exact ⟨v₁, v₂, rest, rfl⟩
        have n2 : ¬ (v₁ :: v₂ :: rest).toArray.size < 2 := by simp
        rw [if_neg n2, if_neg n2, hkk v₁ v₂ rest rfl]
        refine wpAny_bind (wpAny_pure ?_)
        have sz := pairsOf_size (v₁ :: v₂ :: rest)
        refine wpAny_bind (wpAny_mono (wp_sortRuns (κ := κ) hO (st := SortSt.mk' oneType' (pairsOf (v₁ :: v₂ :: rest)) #[] 7 none) (Q := fun _ st' => (arrOf st').Perm (pairsOf (v₁ :: v₂ :: rest)) ∧ failedOf st' = none ∧ SK κ (arrOf st') 0 (pairsOf (v₁ :: v₂ :: rest)).size) rfl rfl rfl h0 (by show 1 ≤ (pairsOf (v₁ :: v₂ :: rest)).size; rw [sz]; simp) fun st' p1 p2 p3 => ⟨p1, p2, p3⟩) ?_ fun _ _ e => e)
        rintro ⟨u, st'⟩ s1 ⟨rfl, p1, p2, p3⟩
        refine wpAny_bind (seqEpoch_at ho6 rfl ?_)
        refine wpAny_bind (listUpdate_at ho6 rfl ?_ ?_ ?_)
        · dsimp only at p1 p2 p3 ⊢
          rw [p2]
          have et : (e1 != e1) = false := by simp
          rw [et]
          exact wpAny_pure (h st' p1 fun i j h1 h2 => p3 i j (Nat.zero_le _) h1 h2)
        · exact Nat.zero_le _
        · rw [Array.size_map]
          have p1' : (arrOf st').Perm (pairsOf (v₁ :: v₂ :: rest)) := p1
          rw [p1'.size_eq, sz]
          rw [List.size_toArray] at line
          omega
      · show 0 ≤ sizeLine
        exact Nat.zero_le _
    · rw [← List.size_toArray]; exact line
  · exact line
  · show 0 ≤ _
    exact Nat.zero_le _
theorem sorted_any (hO : κ.OneLt) {l : Addr} {vs : List Value} {Q : Value → Shared → Prop} (hl : s.heap.IsList l vs.toArray) (h0 : KeysOf κ (pairsOf vs))
    (hkk : ∀ (v₁ v₂ : Value) (rest : List Value), vs = v₁ :: v₂ :: rest → keyKind' (v₁ :: v₂ :: rest).toArray = pure oneType') (hn : vs.length ≤ 1000000)
    (h : ∀ st' : SortSt, (arrOf st').Perm (pairsOf vs) → SortedToK κ (arrOf st') (pairsOf vs).size → Q (Value.ref (s.heap.objs.size + 1)) { heap := sortedAll s.heap vs (Array.map (fun x => x.snd) (arrOf st')), gens := s.gens, drawn := s.drawn, toks := s.toks, os := s.os }) :
    wpAny (model prog w) A (call (Value.builtin "sorted") [Value.ref l]) Q E s := by
  have line : vs.length ≤ sizeLine := by rw [sizeLine_eq]; omega
  refine Calls.call_function_entry kind_sorted plain_sorted entry_sorted (args_sorted1 (Value.ref l)) ?_
  refine wpAny_bind (wpAny_pure (wpAny_bind (collect_list hl (wpAny_bind (wpAny_newList ?_ line)) line)))
  have hsz : ((s.heap.push (seqObj "list" #[] 0)).update s.heap.objs.size (Obj.mapSeq fun x => x ++ vs.toArray)).objs.size = s.heap.objs.size + 1 := by rw [Heap.size_update, size_push']
  have hoL : (((s.heap.push (seqObj "list" #[] 0)).update s.heap.objs.size (Obj.mapSeq fun x => x ++ vs.toArray)).push (seqObj "list" vs.toArray 0)).get? (s.heap.objs.size + 1) = some (seqObj "list" vs.toArray 0) := by
    rw [← hsz]
    exact Heap.get?_push_size _ rfl
  dsimp only
  rw [hsz]
  refine wpAny_bind (wpAny_holding (wpAny_call_entry slot_list_sort ⟨seqObj "list" vs.toArray 0, hoL, rfl⟩ entry_list_sort (list_sort_any hO hoL h0 hkk hn fun st' a1 a2 => ⟨Value.none, rfl, wpAny_pure ⟨Value.ref (s.heap.objs.size + 1), rfl, h st' a1 a2⟩⟩) (args_list_sort (Value.ref (s.heap.objs.size + 1)))))
theorem sorted_many {l : Addr} {vs : List Value} {ss : List Str} {Q : Value → Shared → Prop} (hl : s.heap.IsList l vs.toArray) (hS : StrsAre vs ss) (hn : vs.length ≤ 1000000)
    (h : ∀ (out : Array Value) (ss' : List Str), StrsAre out.toList ss' → ss'.Perm ss → sortedS ss' = true → Q (Value.ref (s.heap.objs.size + 1)) { heap := sortedAll s.heap vs out, gens := s.gens, drawn := s.drawn, toks := s.toks, os := s.os }) :
    wpAny (model prog w) A (call (Value.builtin "sorted") [Value.ref l]) Q E s :=
  sorted_any strKind_oneLt hl hS.keysOf (fun v₁ v₂ rest e => keyKind_strs (by rw [← e]; exact hS)) hn fun st' hp hs => by
    obtain ⟨ss', h1, h2, h3⟩ := sorted_out_str hS hp hs
    exact h _ ss' h1 h2 h3


end
end TS

namespace L2
open PySem PySem.Spec PyProof.Rows
section
variable {prog : Program} {w : World} {A : Around} {E : Value → Shared → Prop} {s : Shared} {T : String} {r d : Addr} {n : Nat} {P : Nat → Value → Prop} {OK : Heap → Prop}
theorem sorted_kdlM {Q : Value → Shared → Prop} {zs : List Str} (K : PySem.W.KdlSrc prog w T r d zs.length P OK) (hh : A.handled = none) (hok : OK s.heap) (hb : zs.length ≤ 1000000) (hP : ∀ i v, P i v → ∃ z t, zs[i]? = some z ∧ v = .str z t)
    (q : ∀ (h' : Heap) (tk : Nat) (a : Addr) (out : List Value) (ys : List Str) (e : Nat), s.heap.objs.size ≤ a → (∀ b o, s.heap.get? b = some o → h'.get? b = some o) → h'.get? a = some { cls := .type "list", data := .seq out.toArray e } → Vals (ys.map V.str) out → ys.Perm zs → sortedS ys = true →
      Q (.ref a) { s with heap := h', toks := tk }) : wpAny (model prog w) A (call (.builtin "sorted") [.ref r]) Q E s := by
  refine Calls.call_function_entry kind_sorted plain_sorted entry_sorted (args_sorted1 _) ?_
  unfold Builtin.«sorted»
  refine wpAny_bind (m := checkCount "sorted" 1 1 _) (wpAny_pure ?_)
  refine wpAny_bind (collect_kdl K hh hok (by rw [sizeLine_eq]; omega) fun h1 tk acc hlt old hi => ?_)
  obtain ⟨hn, hi⟩ := hi
  have hS : StrsAre acc.toList zs := by
    have all : ∀ v ∈ acc.toList, ∃ z t, v = .str z t := fun v hv => by
      obtain ⟨j, hj, rfl⟩ := List.mem_iff_getElem.mp hv
      obtain ⟨z, t, _, e⟩ := hP j acc.toList[j] (hi j acc.toList[j] (by rw [← Array.getElem?_toList]; exact List.getElem?_eq_getElem hj))
      exact ⟨z, t, e⟩
    have e : acc.toList.map strOf = zs := by
      apply List.ext_getElem?
      intro j
      rw [List.getElem?_map]
      cases hj : acc.toList[j]? with
      | none =>
        have := List.getElem?_eq_none_iff.mp hj
        rw [Array.length_toList, hn] at this
        exact (List.getElem?_eq_none this).symm
      | some v =>
        obtain ⟨z, t, e1, e2⟩ := hP j v (hi j v (by rw [← Array.getElem?_toList]; exact hj))
        rw [e1, e2]; rfl
    rw [← e]
    exact strsAre_map _ all
  have hlen : acc.toList.length = zs.length := by rw [Array.length_toList, hn]
  have szl := sizeLine_eq
  refine wpAny_bind (wpAny_newList ?_ (by omega))
  have o1 : (h1.push (seqObj "list" acc.toList.toArray 0)).get? h1.objs.size = some (seqObj "list" acc.toList.toArray 0) := Heap.get?_push_size _ rfl
  refine wpAny_bind (wpAny_holding (wpAny_call_entry slot_list_sort ⟨_, o1, rfl⟩ entry_list_sort (TS.list_sort_any strKind_oneLt o1 hS.keysOf (fun v1 v2 rest e => keyKind_strs (by rw [← e]; exact hS)) (by omega) fun st a1 a2 => ⟨_, rfl, ?_⟩) (args_list_sort _)))
  obtain ⟨ys, b1, b2, b3⟩ := sorted_out_str hS a1 a2
  obtain ⟨e, he2⟩ := sortedHeap_at (vs := acc.toList) (out := (arrOf st).map (·.2)) o1
  have hz : s.heap.objs.size ≤ h1.objs.size := Nat.le_of_lt hlt
  refine wpAny_pure ⟨_, rfl, q _ tk h1.objs.size ((arrOf st).map (·.2)).toList ys e hz (fun b o hb => ?_) he2 (strsAre_to b1) b2 b3⟩
  have lb : b < h1.objs.size := Heap.lt_size (old b o hb)
  rw [sortedHeap_old (Nat.ne_of_lt lb) (by rw [size_push']; exact Nat.lt_succ_of_lt lb), Heap.get?_push_ne _ _ _ (Nat.ne_of_lt lb)]
  exact old b o hb
end
section
variable {X : Cx}
theorem call_sortedSM (K : PySem.W.Frag) (hK : X.K = K := by rfl) : CallR X (.builtin "sorted") (fun xs H Q => ∃ (p : Addr) (zs : List Str), xs = [.ref p] ∧ SqL K H p (zs.map V.str) ∧ zs.length ≤ 1000000 ∧
    ∀ (r : Addr) (zs' : List Str), H r = none → zs'.Perm zs → sortedS zs' = true → Q (.ref r) (upd H r (.lst (zs'.map V.str)))) := by
  subst hK
  intro pins s σ H xs us Q I r h
  obtain ⟨p, zs, rfl, hp, hl, q⟩ := h
  obtain ⟨u, rfl, ru⟩ := vals1 r
  cases ru
  obtain ⟨its, rv, pl, hz⟩ := I.list hp
  have hlen : its.length = zs.length := by rw [← rv.length, List.length_map]
  refine TS.sorted_many pl.isList (strsAre_of rv) (by omega) fun out zs' h1 h2 h3 => ?_
  obtain ⟨e, he⟩ := sortedAll_at s.heap its out
  refine ⟨.ref (s.heap.objs.size + 1), _, I.laid (o := .lst (zs'.map V.str)) (t' := s.toks) (fun b u hb => sortedAll_old hb) (Nat.le_succ _) ?_, rfl, q _ zs' (I.hok.fresh (Nat.le_succ _)) h2 h3⟩
  refine ⟨?_, out.toList, e, strsAre_to h1, he⟩
  rw [List.length_map, h2.length_eq, sizeLine_eq]
  omega
theorem src_keys {kvs : List (Key × V)} {vs : List (Key × Value)} {zs : List Str} (rel : KV kvs vs) (hk : kvs.map (·.1) = zs.map Sum.inr) {i : Nat} {v : Value} (h : ∃ k x, vs[i]? = some (k, x) ∧ (mixKind X.prog X.w).is k v = true) : ∃ z t, zs[i]? = some z ∧ v = .str z t := by
  obtain ⟨k, x, e1, e2⟩ := h
  have e3 : (vs.map (·.1))[i]? = some k := by rw [List.getElem?_map, e1]; rfl
  rw [kv_keys rel, hk, List.getElem?_map] at e3
  cases hz : zs[i]? with
  | none => rw [hz] at e3; cases e3
  | some z1 =>
    rw [hz] at e3
    have : Sum.inr z1 = k := Option.some.inj e3
    subst this
    obtain ⟨t, rfl⟩ := key_is e2
    exact ⟨z1, t, rfl, rfl⟩
theorem call_sortedDM (hc : X.calm = true := by rfl) : CallR X (.builtin "sorted") (fun xs H Q => ∃ (p : Addr) (kvs : List (Key × V)) (zs : List Str), xs = [.ref p] ∧ H p = some (.dK kvs) ∧ kvs.map (·.1) = zs.map Sum.inr ∧ zs.length ≤ 1000000 ∧
    ∀ (r : Addr) (ys : List Str), H r = none → ys.Perm zs → sortedS ys = true → Q (.ref r) (upd H r (.lst (ys.map V.str)))) := by
  intro pins s σ H xs us Q I r h
  obtain ⟨p, kvs, zs, rfl, hp, hk, hl, q⟩ := h
  obtain ⟨u, rfl, ru⟩ := vals1 r
  cases ru
  obtain ⟨z, hd, vs, rel, dd⟩ := dk_of I.hok hp
  obtain ⟨ep, da⟩ := dd.dictAt
  have hn : vs.length = zs.length := by
    have := congrArg List.length ((kv_keys rel).trans hk)
    simpa using this
  have S := PySem.W.kdl_dict (prog := X.prog) (w := X.w) (knd := mixKind X.prog X.w) (kvs := vs) (ep := ep) hd
  rw [hn] at S
  refine sorted_kdlM S (I.ok.hd hc) da hl (fun i v h => src_keys rel hk h) fun h' tk a out ys e ha old g1 rv hy hm => ?_
  refine ⟨.ref a, _, I.laid (o := .lst (ys.map V.str)) (t' := tk) old ha ?_, rfl, q a ys (I.hok.fresh ha) hy hm⟩
  refine ⟨?_, out, e, rv, g1⟩
  rw [List.length_map, hy.length_eq, sizeLine_eq]
  omega
def KVo (r d : Addr) : HO := .ext fun h => PySem.W.KdlKeysView h r d
theorem kvo_obj {P : Program} {w : World} {H : Hp} {h : Heap} {r d : Addr} (x : PySem.W.KdlKeysView h r d) : ObjOk P w H h r (KVo r d) := by
  obtain ⟨o, ho, hc, hd⟩ := id x
  exact ⟨x, ⟨o, ho⟩, fun h1 h2 ⟨o1, g1, r1⟩ k => ⟨o1, k o1 g1, r1⟩⟩
def rKeys : V → List V → Hp → VK → Prop := fun x vs H Q => ∃ (p : Addr) (kvs : List (Key × V)), x = .ref p ∧ vs = [] ∧ H p = some (.dK kvs) ∧ ∀ r, H r = none → Q (.ref r) (upd H r (KVo r p))
theorem mt_keys : MtR X "dict.keys" rKeys := by
  intro pins s σ H x vs v us Q I rx rv h
  obtain ⟨p, kvs, rfl, rfl, hp, q⟩ := h
  cases rx
  have hus := rv.zero
  subst hus
  obtain ⟨z, hd, ws, rel, dd⟩ := dk_of I.hok hp
  refine call_meetsIn PySem.F.slot_dict_keys dd.typeIs PySem.F.entry_dict_keys (PySem.F.args_dict_keys_1 _) (PySem.W.kdl_meets_keys (mixKind X.prog X.w) p hd) ⟨⟨_, dd⟩, ?_⟩
  have g : (s.heap.push { cls := .type "dict_keys", data := .fields #[.ref p] }).get? s.heap.objs.size = some { cls := .type "dict_keys", data := .fields #[.ref p] } := Heap.get?_push_size _ rfl
  exact ⟨.ref s.heap.objs.size, _, I.laid (o := KVo s.heap.objs.size p) (t' := s.toks) (fun b o e => Heap.get?_push_of_some _ e) (Nat.le_refl _) (kvo_obj ⟨_, g, rfl, rfl⟩), rfl, q _ (I.hok.fresh (Nat.le_refl _))⟩
theorem call_sortedKM (hc : X.calm = true := by rfl) : CallR X (.builtin "sorted") (fun xs H Q => ∃ (v p : Addr) (kvs : List (Key × V)) (zs : List Str), xs = [.ref v] ∧ H v = some (KVo v p) ∧ H p = some (.dK kvs) ∧ kvs.map (·.1) = zs.map Sum.inr ∧ zs.length ≤ 1000000 ∧
    ∀ (r : Addr) (ys : List Str), H r = none → ys.Perm zs → sortedS ys = true → Q (.ref r) (upd H r (.lst (ys.map V.str)))) := by
  intro pins s σ H xs us Q I r h
  obtain ⟨v, p, kvs, zs, rfl, hv, hp, hk, hl, q⟩ := h
  obtain ⟨u, rfl, ru⟩ := vals1 r
  cases ru
  have kv := (I.hok v _ hv).1
  obtain ⟨z, hd, vs, rel, dd⟩ := dk_of I.hok hp
  obtain ⟨ep, da⟩ := dd.dictAt
  have hn : vs.length = zs.length := by
    have := congrArg List.length ((kv_keys rel).trans hk)
    simpa using this
  have S := PySem.W.kdl_keys (prog := X.prog) (w := X.w) (knd := mixKind X.prog X.w) (d := p) (r := v) (kvs := vs) (ep := ep)
  rw [hn] at S
  refine sorted_kdlM S (I.ok.hd hc) ⟨kv, da⟩ hl (fun i v h => src_keys rel hk h) fun h' tk a out ys e ha old g1 rv hy hm => ?_
  refine ⟨.ref a, _, I.laid (o := .lst (ys.map V.str)) (t' := tk) old ha ?_, rfl, q a ys (I.hok.fresh ha) hy hm⟩
  refine ⟨?_, out, e, rv, g1⟩
  rw [List.length_map, hy.length_eq, sizeLine_eq]
  omega
end

end L2

namespace L2
open PySem PySem.Spec PyProof.Rows
section
variable {prog : Program} {w : World} {A : Around} {E : Value → Shared → Prop} {s : Shared} {T : String} {r d : Addr} {n : Nat} {P : Nat → Value → Prop} {OK : Heap → Prop}
theorem sorted_kdlI {Q : Value → Shared → Prop} {ns : List Int} (K : PySem.W.KdlSrc prog w T r d ns.length P OK) (hh : A.handled = none) (hok : OK s.heap) (hb : ns.length < 64) (hs : ns.Pairwise (· < ·)) (hP : ∀ i v, P i v → ∃ z t, ns[i]? = some z ∧ v = .int z t)
    (q : ∀ (h' : Heap) (tk : Nat) (a : Addr) (out : List Value) (e : Nat), s.heap.objs.size ≤ a → (∀ b o, s.heap.get? b = some o → h'.get? b = some o) → h'.get? a = some { cls := .type "list", data := .seq out.toArray e } → Vals (ns.map V.int) out →
      Q (.ref a) { s with heap := h', toks := tk }) : wpAny (model prog w) A (call (.builtin "sorted") [.ref r]) Q E s := by
  refine Calls.call_function_entry kind_sorted plain_sorted entry_sorted (args_sorted1 _) ?_
  unfold Builtin.«sorted»
  refine wpAny_bind (m := checkCount "sorted" 1 1 _) (wpAny_pure ?_)
  refine wpAny_bind (collect_kdl K hh hok (by rw [sizeLine_eq]; omega) fun h1 tk acc hlt old hi => ?_)
  obtain ⟨hn, hi⟩ := hi
  have hS : IntsAre acc.toList ns := by
    refine intsAre_of ?_
    have key : ∀ (ns : List Int) (vs : List Value), vs.length = ns.length → (∀ (i : Nat) (v : Value), vs[i]? = some v → ∃ z t, ns[i]? = some z ∧ v = Value.int z t) → Vals (ns.map V.int) vs := by
      intro ns
      induction ns with
      | nil => intro vs hl _; rw [List.eq_nil_of_length_eq_zero hl]; exact .nil
      | cons n ns ih =>
        intro vs hl hv
        cases vs with
        | nil => cases hl
        | cons v vs =>
          obtain ⟨z, t, e1, e2⟩ := hv 0 v rfl
          cases e1
          exact .cons ⟨t, e2⟩ (ih vs (Nat.succ.inj hl) fun i u hu => hv (i + 1) u hu)
    exact key ns _ (by rw [Array.length_toList, hn]) fun i v hv => hP i v (hi i v (by rw [← Array.getElem?_toList]; exact hv))
  have hlen : acc.toList.length = ns.length := by rw [Array.length_toList, hn]
  have szl := sizeLine_eq
  refine wpAny_bind (wpAny_newList ?_ (by omega))
  have o1 : (h1.push (seqObj "list" acc.toList.toArray 0)).get? h1.objs.size = some (seqObj "list" acc.toList.toArray 0) := Heap.get?_push_size _ rfl
  refine wpAny_bind (wpAny_holding (wpAny_call_entry slot_list_sort ⟨_, o1, rfl⟩ entry_list_sort (list_sort_tree o1 hS (by omega) fun out ns' a1 a2 a3 => ⟨_, rfl, ?_⟩) (args_list_sort _)))
  have en : ns' = ns := List.Perm.eq_of_pairwise (le := (· ≤ ·)) (fun a b _ _ h h' => Int.le_antisymm h h') a3 (hs.imp fun h => Int.le_of_lt h) a2
  subst en
  obtain ⟨e, he2⟩ := sortedHeap_at (vs := acc.toList) (out := out) o1
  have hz : s.heap.objs.size ≤ h1.objs.size := Nat.le_of_lt hlt
  refine wpAny_pure ⟨_, rfl, q _ tk h1.objs.size out.toList e hz (fun b o hb => ?_) he2 (vals_ints a1)⟩
  have lb : b < h1.objs.size := Heap.lt_size (old b o hb)
  rw [sortedHeap_old (Nat.ne_of_lt lb) (by rw [size_push']; exact Nat.lt_succ_of_lt lb), Heap.get?_push_ne _ _ _ (Nat.ne_of_lt lb)]
  exact old b o hb
end
section
variable {X : Cx}
theorem call_sortedKI (hc : X.calm = true := by rfl) : CallR X (.builtin "sorted") (fun xs H Q => ∃ (v p : Addr) (kvs : List (Key × V)) (ns : List Int), xs = [.ref v] ∧ H v = some (KVo v p) ∧ H p = some (.dK kvs) ∧ kvs.map (·.1) = ns.map Sum.inl ∧ ns.length < 64 ∧ ns.Pairwise (· < ·) ∧
    ∀ (r : Addr), H r = none → Q (.ref r) (upd H r (.lst (ns.map V.int)))) := by
  intro pins s σ H xs us Q I r h
  obtain ⟨v, p, kvs, ns, rfl, hv, hp, hk, hl, hs, q⟩ := h
  obtain ⟨u, rfl, ru⟩ := vals1 r
  cases ru
  have kv := (I.hok v _ hv).1
  obtain ⟨z, hd, vs, rel, dd⟩ := dk_of I.hok hp
  obtain ⟨ep, da⟩ := dd.dictAt
  have hn : vs.length = ns.length := by
    have := congrArg List.length ((kv_keys rel).trans hk)
    simpa using this
  have S := PySem.W.kdl_keys (prog := X.prog) (w := X.w) (knd := mixKind X.prog X.w) (d := p) (r := v) (kvs := vs) (ep := ep)
  rw [hn] at S
  refine sorted_kdlI S (I.ok.hd hc) ⟨kv, da⟩ hl hs (fun i v h => ?_) fun h' tk a out e ha old g1 rv => ?_
  · obtain ⟨k, x, e1, e2⟩ := h
    have e3 : (vs.map (·.1))[i]? = some k := by rw [List.getElem?_map, e1]; rfl
    rw [kv_keys rel, hk, List.getElem?_map] at e3
    cases hz : ns[i]? with
    | none => rw [hz] at e3; cases e3
    | some z1 =>
      rw [hz] at e3
      have : Sum.inl z1 = k := Option.some.inj e3
      subst this
      obtain ⟨t, rfl⟩ := key_is e2
      exact ⟨z1, t, rfl, rfl⟩
  refine ⟨.ref a, _, I.laid (o := .lst (ns.map V.int)) (t' := tk) old ha ?_, rfl, q a (I.hok.fresh ha)⟩
  refine ⟨?_, out, e, rv, g1⟩
  rw [List.length_map, sizeLine_eq]
  omega
end
section
variable {prog : Program} {w : World} {A : Around} {E : Value → Shared → Prop} {s : Shared}
theorem lk_list_keys : typeLookup (.type "list") "keys" = pure none := by rw [typeLookup_type, builtinLookup_eq_fast]; kernel_rfl
theorem miss_keys {a : Addr} {o : Obj} {xs : Array Value} {k : Nat} {Q : Option Value → Shared → Prop} (hx : s.heap.get? a = some o) (hc : o.cls = .type "list") (hdat : o.data = .seq xs k) (hd : o.dict = none) (hA : A.handled = none)
    (h : ∀ h' tk, (∀ b o, s.heap.get? b = some o → h'.get? b = some o) → Q none { s with heap := h', toks := tk }) : wpAny (model prog w) A (getAttr? (.ref a) "keys") Q E s := by
  obtain ⟨c, dct, dat, sl⟩ := o
  simp only at hc hdat hd
  subst hc hdat hd
  obtain ⟨hp, g, d, tk, os⟩ := s
  have hT : ∀ tk', (⟨hp, g, d, tk', os⟩ : Shared).TypeIs (.ref a) "list" := fun _ => ⟨_, hx, rfl⟩
  have f1 := sub_AttributeError
  have f3 := F.slot_list_getattribute.lookup
  have f4 := F.slot_list_getattribute.bind (.ref a)
  have f5 := am_list_getattr_none
  unfold getAttr? getAttrBy? getAttrBy
  repeat (any_goals (first | assumption | exact hT _ | ((with_reducible show wpAny _ _ (call (Value.builtin "list.__getattribute__") _ _) _ _ _); refine call_meets F.slot_list_getattribute (hT _) am_entry_list_getattribute (F.args_list_getattribute_2 _ _) (meets_getattribute_miss_list a xs k sl "keys" _ lk_list_keys (by decide) (by decide)) ⟨hx, hA, fun h' tk' e hx' => ?_⟩) | wp_step))
  obtain ⟨t', u', he⟩ := hx'.there
  have hI : ∀ tk'', (⟨h', g, d, tk'', os⟩ : Shared).TypeIs (.ref e) "AttributeError" := fun _ => ⟨_, he, rfl⟩
  show wpAny _ _ (getattributeRaised _ _ _ _ _ _ _) _ _ _
  unfold getattributeRaised
  repeat (any_goals (first | assumption | exact hI _ | wp_step))
  exact h h' tk' hx'.keeps
theorem entry_dict_loop : entryFor table "dict.update.loop" = some Builtin.«dict.update.loop» := entryFor_of_tree (by kernel_rfl)
theorem plain_dict_loop : plainId "dict.update.loop" = true := by decide +kernel
def PairsAt (P : Program) (w : World) (D I : Addr) (items : Array Value) (vs : List (Key × Value)) (h : Heap) : Prop := ∀ (i : Nat) (v : Value), items[i]? = some v → ∃ (t : Addr) (key : Value) (k : Key) (x : Value), v = .ref t ∧ t ≠ D ∧ t ≠ I ∧ IsTup h t #[key, x] ∧ vs[i]? = some (k, x) ∧ (mixKind P w).is k key = true
theorem PairsAt.keep {D I : Addr} {items : Array Value} {vs : List (Key × Value)} {h h' : Heap} (p : PairsAt prog w D I items vs h) (k : ∀ b o, b ≠ D → b ≠ I → h.get? b = some o → h'.get? b = some o) : PairsAt prog w D I items vs h' := fun i v hv => by
  obtain ⟨t, key, kk, x, h1, h2, h3, ⟨o, h4, h5⟩, h6⟩ := p i v hv
  exact ⟨t, key, kk, x, h1, h2, h3, ⟨o, k t o h2 h3 h4, h5⟩, h6⟩
theorem dict_loop {D I ax : Addr} {items : Array Value} {vs : List (Key × Value)} {R : Result → Shared → Prop} (hh : A.in1.handled = none) (hne : ax ≠ I) (hDI : D ≠ I) (hDa : D ≠ ax) (hn : (vs.map (·.1)).Nodup) (hl : items.size = vs.length) (hz : vs.length ≤ 1000) :
    ∀ (k i : Nat) (s : Shared) (j : Int) (tk : Tok), items.size - i = k → i ≤ items.size → s.heap.IsListIter I ax i → s.heap.IsList ax items → PairsAt prog w D I items vs s.heap → s.heap.DictOf (mixKind prog w) D (vs.take i) →
      (∀ h' tk', h'.DictOf (mixKind prog w) D vs → (∀ b o, b ≠ D → b ≠ I → s.heap.get? b = some o → h'.get? b = some o) → R (.ok (.ret .none)) { s with heap := h', toks := tk' }) →
      codeAny (model prog w) A (.builtin "dict.update.loop" ⟨[.ref D, .ref I, .int j tk, .none], []⟩) R s := by
  have W := Walks.list (prog := prog) (w := w) hh I ax hne items
  intro k
  induction k with
  | zero =>
    intro i s j tk hk hi hit hil hp hd hR
    have hin : i = items.size := by omega
    subst hin
    refine codeAny_builtin entry_dict_loop ?_
    rw [Around.under_plainId plain_dict_loop _]
    show wpAny _ A.in1 (pyNext (.ref I) >>= _) _ _ s
    refine wpAny_bind (W.done s _ _ ⟨hit, hil⟩ fun h' tk' hm => ?_)
    show wpAny _ A.in1 (Builtin.Dict.addKeywords D [] >>= fun _ => ret Value.none) _ _ _
    rw [hl, List.take_length] at hd
    refine wpAny_bind (wpAny_pure (wpAny_pure (hR h' tk' ?_ fun b o _ hb e => hm b o (by simpa using hb) e)))
    obtain ⟨o, es, ep, ho, rest⟩ := hd
    exact ⟨o, es, ep, hm D o (by simpa using hDI) ho, rest⟩
  | succ k ih =>
    intro i s j tk hk hi hit hil hp hd hR
    have hlt : i < items.size := by omega
    refine codeAny_builtin entry_dict_loop ?_
    rw [Around.under_plainId plain_dict_loop _]
    show wpAny _ A.in1 (pyNext (.ref I) >>= _) _ _ s
    refine wpAny_bind (W.item i s _ _ hlt ⟨hit, hil⟩ fun v h' tk' hP hst' hm => ?_)
    have hp' : PairsAt prog w D I items vs h' := hp.keep fun b o _ hb e => hm b o (by simpa using hb) e
    obtain ⟨t, key, kk, x, rfl, t1, t2, ht, hv, hkey⟩ := hp' i v hP
    obtain ⟨ot, ho, hc, nt, hdt⟩ := id ht
    have hd' : h'.DictOf (mixKind prog w) D (vs.take i) := by
      obtain ⟨o, es, ep, ho, rest⟩ := hd
      exact ⟨o, es, ep, hm D o (by simpa using hDI) ho, rest⟩
    have hT : (⟨h', s.gens, s.drawn, tk', s.os⟩ : Shared).TypeIs (.ref t) "tuple" := ⟨_, ho, hc⟩
    have hil' : i < vs.length := by omega
    have hst : stored (vs.take i) kk x = vs.take (i + 1) := by
      have e1 : vs.take (i + 1) = vs.take i ++ [(kk, x)] := by rw [List.take_add_one, hv]; rfl
      have e2 : ¬ kk ∈ (vs.take i).map (·.1) := fun hm => by
        have e3 : vs = vs.take i ++ (kk, x) :: vs.drop (i + 1) := by
          conv => lhs; rw [← List.take_append_drop i vs, List.drop_eq_getElem_cons hil']
          congr 2
          exact (List.getElem?_eq_some_iff.mp hv).2
        rw [e3, List.map_append, List.nodup_append] at hn
        exact hn.2.2 _ hm _ (by rw [List.map_cons]; exact List.mem_cons_self) rfl
      rw [e1]
      unfold stored
      rw [if_neg]
      intro z
      obtain ⟨y, hy, ey⟩ := List.any_eq_true.mp z
      exact e2 (List.mem_map.mpr ⟨y, hy, by simpa using ey⟩)
    show wpAny _ A.in1 (holding [Value.ref t] _ >>= _) _ _ _
    refine wpAny_bind (wpAny_holding (wpAny_bind (wpAny_tryCatch ?_)))
    unfold Builtin.Dict.pairItems
    refine wpAny_bind (wpAny_typeOf hT ?_)
    rw [if_pos (by decide)]
    obtain ⟨oc, od, oda, osl⟩ := ot
    simp only at hc hdt
    subst hc hdt
    unfold seqItems?
    refine wpAny_bind (wpAny_bind (wpAny_load ho (wpAny_pure ?_)))
    refine wpAny_pure ?_
    show wpAny _ A.in1 (holding [key, x] (dictSet D key x)) _ _ _
    refine wpAny_holding (wpAny_dictSet_pairs hkey hd' (fun h2 hd2 hs2 => ?_) (by rw [List.length_take, sizeLine_eq]; omega))
    rw [hst] at hd2
    refine wpAny_pure ⟨plainId_quiet plain_dict_loop _, ?_⟩
    have hI2 : h2.IsListIter I ax (i + 1) := by
      obtain ⟨o, h1, h2'⟩ := hst'.1
      exact ⟨o, (hs2.2 I hDI.symm).trans h1, h2'⟩
    have hL2 : h2.IsList ax items := by
      obtain ⟨o, h1, h2'⟩ := hst'.2
      exact ⟨o, (hs2.2 ax hDa.symm).trans h1, h2'⟩
    refine ih (i + 1) _ (j + 1) _ (by omega) hlt hI2 hL2 (hp'.keep fun b o hb _ e => (hs2.2 b hb).trans e) hd2 fun h3 tk3 hd3 hm3 => ?_
    exact hR h3 tk3 hd3 fun b o hb hb' e => hm3 b o hb hb' ((hs2.2 b hb).trans (hm b o (by simpa using hb') e))
theorem dict_pairs {l : Addr} {items : Array Value} {vs : List (Key × Value)} {Q : Value → Shared → Prop} (hh : A.handled = none) (hl : s.heap.IsList l items) (hdn : ∀ o, s.heap.get? l = some o → o.dict = none) (hn : (vs.map (·.1)).Nodup) (hs : items.size = vs.length) (hz : vs.length ≤ 1000)
    (hp : ∀ (i : Nat) (v : Value), items[i]? = some v → ∃ (t : Addr) (key : Value) (k : Key) (x : Value), v = .ref t ∧ IsTup s.heap t #[key, x] ∧ vs[i]? = some (k, x) ∧ (mixKind prog w).is k key = true)
    (q : ∀ h' tk, h'.DictOf (mixKind prog w) s.heap.objs.size vs → (∀ b o, s.heap.get? b = some o → h'.get? b = some o) → Q (.ref s.heap.objs.size) { s with heap := h', toks := tk }) : wpAny (model prog w) A (call (.type "dict") [.ref l]) Q E s := by
  refine callType_codes (Q₁ := fun obj s₁ => obj = .ref s.heap.objs.size ∧ s₁ = { s with heap := s.heap.push { cls := .type "dict", data := .dict #[] } }) F.kt_called_dict (F.kt_typeCall_dict_1 _) F.entry_dict_init (kt_code_dict_new _ ⟨rfl, rfl⟩) ?_
  rintro obj s₁ ⟨rfl, rfl⟩
  have hnew : (s.heap.push { cls := .type "dict", data := .dict #[] }).DictOf (mixKind prog w) s.heap.objs.size [] := Heap.DictOf.new s.heap
  have hl1 : (s.heap.push { cls := .type "dict", data := .dict #[] }).IsList l items := hl.push _
  refine ⟨hnew.typeIs, F.args_dict_init_2 _ _, ?_⟩
  unfold Builtin.«dict.__init__»
  refine wpAny_bind ?_
  unfold Builtin.Dict.selfAndRest
  refine wpAny_bind (wpAny_notOrdered_dict hnew.typeIs ?_)
  show wpAny _ _ (pure (s.heap.objs.size, [Value.ref l])) _ _ _
  refine wpAny_pure ?_
  show wpAny _ _ (Builtin.Dict.updateFrom "dict.__init__" s.heap.objs.size (.ref l) [] .none) _ _ _
  unfold Builtin.Dict.updateFrom
  refine wpAny_bind (wpAny_typeOf hl1.typeIs ?_)
  rw [if_pos (by decide)]
  obtain ⟨o, ho, hc, nn, hd⟩ := id hl
  have hh2 : A.in1.in1.handled = none := by simp [hh]
  refine wpAny_bind (miss_keys (s := { s with heap := s.heap.push { cls := .type "dict", data := .dict #[] } }) (Heap.get?_push_of_some _ ho) hc hd (hdn o ho) hh2 fun h1 tk1 hk1 => ?_)
  show wpAny _ _ (rule _ >>= _) _ _ _
  refine wpAny_bind (wpAny_rule ?_)
  have hl2 : h1.IsList l items := by
    obtain ⟨o, g1, g2⟩ := hl1
    exact ⟨o, hk1 l o g1, g2⟩
  refine wpAny_bind (wpAny_pyIter_list hl2 ?_)
  have old1 : ∀ b o, s.heap.get? b = some o → h1.get? b = some o := fun b o e => hk1 b o (Heap.get?_push_of_some _ e)
  have hD1 : h1.DictOf (mixKind prog w) s.heap.objs.size [] := by
    obtain ⟨o, es, ep, ho, rest⟩ := hnew
    exact ⟨o, es, ep, hk1 _ o ho, rest⟩
  have lD : s.heap.objs.size < h1.objs.size := by
    obtain ⟨o, es, ep, ho, rest⟩ := hD1
    exact Heap.lt_size ho
  have ll : l < s.heap.objs.size := Heap.lt_size ho
  refine wpAny_pure ⟨plainId_quiet plain_dict_loop _, ?_⟩
  refine dict_loop (items := items) (vs := vs) (I := h1.objs.size) (ax := l) (by simp [hh]) (Nat.ne_of_lt (Nat.lt_trans ll lD)) (Nat.ne_of_lt lD) (Nat.ne_of_gt ll) hn hs hz items.size 0 _ 0 _ (by omega) (Nat.zero_le _) ⟨_, Heap.get?_push_size _ rfl, rfl, rfl⟩ (hl2.push _) (fun i v hv => ?_) (hD1.push _) fun h' tk' hd' hm' => ?_
  · obtain ⟨t, key, k, x, e1, ⟨o, e2, e3⟩, e4⟩ := hp i v hv
    have lt := Heap.lt_size e2
    exact ⟨t, key, k, x, e1, Nat.ne_of_lt lt, Nat.ne_of_lt (Nat.lt_trans lt lD), ⟨o, Heap.get?_push_of_some _ (old1 t o e2), e3⟩, e4⟩
  · exact ⟨rfl, q h' tk' hd' fun b o e => hm' b o (Nat.ne_of_lt (Heap.lt_size e)) (Nat.ne_of_lt (Nat.lt_trans (Heap.lt_size e) lD)) (Heap.get?_push_of_some _ (old1 b o e))⟩
end
section
variable {X : Cx}
theorem call_dictP (K : PySem.W.Frag) (hc : X.calm = true := by rfl) (hK : X.K = K := by rfl) : CallR X (.type "dict") (fun xs H Q => ∃ (p : Addr) (ys : List V) (d : List (Str × Str)), xs = [.ref p] ∧ SqL K H p ys ∧ ys.length = d.length ∧ d.length ≤ 1000 ∧ (d.map (·.1)).Nodup ∧
    (∀ (i : Nat) (y : V), ys[i]? = some y → ∃ t x, y = .ref t ∧ d[i]? = some x ∧ H t = some (.tup [.str x.1, .str x.2])) ∧ ∀ r, H r = none → Q (.ref r) (upd H r (.dK (d.map fun x => (.inr x.1, .str x.2))))) := by
  subst hK
  intro pins s σ H xs us Q I r h
  obtain ⟨p, ys, d, rfl, hp, hl, hz, hn, hy, q⟩ := h
  obtain ⟨u, rfl, ru⟩ := vals1 r
  cases ru
  obtain ⟨its, rv, pl, hsz⟩ := I.list hp
  have hlen : its.length = ys.length := rv.length.symm
  -- the pairs
  have key : ∀ (d : List (Str × Str)) (ys : List V) (its : List Value), Vals ys its → ys.length = d.length → (∀ (i : Nat) (y : V), ys[i]? = some y → ∃ t x, y = .ref t ∧ d[i]? = some x ∧ H t = some (.tup [.str x.1, .str x.2])) →
      ∃ vs : List (Key × Value), KV (d.map fun x => ((.inr x.1 : Key), V.str x.2)) vs ∧ vs.length = its.length ∧ ∀ (i : Nat) (v : Value), its[i]? = some v → ∃ (t : Addr) (kv : Value) (k : Key) (x : Value), v = .ref t ∧ IsTup s.heap t #[kv, x] ∧ vs[i]? = some (k, x) ∧ (mixKind X.prog X.w).is k kv = true := by
    intro d
    induction d with
    | nil =>
      intro ys its rv hl _
      have : ys = [] := List.eq_nil_of_length_eq_zero hl
      subst this
      cases rv
      exact ⟨[], .nil, rfl, fun i v h => by simp at h⟩
    | cons x d ih =>
      intro ys its rv hl hy
      cases rv with
      | nil => cases hl
      | cons r0 rv =>
        obtain ⟨vs, h1, h2, h3⟩ := ih _ _ rv (Nat.succ.inj hl) fun i y hi => hy (i + 1) y hi
        obtain ⟨t, x', e1, e2, e3⟩ := hy 0 _ rfl
        cases e2
        subst e1
        obtain ⟨zs, r1, tu, _⟩ := I.tuple (SqT.of (K := X.K) e3)
        obtain ⟨z0, z1, rfl, rz0, rz1⟩ := vals2 r1
        refine ⟨((.inr x.1 : Key), z1) :: vs, .cons ⟨rfl, rz1⟩ h1, by rw [List.length_cons, List.length_cons, h2], fun i v hv => ?_⟩
        cases i with
        | zero =>
          cases hv
          have r0' : _ = Value.ref t := r0
          exact ⟨t, z0, .inr x.1, z1, r0', tu, rfl, kV_is (k := .inr x.1) rz0⟩
        | succ i => exact h3 i v hv
  obtain ⟨vs, h1, h2, h3⟩ := key d ys its rv hl hy
  have hnv : (vs.map (·.1)).Nodup := by
    rw [kv_keys h1, List.map_map]
    have : ((fun x : Key × V => x.1) ∘ fun x : Str × Str => ((.inr x.1 : Key), V.str x.2)) = fun x => Sum.inr x.1 := rfl
    rw [this]
    have e : (d.map fun x => (Sum.inr x.1 : Key)) = (d.map (·.1)).map Sum.inr := by rw [List.map_map]; rfl
    rw [e]
    exact List.Pairwise.map _ (fun a b h z => h (Sum.inr.inj z)) hn
  have hlv : vs.length = d.length := by rw [h2, hlen, hl]
  obtain ⟨ol, nl, g1, g2, g3, g4⟩ := id pl
  refine dict_pairs (vs := vs) (I.ok.hd hc) pl.isList (fun o ho => by rw [g1] at ho; cases ho; exact g3) hnv (by simp [h2]) (by omega) (fun i v hv => h3 i v (by simpa using hv)) fun h' tk dd old => ?_
  refine ⟨.ref s.heap.objs.size, _, I.laid (o := .dK (d.map fun x => (.inr x.1, .str x.2))) (t' := tk) old (Nat.le_refl _) (dk_new (by rw [List.length_map, sizeLine_eq]; omega) (beq_eq_false_iff_ne.mpr (Ne.symm (Nat.ne_of_lt I.big))) h1 dd), rfl, q _ (I.hok.fresh (Nat.le_refl _))⟩
end

end L2

namespace L2
open PySem PySem.Spec PyProof.Rows
section
variable {X : Cx}
def PSsT (X : Cx) (st : List Stmt) (t : TS) : Prop :=
  ∀ (pins : List (Addr × Obj)) (s : Shared) (σ : St) (H : Hp) (D : Ends), Inw X pins σ H s → t D σ H → wpAny (model X.prog X.w) X.A (execs st X.env) (fun fl s' => SP X pins D fl s' ∧ 0 < s'.toks) X.xe s
theorem pssT_two {i j : Nat} {x y : Str} {n : Int} {c : Nat} {px py p1 p2 p3 pos1 pos2 : Pos} {rest : List Stmt} {u : TS} (hN : X.N.Nodup) (hi : X.N[i]? = some x) (hx : Loc X.env.scope x) (hj : X.N[j]? = some y) (hy : Loc X.env.scope y) (h2 : PSs X rest u)
    (hs1 : swapsWith (.List [] p1) (some (.Name x px)) pos1.line X.env = pure false := by rfl) (hs2 : swapsWith (.UnaryOp .USub (.Constant (.int n) c p2) p3) (some (.Name y py)) pos2.line X.env = pure false := by rfl)
    (hf1 : X.fn x = true ∨ X.env.scope.names.lookup x = some .local := by first | exact .inl rfl | exact .inr rfl | assumption) (hf2 : X.fn y = true ∨ X.env.scope.names.lookup y = some .local := by first | exact .inl rfl | exact .inr rfl | assumption) :
    PSsT X (.Assign [.Name x px] (.List [] p1) pos1 :: .Assign [.Name y py] (.UnaryOp .USub (.Constant (.int n) c p2) p3) pos2 :: rest)
      (tSeq (tAsg (tLst tNil) (gName i)) (tSeq (tAsg (tUn (rU fun i => .int (-i)) (tC (.int n))) (gName j)) u)) := by
  intro pins s σ H D I h
  obtain ⟨hz, h⟩ : (0 : Nat) ≤ sizeLine ∧ ∀ p, H p = none → _ := h
  have hf : H s.heap.objs.size = none := I.hok.fresh (Nat.le_refl _)
  have q : rU (fun i => V.int (-i)) (.int n) (upd H s.heap.objs.size (.lst [])) (fun v H2 => u D ((σ.set i (some (.ref s.heap.objs.size))).set j (some v)) H2) := h _ hf
  refine wpAny_execs_cons (wpAny_Assign_Name (wpAny_List_spliced (Calls.spliced_nil ⟨Nat.zero_le _, ?_⟩)) hs1)
  refine store_ok (I.laid (a := s.heap.objs.size) (o := .lst []) (t' := s.toks) (fun b u e => Heap.get?_push_of_some _ e) (Nat.le_refl _) ⟨hz, [], 0, .nil, Heap.get?_push_size _ rfl⟩) hN hi hx (v := .ref s.heap.objs.size) rfl (fun s2 I2 => ?_) hf1
  refine wpAny_execs_cons (wpAny_Assign_Name (UnaryOp_ (wpAny_Constant_int ?_)) hs2)
  have I3 : Inv X pins _ _ { s2 with toks := s2.toks + 1 } := ⟨I2.tok _, Nat.succ_pos _⟩
  refine thnZ I3.pos (un_neg pins _ _ _ (.int n) _ _ I3 ⟨_, rfl⟩ q) fun v s4 z4 ⟨y4, H4, I4, r4, q4⟩ => ?_
  refine wpAny_tok z4 (store_ok I4 hN hj hy r4 (fun s5 I5 z5 => ?_) hf2)
  exact thnZ z5 (h2 pins s5 _ _ D ⟨I5, z5⟩ q4) fun fl s6 z6 q6 => ⟨q6, z6⟩
end
structure FnOkT (P : Program) (w : World) (K : PySem.W.Frag) (mg : Str → Option Value) (base : Heap) (k : Nat) (f : Addr) (fd : FuncData) (ps : List Str) (sp : Sp) : Prop where
  len : ∀ vs H Q E, sp vs H Q E → vs.length = ps.length
  run : ∀ (A : Around) (outer : List Env) (s : Shared) (H : Hp) (args : Args) (us : List Value) (vs : List V) (Q : VK) (E : XK), Room k A → Env0w P w K mg base A outer s H → BindsTo s fd args (ps.zip us) → Vals vs us → sp vs H Q E →
    codeAny (model P w) A (.call (.ref f) args) (fun r s' => CR CX0 outer P w H s Q E r s' ∧ 0 < s'.toks) s
section
variable {P : Program} {w : World} {K : PySem.W.Frag} {mg : Str → Option Value} {base : Heap}
theorem Fun.okT {x qual : Str} {st : Stmt} {f : Addr} {fd : FuncData} {N ps : List Str} {k : Nat} {sp : Sp} (F : Fun K x qual st f fd) (S : FnScope N ps (defScope st)) (len : ∀ vs H Q E, sp vs H Q E → vs.length = ps.length)
    (hbody : ∀ (cdv : Value) (A : Around) (outer : List Env) (s : Shared) (H : Hp) (vs : List V) (Q : VK) (E : XK), Room k (A.deeper (envOfC qual (defScope st) s.heap.objs.size f cdv)) → sp vs H Q E →
      ∃ t, PSsT (cxOf CX0 P w K mg base N qual (defScope st) f cdv A outer s H E).nox (defBody st) t ∧ t { nx := fun _ H' => Q .non H', rt := Q } (start N vs) H) : FnOkT P w K mg base (k + 1) f fd ps sp := by
  obtain ⟨oc, od, kV, doc, pm, an, cdv, ct, osl, rfl, lk, hcd⟩ := F.ex
  refine ⟨len, fun A outer s H args us vs Q E hr e0 hb r hsp => ?_⟩
  have hl := len _ _ _ _ hsp
  have KX : K.In s.heap := e0.mod.kin.keeps fun b o e => (e0.bs b o e).1
  have lim : s.heap.NoLimit := e0.mod.nolimit.keeps fun b o e => (e0.bs b o e).1
  have hkind : ∀ y ∈ ps.zip us, (defScope st).names.lookup y.1 = some .local ∨ ((defScope st).names.lookup y.1 = some .cell ∧ ((cellsFrom (s.heap.objs.size + 1) (defScope st).names []).lookup y.1).isSome = true) := fun ⟨n, v⟩ hy => by
    rcases S.par n (List.of_mem_zip hy).1 with q | q
    · exact .inl q
    · exact .inr ⟨q, PySem.W.cellsFrom_some _ _ _ (.inl q)⟩
  refine codeAny_call_function hr.depth (KX _ _ lk) rfl S.co S.gen rfl (PySem.W.codeRec_of KX hcd) (hb _ _ _ _ ?_)
  refine wpAny_newFunctionEnv_cells S.kind hkind fun env he s1 x => ?_
  subst he
  refine ⟨lim.keeps x.toInCall.keep, codeAny_func ?_⟩
  obtain ⟨t, ht, hq⟩ := hbody cdv A outer s H vs Q E (hr.deeper _) hsp
  have I : Inw (cxOf CX0 P w K mg base N qual (defScope st) f cdv A outer s H E) [] (start N vs) H s1 := inv_start S hr.hd e0 hl r x
  refine wpAny_mono (ht [] s1 (start N vs) H _ (I.wish _) hq) (fun fl s' hs => ?_) fun e s' hs => False.elim hs
  obtain ⟨hs, z⟩ := hs
  have hs := hs.unwish
  have fin : ∀ {σ' : St} {H' : Hp} {v : V} {u : Value}, Inw (cxOf CX0 P w K mg base N qual (defScope st) f cdv A outer s H E) [] σ' H' s' → RelV v u → Q v H' → CE outer P w H s Q u s' :=
    fun {σ' H' v u} J rv q => ⟨v, H', J.os, J.bare, J.base, J.hok, rv, q⟩
  cases fl with
  | ret u =>
    obtain ⟨v, σ', H', J, rv, q⟩ := hs
    exact ⟨fin J rv q, z⟩
  | next =>
    obtain ⟨σ', H', J, q⟩ := hs
    exact ⟨fin (v := V.non) (u := Value.none) J rfl q, z⟩
  | brk =>
    obtain ⟨_, _, _, q⟩ := hs
    exact False.elim q
  | cont =>
    obtain ⟨_, _, _, q⟩ := hs
    exact False.elim q
end
section
variable {X : Cx}
theorem psW_callT {k i iy : Nat} {f : Addr} {fd : FuncData} {ps : List Str} {sp : Sp} {E : XK} {x y g : Str} {px py pg cpos pos : Pos}
    (F : FnOkT X.prog X.w X.K X.mg X.base k f fd ps sp) (hr : Room k X.A) (hg : Gl X g) (hm : X.mg g = some (.ref f)) (hk : PySem.W.keepIn X.K (.ref f) = true) (hb : Binds X.K fd ps [])
    (hN : X.N.Nodup) (hi : X.N[i]? = some x) (hxl : Loc X.env.scope x) (hy : X.N[iy]? = some y) (hyl : X.env.scope.names.lookup y = some .local) (hdy : (y == ("__debug__" : Str)) = false := by decide) (hdb : (g == ("__debug__" : Str)) = false := by decide)
    (hs : swapsWith (.Call (.Name g pg) [.Name y py] [] cpos) (some (.Name x px)) pos.line X.env = pure false := by rfl)
    (hf : X.fn x = true ∨ X.env.scope.names.lookup x = some .local := by first | exact .inl rfl | exact .inr rfl | assumption) :
    PSW X (.Assign [.Name x px] (.Call (.Name g pg) [.Name y py] [] cpos) pos)
      (fun D σ H => ∃ v, σ[iy]? = some (some v) ∧ sp [v] H (fun u H' => D.nx (σ.set i (some u)) H') E) := by
  intro pins s σ H D I h
  obtain ⟨v, hv, h⟩ := h
  obtain ⟨m, hn, hl⟩ := I.loc
  obtain ⟨u, ru, lk⟩ := hl iy y v hy hv (.inl hyl)
  have hmy : m y = some u := by
    rcases lk with ⟨_, e⟩ | ⟨k, _⟩
    · exact e
    · rcases k with k | k
      · rw [show X.env.kindOf y = some .local from hyl] at k; cases k
      · rw [show X.env.kindOf y = some .local from hyl] at k; cases k
  refine wpAny_Assign_Name ?_ hs
  refine wpAny_Call_Name_kw (Calls.Name_function_global I.ok.kind hg (Calls.loadGlobal_global (by rw [I.ok.glob]; exact I.mod.glob.keeps I.bk) hm ?_) hdb)
  refine PySem.W.callWith_K (h₀ := X.base) I.ok.mod.kin hk ?_ rfl rfl
  refine Calls.spliced_cons (wpAny_Name (pos := py) (wpAny_loadName_local I.ok.kind hyl hn hmy ?_) hdy)
  refine Calls.spliced_nil ⟨I.kIn, ?_⟩
  have r2 : Vals [v] [u] := .cons ru .nil
  have hl2 : ([u] : List Value).length = ps.length := by rw [← r2.length]; exact F.len _ _ _ _ h
  have e0 : Env0w X.prog X.w X.K X.mg X.base X.A X.stack s H := ⟨I.ok.frames, I.ok.mod, I.bs, Nat.le_trans I.ok.bsz I.sz, I.stack, I.stkFree, I.hok, I.bare⟩
  refine wpAny_call (codeAny_mono (F.run X.A X.stack s H ⟨[u], []⟩ [u] [v] _ E hr e0 (hb s [u] I.kIn hl2) r2 h) fun r s' hq => ?_)
  obtain ⟨hq, z⟩ := hq
  cases r with
  | error e => exact False.elim hq
  | ok fl =>
    cases fl with
    | ret u2 =>
      obtain ⟨y2, H2, I2, r3, q2⟩ := I.after hq
      exact wpAny_tok z (store_ok I2 hN hi hxl r3 (fun s3 I3 z3 => ⟨_, H2, ⟨I3, z3⟩, q2⟩) hf)
    | next => exact False.elim hq
    | brk => exact False.elim hq
    | cont => exact False.elim hq
end

end L2

namespace KT
section
variable {κ α β : Type} [DecidableEq κ]
def mod (t : List (κ × α)) (k : κ) (f : Option α → α) : List (κ × α) := match t with
  | [] => [(k, f none)]
  | x :: r => if x.1 = k then (k, f (some x.2)) :: r else x :: mod r k f
def get (t : List (κ × α)) (k : κ) : Option α := match t with
  | [] => none
  | x :: r => if x.1 = k then some x.2 else get r k
theorem mod_get (t : List (κ × α)) (k : κ) (f : Option α → α) : get (mod t k f) k = some (f (get t k)) := by
  induction t with
  | nil => simp [mod, get]
  | cons x r ih =>
    by_cases h : x.1 = k
    · simp [mod, get, h]
    · simp [mod, get, h, ih]
theorem mod_other (t : List (κ × α)) {k j : κ} (f : Option α → α) (h : j ≠ k) : get (mod t k f) j = get t j := by
  induction t with
  | nil => simp [mod, get, Ne.symm h]
  | cons x r ih =>
    by_cases hx : x.1 = k
    · have : ¬ k = j := fun e => h e.symm
      simp [mod, get, hx, this]
    · by_cases hj : x.1 = j
      · rw [mod, if_neg hx]; simp [get, hj]
      · rw [mod, if_neg hx]; simp [get, hj, ih]
theorem mod_mod (t : List (κ × α)) (k : κ) (f g : Option α → α) : mod (mod t k f) k g = mod t k (fun o => g (some (f o))) := by
  induction t with
  | nil => simp [mod]
  | cons x r ih =>
    by_cases h : x.1 = k
    · simp [mod, h]
    · simp [mod, h, ih]
theorem mod_comm (t : List (κ × α)) {k j : κ} (f g : Option α → α) (h : j ≠ k) (hk : (get t k).isSome = true) : mod (mod t j g) k f = mod (mod t k f) j g := by
  induction t with
  | nil => simp [get] at hk
  | cons x r ih =>
    by_cases hx : x.1 = k
    · have h2 : ¬ x.1 = j := fun e => h (e.symm.trans hx)
      have h3 : ¬ k = j := fun e => h e.symm
      simp [mod, hx, h3]
    · by_cases hj : x.1 = j
      · have h4 : ¬ j = k := h
        simp [mod, hj, h4, hx]
      · simp only [get, if_neg hx] at hk
        simp [mod, hx, hj, ih hk]
theorem mod_keys (t : List (κ × α)) (k : κ) (f : Option α → α) : (mod t k f).map (·.1) = if k ∈ t.map (·.1) then t.map (·.1) else t.map (·.1) ++ [k] := by
  induction t with
  | nil => simp [mod]
  | cons x r ih =>
    by_cases h : x.1 = k
    · simp [mod, h]
    · rw [mod, if_neg h, List.map_cons, ih, List.map_cons]
      have h' : ¬ k = x.1 := fun e => h e.symm
      by_cases hk : k ∈ r.map (·.1)
      · rw [if_pos hk, if_pos (List.mem_cons_of_mem _ hk)]
      · rw [if_neg hk, if_neg (by simp only [List.mem_cons, not_or]; exact ⟨h', hk⟩)]
        rfl
theorem mod_mem {t : List (κ × α)} {k : κ} {f : Option α → α} {x : κ × α} (h : x ∈ mod t k f) : x ∈ t ∨ x = (k, f (get t k)) := by
  induction t with
  | nil => simp [mod] at h; exact .inr (by simp [get, h])
  | cons y r ih =>
    by_cases hy : y.1 = k
    · rw [mod, if_pos hy] at h
      rcases List.mem_cons.mp h with h | h
      · exact .inr (by rw [h, get, if_pos hy])
      · exact .inl (List.mem_cons_of_mem _ h)
    · rw [mod, if_neg hy] at h
      rcases List.mem_cons.mp h with h | h
      · exact .inl (by rw [h]; exact List.mem_cons_self)
      · rcases ih h with h | h
        · exact .inl (List.mem_cons_of_mem _ h)
        · exact .inr (by rw [h, get, if_neg hy])
theorem get_in {t : List (κ × α)} {k : κ} {v : α} (h : get t k = some v) : (k, v) ∈ t := by
  induction t with
  | nil => cases h
  | cons y r ih =>
    by_cases hy : y.1 = k
    · rw [get, if_pos hy] at h
      rw [← Option.some.inj h, ← hy]
      exact List.mem_cons_self
    · rw [get, if_neg hy] at h
      exact List.mem_cons_of_mem _ (ih h)
theorem get_mem {t : List (κ × α)} {k : κ} : (get t k).isSome = true ↔ k ∈ t.map (·.1) := by
  induction t with
  | nil => simp [get]
  | cons x r ih =>
    by_cases h : x.1 = k
    · simp [get, h]
    · have h' : ¬ k = x.1 := fun e => h e.symm
      rw [get, if_neg h, ih, List.map_cons, List.mem_cons]
      exact ⟨.inr, fun e => e.resolve_left h'⟩
end
section
variable {κ : Type} [DecidableEq κ]
abbrev Pl (κ : Type) := List (κ × List Int)
def addP (p : Pl κ) (w : κ) (i : Int) : Pl κ := mod p w fun o => o.getD [] ++ [i]
def plc (p : Pl κ) (i : Int) : List κ → Pl κ
  | [] => p
  | w :: r => plc (addP p w i) (i + 1) r
abbrev Rw := List (Int × List Int)
abbrev Wt (κ : Type) := List (κ × Rw)
def putW (m : Int) (D : Wt κ) (x : κ × List Int) : Wt κ := mod D x.1 fun o => o.getD [] ++ [(m, x.2)]
def putAll (m : Int) (D : Wt κ) (p : Pl κ) : Wt κ := p.foldl (putW m) D
def occ (m : Int) (D : Wt κ) (w : κ) (i : Int) : Wt κ := mod D w fun o => mod (o.getD []) m fun q => q.getD [] ++ [i]
def occs (m : Int) (D : Wt κ) (i : Int) : List κ → Wt κ
  | [] => D
  | w :: r => occs m (occ m D w i) (i + 1) r
def Free (m : Int) (D : Wt κ) : Prop := ∀ w r, get D w = some r → get r m = none
theorem mod_end {κ α : Type} [DecidableEq κ] {r : List (κ × α)} {m : κ} (h : get r m = none) (f : Option α → α) : mod r m f = r ++ [(m, f none)] := by
  induction r with
  | nil => simp [mod]
  | cons x r ih =>
    by_cases hx : x.1 = m
    · simp [get, hx] at h
    · simp only [get, if_neg hx] at h
      simp [mod, hx, ih h]
theorem mod_id {κ α : Type} [DecidableEq κ] {t : List (κ × α)} {k : κ} {v : α} (h : get t k = some v) : mod t k (fun _ => v) = t := by
  induction t with
  | nil => cases h
  | cons x r ih =>
    by_cases hx : x.1 = k
    · rw [get, if_pos hx] at h
      rw [mod, if_pos hx, ← Option.some.inj h, ← hx]
    · rw [get, if_neg hx] at h
      rw [mod, if_neg hx, ih h]
theorem mod_last {r : Rw} {m : Int} {q : List Int} (h : get r m = none) (f : Option (List Int) → List Int) : mod (r ++ [(m, q)]) m f = r ++ [(m, f (some q))] := by
  induction r with
  | nil => simp [mod]
  | cons x r ih =>
    by_cases hx : x.1 = m
    · simp [get, hx] at h
    · simp only [get, if_neg hx] at h
      simp [mod, hx, ih h]
theorem mod_congr {α : Type} {t : List (κ × α)} {k : κ} {f g : Option α → α} (h : f (get t k) = g (get t k)) : mod t k f = mod t k g := by
  induction t with
  | nil => simp only [get] at h; simp [mod, h]
  | cons x r ih =>
    by_cases hx : x.1 = k
    · simp only [get, if_pos hx] at h
      simp [mod, hx, h]
    · simp only [get, if_neg hx] at h
      simp [mod, hx, ih h]
theorem occ_put {m : Int} {D : Wt κ} {w : κ} {q : List Int} {i : Int} (hf : ∀ r, get D w = some r → get r m = none) : occ m (putW m D (w, q)) w i = putW m D (w, q ++ [i]) := by
  unfold occ putW
  rw [mod_mod]
  apply mod_congr
  have h0 : get ((get D w).getD []) m = none := by
    cases h : get D w with
    | none => rfl
    | some r => exact hf r h
  show mod ((some ((get D w).getD [] ++ [(m, q)])).getD []) m _ = _
  rw [Option.getD_some, mod_last h0]
  rfl
theorem occ_new {m : Int} {D : Wt κ} {w : κ} {i : Int} (hf : ∀ r, get D w = some r → get r m = none) : occ m D w i = putW m D (w, [i]) := by
  unfold occ putW
  apply mod_congr
  have h0 : get ((get D w).getD []) m = none := by
    cases h : get D w with
    | none => rfl
    | some r => exact hf r h
  rw [mod_end h0]
  rfl
theorem occ_all {m : Int} {w : κ} {i : Int} : ∀ (p : Pl κ) (D : Wt κ), w ∉ p.map (·.1) → (get D w).isSome = true → occ m (putAll m D p) w i = putAll m (occ m D w i) p
  | [], D, _, _ => rfl
  | x :: p, D, hn, hd => by
    have hx : x.1 ≠ w := fun e => hn (by rw [List.map_cons, ← e]; exact List.mem_cons_self)
    show occ m (putAll m (putW m D x) p) w i = putAll m (putW m (occ m D w i) x) p
    rw [occ_all p (putW m D x) (fun e => hn (List.mem_cons_of_mem _ e)) (by unfold putW; rw [mod_other _ _ (Ne.symm hx)]; exact hd)]
    congr 1
    unfold occ putW
    exact mod_comm D _ _ hx hd
theorem put_add {m : Int} {w : κ} {i : Int} : ∀ (p : Pl κ) (D : Wt κ), (∀ r, get D w = some r → get r m = none) → (p.map (·.1)).Nodup → putAll m D (addP p w i) = occ m (putAll m D p) w i
  | [], D, hf, _ => (occ_new hf).symm
  | x :: p, D, hf, nd => by
    rw [List.map_cons, List.nodup_cons] at nd
    by_cases hx : x.1 = w
    · have e : addP (x :: p) w i = (w, x.2 ++ [i]) :: p := by unfold addP; rw [mod, if_pos hx]; rfl
      have ex : x = (w, x.2) := Prod.ext hx rfl
      rw [e]
      show putAll m (putW m D (w, x.2 ++ [i])) p = occ m (putAll m (putW m D x) p) w i
      rw [occ_all p (putW m D x) (by rw [← hx]; exact nd.1) (by unfold putW; rw [hx, mod_get]; rfl)]
      congr 1
      rw [ex]
      exact (occ_put hf).symm
    · have e : addP (x :: p) w i = x :: addP p w i := by unfold addP; rw [mod, if_neg hx]
      rw [e]
      show putAll m (putW m D x) (addP p w i) = occ m (putAll m (putW m D x) p) w i
      exact put_add p (putW m D x) (fun r hr => hf r (by unfold putW at hr; rw [mod_other _ _ (Ne.symm hx)] at hr; exact hr)) nd.2
theorem add_len {p : Pl κ} {w : κ} {i : Int} {n : Nat} (h : ∀ x ∈ p, x.2.length ≤ n) : ∀ x ∈ addP p w i, x.2.length ≤ n + 1 := fun x hx => by
  rcases mod_mem hx with h1 | h1
  · exact Nat.le_succ_of_le (h x h1)
  · rw [h1]
    show ((get p w).getD [] ++ [i]).length ≤ n + 1
    rw [List.length_append, List.length_singleton]
    cases hg : get p w with
    | none => simp
    | some ps =>
      have := h _ (get_in hg)
      exact Nat.succ_le_succ this
theorem add_nodup {p : Pl κ} {w : κ} {i : Int} (h : (p.map (·.1)).Nodup) : ((addP p w i).map (·.1)).Nodup := by
  unfold addP
  rw [mod_keys]
  split
  · exact h
  · rename_i hn
    rw [List.nodup_append]
    exact ⟨h, by simp, fun a ha b hb => by rw [List.mem_singleton.mp hb]; intro e; rw [e] at ha; exact hn ha⟩
theorem putW_len {m : Int} {D : Wt κ} {y : κ × List Int} {n : Nat} (h : ∀ x ∈ D, x.2.length ≤ n) : ∀ x ∈ putW m D y, x.2.length ≤ n + 1 := fun x hx => by
  rcases mod_mem hx with h1 | h1
  · exact Nat.le_succ_of_le (h x h1)
  · rw [h1]
    show ((get D y.1).getD [] ++ [(m, y.2)]).length ≤ n + 1
    rw [List.length_append, List.length_singleton]
    cases hg : get D y.1 with
    | none => simp
    | some r =>
      have := h _ (get_in hg)
      exact Nat.succ_le_succ this
theorem putAll_snoc (m : Int) (D : Wt κ) (p : Pl κ) (x : κ × List Int) : putAll m D (p ++ [x]) = putW m (putAll m D p) x := by
  unfold putAll
  rw [List.foldl_append]
  rfl
theorem occs_plc {m : Int} {D : Wt κ} (hf : Free m D) : ∀ (ws : List κ) (p : Pl κ) (i : Int), (p.map (·.1)).Nodup → occs m (putAll m D p) i ws = putAll m D (plc p i ws)
  | [], p, i, _ => rfl
  | w :: ws, p, i, nd => by
    rw [occs, plc, ← put_add p D (hf w) nd]
    exact occs_plc hf ws (addP p w i) (i + 1) (add_nodup nd)
theorem plc_nodup : ∀ (ws : List κ) (p : Pl κ) (i : Int), (p.map (·.1)).Nodup → ((plc p i ws).map (·.1)).Nodup
  | [], p, i, h => h
  | w :: ws, p, i, h => plc_nodup ws _ _ (add_nodup h)
end
end KT


namespace KW
def ws (c : Nat) : Bool := decide (97 ≤ c ∧ c ≤ 122) || decide (65 ≤ c ∧ c ≤ 90) || decide (48 ≤ c ∧ c ≤ 57)
def wsO (o : Option Nat) : Bool := match o with
  | some c => ws c
  | none => false
def sm (c : Nat) : Nat := if 65 ≤ c ∧ c ≤ 90 then c + 32 else c
abbrev Wd := List Nat × Nat × Nat
abbrev Sc := List Wd × List Nat
def stp (n : Nat) (o : Option Nat) (st : Sc) : Sc := match o with
  | some c => if ws c = true then (st.1, st.2 ++ [sm c]) else if st.2 = [] then st else (st.1 ++ [(st.2, n - st.2.length, n)], [])
  | none => if st.2 = [] then st else (st.1 ++ [(st.2, n - st.2.length, n)], [])
def scan (t : List Nat) : Nat → Sc
  | 0 => ([], [])
  | n + 1 => stp n t[n]? (scan t n)
def words (t : List Nat) : List Wd := (scan t (t.length + 1)).1
theorem scan_word_len (t : List Nat) : ∀ n, (scan t n).2.length ≤ n
  | 0 => Nat.le_refl _
  | n + 1 => by
    have ih := scan_word_len t n
    rw [scan]
    unfold stp
    cases t[n]? with
    | none => dsimp only; split <;> simp <;> omega
    | some c => dsimp only; split <;> try split
                all_goals simp
                all_goals omega
theorem stp_flush {n : Nat} {o : Option Nat} {st : Sc} (h : wsO o = false) : stp n o st = if st.2 = [] then st else (st.1 ++ [(st.2, n - st.2.length, n)], []) := by
  unfold stp
  cases o with
  | none => rfl
  | some c =>
    have h' : ws c = false := h
    dsimp only
    rw [if_neg (by rw [h']; decide)]
theorem stp_grow {n : Nat} {c : Nat} {st : Sc} (h : ws c = true) : stp n (some c) st = (st.1, st.2 ++ [sm c]) := by
  unfold stp
  dsimp only
  rw [if_pos h]
theorem scan_run (t : List Nat) (b : Nat) (h0 : (scan t b).2 = []) : ∀ k, b + k ≤ t.length → (∀ i, b ≤ i → i < b + k → wsO t[i]? = true) → scan t (b + k) = ((scan t b).1, ((t.drop b).take k).map sm)
  | 0, _, _ => by
    rw [Nat.add_zero, List.take_zero, List.map_nil, ← h0]
  | k + 1, hl, h => by
    have ih := scan_run t b h0 k (by omega) fun i h1 h2 => h i h1 (by omega)
    have hw := h (b + k) (by omega) (by omega)
    rw [← Nat.add_assoc, scan, ih]
    cases e : t[b + k]? with
    | none => rw [e] at hw; cases hw
    | some c =>
      rw [e] at hw
      rw [stp_grow hw]
      have e2 : (t.drop b)[k]? = some c := by rw [List.getElem?_drop]; exact e
      dsimp only
      rw [List.take_add_one, e2, List.map_append]
      rfl
theorem scan_end (t : List Nat) (b k : Nat) (h0 : (scan t b).2 = []) (hl : b + k ≤ t.length) (h : ∀ i, b ≤ i → i < b + k → wsO t[i]? = true) (he : wsO t[b + k]? = false) :
    scan t (b + k + 1) = (if k = 0 then (scan t b).1 else (scan t b).1 ++ [(((t.drop b).take k).map sm, b, b + k)], []) := by
  rw [scan, scan_run t b h0 k hl h, stp_flush he]
  have hlen : (((t.drop b).take k).map sm).length = k := by rw [List.length_map, List.length_take, List.length_drop]; omega
  dsimp only
  by_cases hk : k = 0
  · subst hk
    rw [List.take_zero, List.map_nil, if_pos rfl, if_pos rfl]
  · rw [if_neg hk, if_neg (by intro e; rw [e] at hlen; simp at hlen; omega), hlen]
    have e : b + k - k = b := by omega
    rw [e]
theorem scan_over (t : List Nat) (b : Nat) (h0 : (scan t b).2 = []) (h : t.length ≤ b) : ∀ k, scan t (b + k) = scan t b
  | 0 => rfl
  | k + 1 => by
    rw [← Nat.add_assoc, scan, scan_over t b h0 h k, List.getElem?_eq_none (by omega), stp_flush rfl, if_pos h0]
theorem words_of_scan (t : List Nat) (b : Nat) (h0 : (scan t b).2 = []) (h : t.length ≤ b) (h' : b ≤ t.length + 1) : words t = (scan t b).1 := by
  unfold words
  obtain ⟨k, hk⟩ : ∃ k, t.length + 1 = b + k := ⟨t.length + 1 - b, by omega⟩
  rw [hk, scan_over t b h0 h k]
theorem scan_len (t : List Nat) : ∀ n, (scan t n).1.length ≤ n
  | 0 => Nat.le_refl _
  | n + 1 => by
    have ih := scan_len t n
    rw [scan]
    by_cases hw : wsO t[n]? = true
    · cases e : t[n]? with
      | none => rw [e] at hw; cases hw
      | some c => rw [e] at hw; rw [stp_grow hw]; exact Nat.le_succ_of_le ih
    · rw [stp_flush (by simpa using hw)]
      split
      · exact Nat.le_succ_of_le ih
      · rw [List.length_append, List.length_singleton]; omega
end KW
namespace K6
open PySem L2 KW KT
local macro_rules
  | `(tactic| simpa only [$xs,*]) => `(tactic| simp only [tIfS, tAnd, tOr, tNot, tB, tVar, tTest, tOp, tC, tUn, tCB, tCons, tNil, rI0, rI, rU, rNe, rEq, scal, rAppend, tBM, tDrop, tSeq, tAsg, gName, tRet, tNext, List.set_cons_zero, List.set_cons_succ, List.getElem?_cons_zero, List.getElem?_cons_succ, Option.some.injEq, V.int.injEq, V.bl.injEq, V.ref.injEq, V.str.injEq, exists_eq_left', exists_eq_left, exists_and_left, List.cons.injEq, and_true, true_and, and_assoc, exists_const, L2.start, List.map_cons, List.map_nil, List.length_cons, List.length_nil, List.replicate_succ, List.replicate_zero, List.cons_append, List.nil_append, List.append_nil, Nat.reduceAdd, Nat.reduceSub, tFor_eq, tComp_eq, tWhile_eq, tChain, tAug, ipI, rIxS, rSlS, rLower, rIndex, rPop, rCat, tBM0, gSub, rSetL, tSl, tPart, tNoPart, rSlL, tCall, tLst, tTup, iRng1, iRng2, iRng3, iList, iEnum, gTup, gCons, gNil, rIxL, rIxT, tYes, tAndV, tOrV, tNotV, tIf, tTest, exists_eq', List.ne_cons_self, reduceCtorEq, if_true, if_false, and_false, false_and, $xs,*])
def top (i : Nat) : Stmt := PySem.Challenge.pw_findcourt_k06_pieces.main.body.getD i (.Pass ⟨0, 0, 0, 0⟩)
abbrev sSmall : Stmt := top 8
abbrev sFig : Stmt := top 9
abbrev sSign : Stmt := top 10
abbrev sName : Stmt := top 11
abbrev sLook : Stmt := top 12
abbrev sEnd : Stmt := top 13
abbrev sWords : Stmt := top 14
abbrev sBare : Stmt := top 15
abbrev sPlaces : Stmt := top 5
abbrev sWhole : Stmt := top 17
abbrev sMakes : Stmt := top 18
abbrev sAdd : Stmt := top 19
abbrev sDraws : Stmt := top 23
abbrev sText : Stmt := top 24
abbrev sDoc : Stmt := top 25
abbrev sLW : Stmt := top 26
abbrev sTab : Stmt := top 27
abbrev sTel : Stmt := top 28
abbrev sMks : Stmt := top 29
abbrev sSpo : Stmt := top 30
abbrev sLaw : Stmt := top 31
abbrev sInit : Stmt := inClass (top 20) 0
abbrev sPM : Stmt := inClass (top 20) 1
abbrev sPF : Stmt := inClass (top 20) 2
abbrev sPW : Stmt := inClass (top 20) 3
abbrev sPP : Stmt := inClass (top 20) 4
abbrev sPL : Stmt := inClass (top 20) 5
structure Txt (mg : Str → Option Value) : Prop where
  len : mg "len" = none
  range : mg "range" = none
  isinstance : mg "isinstance" = none
  int : mg "int" = none
  bool : mg "bool" = none
  list : mg "list" = none
  dict : mg "dict" = none
  abs : mg "abs" = none
  min : mg "min" = none
  sorted : mg "sorted" = none
  all : mg "all" = none
  enumerate : mg "enumerate" = none
  most : ∃ t, mg "MOST_NAME_SIGNS" = some (.int 12 t)
def dvW (x : Wd) : DV := .tup [.str ⟨x.1.toArray⟩, .int x.2.1, .int x.2.2]
def Asc (z : Str) : Prop := ∀ c ∈ z.cps.toList, c < 128
def spSmall : Sp := fun vs H Q _ => ∃ c : Nat, vs = [.str ⟨#[c]⟩] ∧ Q (.bl (decide (97 ≤ c ∧ c ≤ 122))) H
def spFig : Sp := fun vs H Q _ => ∃ c : Nat, vs = [.str ⟨#[c]⟩] ∧ Q (.bl (decide (48 ≤ c ∧ c ≤ 57))) H
def spSign : Sp := fun vs H Q _ => ∃ c : Nat, vs = [.str ⟨#[c]⟩] ∧ Q (.bl (ws c)) H
def spEnd : Sp := fun vs H Q _ => ∃ (z : Str) (b : Nat), vs = [.str z, .int b] ∧ z.length ≤ 1000 ∧ b ≤ z.length ∧
  ∀ e : Nat, b ≤ e → e ≤ z.length → (∀ i, b ≤ i → i < e → wsO z.cps.toList[i]? = true) → wsO z.cps.toList[e]? = false → Q (.int e) H
def spWords : Sp := fun vs H Q _ => ∃ z : Str, vs = [.str z] ∧ z.length ≤ 1000 ∧ Asc z ∧
  ∀ (r : Addr) (xs : List V) (H' : Hp), Same H H' → H r = none → H' r = some (.lst xs) → DeepTs (hide r H') ((words z.cps.toList).map dvW) xs → Q (.ref r) H'
theorem lt1 (a b : Nat) : decide ([a] < [b]) = decide (a < b) := by
  by_cases h : a < b
  · rw [decide_eq_true h]
    exact decide_eq_true (List.cons_lt_cons_iff.mpr (.inl h))
  · rw [decide_eq_false h]
    refine decide_eq_false fun q => ?_
    rcases List.cons_lt_cons_iff.mp q with q | ⟨_, q⟩
    · exact h q
    · cases q
theorem cs1 (c : Nat) : (⟨#[c]⟩ : Str).cps.toList = [c] := rfl
theorem csa : ("a" : Str).cps.toList = [97] := by decide +kernel
theorem csz : ("z" : Str).cps.toList = [122] := by decide +kernel
theorem csA : ("A" : Str).cps.toList = [65] := by decide +kernel
theorem csZ : ("Z" : Str).cps.toList = [90] := by decide +kernel
theorem cs0 : ("0" : Str).cps.toList = [48] := by decide +kernel
theorem cs9 : ("9" : Str).cps.toList = [57] := by decide +kernel
theorem slen (z : Str) : z.cps.toList.length = z.length := by simp [Str.length]
section
variable {P : Program} {w : World} {K : PySem.W.Frag} {mg : Str → Option Value} {base : Heap} {f : Addr} {fd : FuncData}
theorem scSmall : FnScope ["sign"] ["sign"] (defScope sSmall) := ⟨rfl, rfl, rfl, by decide +kernel, rfl, by decide +kernel, by decide +kernel⟩
theorem ok_small (F : Fun K "is_small_letter" "is_small_letter" sSmall f fd) : FnOk P w K mg base CX0 1 f fd ["sign"] spSmall := by
  refine F.ok scSmall (fun vs H Q E h => ?_) (fun cdv A outer s H vs Q E hr h => ?_)
  · obtain ⟨c, rfl, _⟩ := h
    rfl
  obtain ⟨c, rfl, q⟩ := h
  refine ⟨_, (pss_one (ps_ret (pe_chain op_le_str op_le_str pe_str (pv 0) pe_str))), ?_⟩
  simpa only [V.str.injEq]
  simp only [csa, csz, cs1, lt1]
  refine ite2 (fun h1 => ?_) (fun h1 => ?_)
  · have e : (!decide (122 < c)) = decide (97 ≤ c ∧ c ≤ 122) := by
      rw [Bool.eq_iff_iff]; simp at h1 ⊢; omega
    rw [e]; exact q
  · have e : false = decide (97 ≤ c ∧ c ≤ 122) := by
      symm; apply decide_eq_false; simp at h1; omega
    rw [e]; exact q
theorem scFig : FnScope ["sign"] ["sign"] (defScope sFig) := ⟨rfl, rfl, rfl, by decide +kernel, rfl, by decide +kernel, by decide +kernel⟩
theorem ok_fig (F : Fun K "is_figure" "is_figure" sFig f fd) : FnOk P w K mg base CX0 1 f fd ["sign"] spFig := by
  refine F.ok scFig (fun vs H Q E h => ?_) (fun cdv A outer s H vs Q E hr h => ?_)
  · obtain ⟨c, rfl, _⟩ := h
    rfl
  obtain ⟨c, rfl, q⟩ := h
  refine ⟨_, (pss_one (ps_ret (pe_chain op_le_str op_le_str pe_str (pv 0) pe_str))), ?_⟩
  simpa only [V.str.injEq]
  simp only [cs0, cs9, cs1, lt1]
  have fin : ∀ k, k = decide (48 ≤ c ∧ c ≤ 57) → Q (.bl k) H := fun k e => by rw [e]; exact q
  refine ite2 (fun h1 => fin _ ?_) (fun h1 => fin _ ?_)
  · rw [Bool.eq_iff_iff]; simp at h1 ⊢; omega
  · symm; apply decide_eq_false; simp at h1; omega
theorem scSign : FnScope ["sign"] ["sign"] (defScope sSign) := ⟨rfl, rfl, rfl, by decide +kernel, rfl, by decide +kernel, by decide +kernel⟩
theorem ok_sign {g g' : Addr} {gd gd' : FuncData} (F : Fun K "is_word_sign" "is_word_sign" sSign f fd) (GS : FnOk P w K mg base CX0 1 g gd ["sign"] spSmall) (bS : Binds K gd ["sign"] []) (kS : PySem.W.keepIn K (.ref g) = true) (mS : mg "is_small_letter" = some (.ref g))
    (GFg : FnOk P w K mg base CX0 1 g' gd' ["sign"] spFig) (bFg : Binds K gd' ["sign"] []) (kFg : PySem.W.keepIn K (.ref g') = true) (mFg : mg "is_figure" = some (.ref g')) : FnOk P w K mg base CX0 2 f fd ["sign"] spSign := by
  refine F.ok scSign (fun vs H Q E h => ?_) (fun cdv A outer s H vs Q E hr h => ?_)
  · obtain ⟨c, rfl, _⟩ := h
    rfl
  obtain ⟨c, rfl, q⟩ := h
  refine ⟨_, (pss_one (ps_ret (pe_or (pe_call GS hr rfl mS kS bS .nil pass0 (pa_cons (pv 0) pa_nil)) (pe_or (pe_chain op_le_str op_le_str pe_str (pv 0) pe_str) (pe_one (pe_call GFg hr rfl mFg kFg bFg .nil pass0 (pa_cons (pv 0) pa_nil))))))), ?_⟩
  simpa only [spSmall, spFig, V.str.injEq]
  refine ⟨c, rfl, ?_⟩
  simp only [csA, csZ, cs1, lt1]
  have fin : ∀ k, k = ws c → Q (.bl k) H := fun k e => by rw [e]; exact q
  refine ite2 (fun h1 => ?_) (fun h1 => ?_)
  · apply fin; unfold ws; simp at h1; simp [h1]
  · refine ite2 (fun h2 => ?_) (fun h2 => ?_)
    · refine ite2 (fun h3 => ?_) (fun h3 => ⟨c, rfl, ?_⟩)
      · apply fin; unfold ws; simp at h1 h2 h3; simp; omega
      · apply fin; unfold ws; rw [Bool.eq_iff_iff]; simp at h1 h2 h3 ⊢; omega
    · refine ⟨c, rfl, ?_⟩
      apply fin; unfold ws; rw [Bool.eq_iff_iff]; simp at h1 h2 ⊢; omega
theorem scEnd : FnScope ["text", "begin", "end"] ["text", "begin"] (defScope sEnd) := ⟨rfl, rfl, rfl, by decide +kernel, rfl, by decide +kernel, by decide +kernel⟩
def invE (z : Str) (b : Nat) (H : Hp) (σ : St) (L : Hp) : Prop := ∃ e : Nat, σ = [some (.str z), some (.int b), some (.int e)] ∧ L = H ∧ b ≤ e ∧ e ≤ z.length ∧ ∀ i, b ≤ i → i < e → wsO z.cps.toList[i]? = true
def muE (z : Str) (σ : St) (_ : Hp) : Nat := match σ with
  | [_, _, some (.int e)] => z.length - e.toNat
  | _ => 0
theorem ok_end {g : Addr} {gd : FuncData} (F : Fun K "end_of_word" "end_of_word" sEnd f fd) (T : Txt mg) (GS : FnOk P w K mg base CX0 2 g gd ["sign"] spSign) (bS : Binds K gd ["sign"] []) (kS : PySem.W.keepIn K (.ref g) = true) (mS : mg "is_word_sign" = some (.ref g)) : FnOk P w K mg base CX0 3 f fd ["text", "begin"] spEnd := by
  refine F.ok scEnd (fun vs H Q E h => ?_) (fun cdv A outer s H vs Q E hr h => ?_)
  · obtain ⟨z, b, rfl, _⟩ := h
    rfl
  obtain ⟨z, b, rfl, hz, hb, q⟩ := h
  refine ⟨_, (pss_cons (ps_set (i := 2) scEnd.nd rfl (Or.inl rfl) (pv 1))
    (pss_cons (ps_while PassesOwn.never (PW.pt (pw_and (pt_cmpR op_lt (pv 2) (pe_callB call_len_str rfl T.len PySem.boot_len (pa_cons (pv 0) pa_nil)) (nomark _)) (pw_and1 (pt_val (pe_call GS hr rfl mS kS bS .nil pass0 (pa_cons (pe_ix ix_str (pv 0) (pv 2) (fun _ _ => rfl)) pa_nil))))))
      (pss_one (ps_aug (i := 2) scEnd.nd rfl (Or.inl rfl) pe_int ip_add)))
    (pss_one (ps_ret (pv 2))))), ?_⟩
  simpa only [and_self]
  refine whileW2 (invE z b H) (muE z) ⟨b, rfl, rfl, Nat.le_refl _, hb, fun i h1 h2 => absurd h2 (by omega)⟩ ?_
  rintro σ L ⟨e, rfl, rfl, he, hel, hw⟩
  simpa only [spSign, V.str.injEq]
  have hsz : z.length ≤ sizeLine := small hz
  refine ⟨hsz, ite2 (fun c => ⟨hsz, ?_⟩) (fun c => ?_)⟩
  · have c' : e < z.cps.toList.length := by rw [slen]; have := of_decide_eq_true c; omega
    refine ⟨_, atI_nat (List.getElem?_eq_getElem c'), _, rfl, ?_⟩
    refine ite2 (fun hw1 => ?_) (fun hw1 => ?_)
    · refine ⟨fun σ' H' => ∃ m', m' < muE z [some (V.str z), some (V.int b), some (V.int e)] L ∧ m' = muE z σ' H' ∧ invE z b L σ' H', fun _ _ h => h, ?_⟩
      rw [slen] at c'
      refine ⟨_, ?_, rfl, e + 1, by simp, rfl, by omega, by omega, fun i h1 h2 => ?_⟩
      · show z.length - ((e : Int) + 1).toNat < z.length - ((e : Int)).toNat
        omega
      · by_cases hi : i = e
        · subst hi
          rw [List.getElem?_eq_getElem (by rw [slen]; exact c')]
          exact hw1
        · exact hw i h1 (by omega)
    · refine q e he hel hw ?_
      rw [List.getElem?_eq_getElem c']
      simpa [wsO] using hw1
  · have c' : e = z.length := by have := of_decide_eq_false (Bool.eq_false_iff.mpr c); omega
    refine q e he hel hw ?_
    rw [List.getElem?_eq_none (by rw [slen]; omega)]
    rfl
theorem scWords : FnScope ["text", "found", "begin", "end"] ["text"] (defScope sWords) := ⟨rfl, rfl, rfl, by decide +kernel, rfl, by decide +kernel, by decide +kernel⟩
def invW (z : Str) (r : Addr) (H : Hp) (σ : St) (L : Hp) : Prop := ∃ (b : Nat) (v3 : Option V) (xs : List V), σ = [some (.str z), some (.ref r), some (.int b), v3] ∧ Same H L ∧ L r = some (.lst xs) ∧ b ≤ z.length + 1 ∧ (scan z.cps.toList b).2 = [] ∧ xs.length ≤ b ∧
  DeepTs (hide r L) ((scan z.cps.toList b).1.map dvW) xs
def muW (z : Str) (σ : St) (_ : Hp) : Nat := match σ with
  | [_, _, some (.int b), _] => z.length + 1 - b.toNat
  | _ => 0
theorem lo_sm : PyProof.Rows.lo1 = sm := by funext c; rfl
theorem ok_words {g : Addr} {gd : FuncData} (F : Fun K "words_of" "words_of" sWords f fd) (T : Txt mg) (GE : FnOk P w K mg base CX0 3 g gd ["text", "begin"] spEnd) (bE : Binds K gd ["text", "begin"] []) (kE : PySem.W.keepIn K (.ref g) = true) (mE : mg "end_of_word" = some (.ref g)) : FnOk P w K mg base CX0 4 f fd ["text"] spWords := by
  refine F.ok scWords (fun vs H Q E h => ?_) (fun cdv A outer s H vs Q E hr h => ?_)
  · obtain ⟨z, rfl, _⟩ := h
    rfl
  obtain ⟨z, rfl, hz, hA, q⟩ := h
  refine ⟨_, (pss_cons (ps_set (i := 1) scWords.nd rfl (Or.inl rfl) (pe_lst pa_nil))
    (pss_cons (ps_set (i := 2) scWords.nd rfl (Or.inl rfl) pe_int)
    (pss_cons (ps_while PassesOwn.never (pt_cmpR op_lt (pv 2) (pe_callB call_len_str rfl T.len PySem.boot_len (pa_cons (pv 0) pa_nil)) (nomark _))
      (pss_cons (ps_set (i := 3) scWords.nd rfl (Or.inl rfl) (pe_call GE hr rfl mE kE bE .nil pass0 (pa_cons (pv 0) (pa_cons (pv 2) pa_nil))))
    (pss_cons (ps_if (pt_cmpR op_gt (pv 3) (pv 2) (nomark _)) (pss_one (ps_expr (bmK K PySem.F.plainAttrs_list PySem.F.slot_list_append PySem.F.type_list_append mt_append (pv 1) (pa_cons (pe_tup (pa_cons (bm0K K PySem.F.plainAttrs_str PySem.F.slot_str_lower PySem.F.type_str_lower mt_lower (pe_slice sl_str (pv 0) (po_some (pv 2)) (po_some (pv 3)))) (pa_cons (pv 2) (pa_cons (pv 3) pa_nil)))) pa_nil)))) pss_nil)
    (pss_one (ps_set (i := 2) scWords.nd rfl (Or.inl rfl) (pe_op op_add (pv 3) pe_int))))))
    (pss_one (ps_ret (pv 1)))))), ?_⟩
  have hsz : z.length ≤ sizeLine := small hz
  simpa only [and_self]
  refine ⟨by decide, fun r hn => ?_⟩
  refine whileW2 (invW z r H) (muW z) ⟨0, none, [], rfl, same_new hn _, upd_same, Nat.zero_le _, rfl, Nat.le_refl _, DeepTs.nil⟩ ?_
  rintro σ L ⟨b, v3, xs, rfl, sL, hR, hb, h0, hxl, hD⟩
  simpa only [spEnd]
  refine ⟨hsz, ite2 (fun c => ?_) (fun c => ?_)⟩
  · have c' : b < z.length := by have := of_decide_eq_true c; omega
    refine ⟨fun σ' H' => ∃ m', m' < muW z [some (V.str z), some (V.ref r), some (V.int b), v3] L ∧ m' = muW z σ' H' ∧ invW z r H σ' H', fun _ _ h => h, ?_⟩
    refine ⟨b, rfl, hz, by omega, fun e he hel hw hend => ?_⟩
    obtain ⟨k, rfl⟩ : ∃ k, e = b + k := ⟨e - b, by omega⟩
    have hse := scan_end z.cps.toList b k h0 (by rw [slen]; exact hel) hw hend
    have mu : muW z [some (V.str z), some (V.ref r), some (V.int (((b + k : Nat) : Int) + 1)), some (V.int ((b + k : Nat) : Int))] L < muW z [some (V.str z), some (V.ref r), some (V.int b), v3] L := by
      show z.length + 1 - (((b + k : Nat) : Int) + 1).toNat < z.length + 1 - ((b : Int)).toNat
      omega
    have ei : (((b + k : Nat) : Int) + 1) = ((b + k + 1 : Nat) : Int) := by omega
    refine ite2 (fun d => ?_) (fun d => ?_)
    · have hk : k ≠ 0 := by have := of_decide_eq_true d; omega
      have ec : cutL z.cps.toList (some ((b : Nat) : Int)) (some ((b + k : Nat) : Int)) = (z.cps.toList.drop b).take k := by
        rw [cutL_nat _ (by omega)]
        congr 1
        omega
      rw [ec]
      refine ⟨.inl ⟨rfl, _, SqL.of hR⟩, hsz, rfl, ?_, ?_, by decide, fun p hp => ⟨xs, upd_at hR hp, small1000 (by omega), _, mu, rfl, b + k + 1, some (.int ((b + k : Nat) : Int)), xs ++ [.ref p], by rw [ei], ?_, upd_same, by omega, ?_, ?_, ?_⟩⟩
      · show ((z.cps.toList.drop b).take k).toArray.size ≤ 1000000
        rw [List.size_toArray, List.length_take, List.length_drop, slen]
        omega
      · intro c hc
        exact hA c (List.mem_of_mem_drop (List.mem_of_mem_take hc))
      · exact (sL.trans (same_new hp _)).newer hn _
      · rw [hse]
      · rw [List.length_append, List.length_singleton]
        omega
      · have npr : p ≠ r := fun z => by subst z; rw [hR] at hp; cases hp
        rw [hide_upd, hse]
        dsimp only
        rw [if_neg hk, List.map_append]
        refine (DeepTs.same (hide_mono (same_new hp _)) _ _ hD).app (DeepTs.one ?_)
        show DeepT _ (dvW _) _
        rw [dvW, DeepT]
        refine ⟨p, _, rfl, by rw [hide_ne npr]; exact upd_same, ?_⟩
        have el : (⟨Array.map PyProof.Rows.lo1 ((z.cps.toList.drop b).take k).toArray⟩ : Str) = ⟨(((z.cps.toList.drop b).take k).map sm).toArray⟩ := by
          rw [lo_sm, List.map_toArray]
        rw [el]
        rw [DeepTs]
        exact ⟨_, _, rfl, by rw [DeepT], DeepTs.ints [_, _]⟩
    · have hk : k = 0 := by have := of_decide_eq_false (Bool.eq_false_iff.mpr d); omega
      subst hk
      refine ⟨_, mu, rfl, b + 0 + 1, some (.int ((b + 0 : Nat) : Int)), xs, by rw [ei], sL, hR, by omega, ?_, by omega, ?_⟩
      · rw [hse]
      · rw [hse]
        exact hD
  · have c' : z.length ≤ b := by have := of_decide_eq_false (Bool.eq_false_iff.mpr c); omega
    rw [← words_of_scan z.cps.toList b h0 (by rw [slen]; exact c') (by rw [slen]; exact hb)] at hD
    exact q r xs L sL hn hR hD
end
abbrev Fld := Str × Str
def dvF (x : Fld) : DV := .tup [.str x.1, .str x.2]
def lower1 (c : Nat) : Bool := decide (97 ≤ c ∧ c ≤ 122)
def okNm (z : Str) : Bool := decide (1 ≤ z.length ∧ z.length ≤ 12) && z.cps.toList.all lower1
def badF (prev f : Str) : Bool := !okNm f || !decide (prev.cps.toList < f.cps.toList)
def dw (prev : Str) (j : Nat) : List Fld → Option Nat
  | [] => none
  | x :: r => if badF prev x.1 = true then some j else dw x.1 (j + 1) r
def spName : Sp := fun vs H Q _ => ∃ z : Str, vs = [.str z] ∧ z.length ≤ 1000 ∧ ∀ H', Same H H' → Q (.bl (okNm z)) H'
def tDead : TS := fun _ _ _ => False
theorem ps_dead {X : Cx} {st : Stmt} : PS X st tDead := fun _ _ _ _ _ _ h => h.elim
def spLook : Sp := fun vs H Q _ => ∃ (a : Addr) (d : List Fld) (xs : List V), vs = [.ref a] ∧ H a = some (.lst xs) ∧ DeepTs H (d.map dvF) xs ∧ d.length ≤ 1000 ∧ (∀ x ∈ d, x.1.length ≤ 1000) ∧ dw "" 0 d = none ∧ ∀ H', Same H H' → Q .non H'
theorem dvF_at {H : Hp} {x : Fld} {v : V} (h : DeepT H (dvF x) v) : ∃ a, v = .ref a ∧ H a = some (.tup [.str x.1, .str x.2]) := by
  rw [dvF, DeepT] at h
  obtain ⟨a, us, rfl, ha, hus⟩ := h
  refine ⟨a, rfl, ?_⟩
  rw [ha]
  rw [DeepTs] at hus
  obtain ⟨y, ys, rfl, hy, hus⟩ := hus
  rw [DeepTs] at hus
  obtain ⟨y2, ys2, rfl, hy2, hus⟩ := hus
  rw [DeepTs] at hus
  rw [DeepT] at hy
  rw [DeepT] at hy2
  rw [hy, hy2, hus]
section
variable {P : Program} {w : World} {K : PySem.W.Frag} {mg : Str → Option Value} {base : Heap} {f : Addr} {fd : FuncData}
theorem scName : FnScope ["text"] ["text"] (defScope sName) := ⟨rfl, rfl, rfl, by decide +kernel, rfl, by decide +kernel, by decide +kernel⟩
def invN (z : Str) (H : Hp) (i : Nat) (ys : List V) (σ : St) (L : Hp) : Prop := ∃ v0 : Option V, ys = ((z.cps.toList.take i).map lower1).map V.bl ∧ L = H ∧ σ = [v0]
theorem ok_name {g : Addr} {gd : FuncData} (F : Fun K "is_name" "is_name" sName f fd) (T : Txt mg) (GS : FnOk P w K mg base CX0 1 g gd ["sign"] spSmall) (bS : Binds K gd ["sign"] []) (kS : PySem.W.keepIn K (.ref g) = true) (mS : mg "is_small_letter" = some (.ref g)) : FnOk P w K mg base CX0 2 f fd ["text"] spName := by
  refine F.ok scName (fun vs H Q E h => ?_) (fun cdv A outer s H vs Q E hr h => ?_)
  · obtain ⟨z, rfl, _⟩ := h
    rfl
  obtain ⟨z, rfl, hz, q⟩ := h
  obtain ⟨tM, hM⟩ := T.most
  refine ⟨_, (pss_one (ps_ret (pe_and (pe_chain op_le op_le pe_int (pe_callB call_len_str rfl T.len PySem.boot_len (pa_cons (pv 0) pa_nil)) (pe_gint rfl hM)) (pe_one (pe_callB (call_all K rfl) rfl T.all (by decide +kernel) (pa_cons (pe_comp (N := ["sign"]) (pick := [none]) (NX := ["text"]) (sX := defScope sName) (by decide +kernel) rfl rfl rfl (pi_str (pv 0))
        (fun _ _ _ _ => (pg_name (i := 0) (by decide +kernel : (["sign"] : List Str).Nodup) rfl (Or.inl rfl))) (fun _ _ _ _ => pifs_nil) (fun _ _ _ _ => (pe_call GS hr rfl mS kS bS .nil pass0 (pa_cons (pv 0) pa_nil)))) pa_nil)))))), ?_⟩
  simpa only [iStr]
  have hsz : z.length ≤ sizeLine := small hz
  have bad : ¬ (1 ≤ z.length ∧ z.length ≤ 12) → Q (.bl false) H := fun n => by
    have e : okNm z = false := by unfold okNm; rw [decide_eq_false n, Bool.false_and]
    have := q H (Same.refl _)
    rw [e] at this
    exact this
  refine ⟨hsz, ite2 (fun c1 => ite2 (fun c2 => ?_) fun c2 => bad ?_) fun c1 => bad ?_⟩
  · have d1 := of_decide_eq_true c1
    have d2 := of_decide_eq_true c2
    refine compW_str (invN z H) ⟨none, rfl, rfl, rfl⟩ ?_ ?_ ?_
    · rintro i ys σ L hi ⟨v0, rfl, rfl, rfl⟩
      rw [List.length_map, List.length_map, List.length_take]
      exact small (by omega)
    · rintro i c ys σ L hc ⟨v0, rfl, rfl, rfl⟩
      simpa only [spSmall]
      refine ⟨c, rfl, _, ?_, rfl, rfl⟩
      rw [List.take_add_one, hc, List.map_append, List.map_append]
      rfl
    · rintro ys σ L ⟨v0, rfl, rfl, rfl⟩ p hp
      rw [← slen, List.take_length]
      refine ⟨p, rfl, _, SqL.of upd_same, ?_⟩
      have e : okNm z = ((z.cps.toList.map lower1).all id) := by
        unfold okNm
        rw [decide_eq_true (by omega), Bool.true_and, List.all_map]
        rfl
      rw [← e]
      exact q _ (same_new hp _)
  · have := of_decide_eq_false (Bool.eq_false_iff.mpr c2); omega
  · have := of_decide_eq_false (Bool.eq_false_iff.mpr c1); omega
theorem scLook : FnScope ["document", "ahead", "place", "pair", "field"] ["document"] (defScope sLook) := ⟨rfl, rfl, rfl, by decide +kernel, rfl, by decide +kernel, by decide +kernel⟩
def invK (a : Addr) (d : List Fld) (H : Hp) (i : Nat) (σ : St) (L : Hp) : Prop := ∃ (prev : Str) (v2 v3 v4 : Option V), σ = [some (.ref a), some (.str prev), v2, v3, v4] ∧ Same H L ∧ dw "" 0 d = dw prev i (d.drop i)
theorem ok_look {gn : Addr} {dn : FuncData} (F : Fun K "look_at_document" "look_at_document" sLook f fd) (T : Txt mg) (GN : FnOk P w K mg base CX0 2 gn dn ["text"] spName) (bN : Binds K dn ["text"] []) (kN : PySem.W.keepIn K (.ref gn) = true) (mN : mg "is_name" = some (.ref gn)) : FnOk P w K mg base CX0 3 f fd ["document"] spLook := by
  refine F.ok scLook (fun vs H Q E h => ?_) (fun cdv A outer s H vs Q E hr h => ?_)
  · obtain ⟨a, d, xs, rfl, _⟩ := h
    rfl
  obtain ⟨a, d, xs, rfl, ha, hd, hl, hfl, hnn, q⟩ := h
  refine ⟨_, (pss_cons (ps_set (i := 1) scLook.nd rfl (Or.inl rfl) pe_str)
    (pss_one (ps_for PassesOwn.never rfl (pi_enum rfl T.enumerate (pa_cons (pv 0) pa_nil)) (pgT K (n := 2) rfl (pgs_cons (pg_name (i := 2) scLook.nd rfl (Or.inl rfl)) (pgs_cons (pg_name (i := 3) scLook.nd rfl (Or.inl rfl)) pgs_nil)))
      (pss_cons (ps_set (i := 4) scLook.nd rfl (Or.inl rfl) (pe_ix (ixT K) (pv 3) pe_int (fun _ _ => rfl)))
    (pss_cons (ps_if (PW.pt (pw_or (pt_not (pt_val (pe_call GN hr rfl mN kN bN .nil pass0 (pa_cons (pv 4) pa_nil)))) (pw_or1 (pt_cmpR op_le_str (pv 4) (pv 1) (nomark _))))) (pss_one ps_dead) pss_nil)
    (pss_one (ps_set (i := 1) scLook.nd rfl (Or.inl rfl) (pv 4)))))))), ?_⟩
  simpa only [and_self]
  refine ⟨⟨_, SqL.of ha⟩, forW_enum xs (invK a d H) ⟨"", none, none, none, rfl, Same.refl _, by rw [List.drop_zero]⟩ ?_ ?_ ?_⟩
  · rintro i σ L hi ⟨prev, v2, v3, v4, rfl, sL, hw⟩
    exact SqL.of (sL _ _ ha)
  · rintro i y T σ L hy ⟨prev, v2, v3, v4, rfl, sL, hw⟩ hT
    obtain ⟨dv, h1, h2⟩ := hd.get hy
    rw [List.getElem?_map] at h1
    obtain ⟨x, hx, rfl⟩ := Option.map_eq_some_iff.mp h1
    obtain ⟨b, rfl, hb⟩ := dvF_at h2
    have hb' : (upd L T (.tup [.int i, .ref b])) b = some (.tup [.str x.1, .str x.2]) := upd_at (sL _ _ hb) hT
    have sT : Same H (upd L T (.tup [.int i, .ref b])) := sL.trans (same_new hT _)
    have hil : i < d.length := (List.getElem?_eq_some_iff.mp hx).1
    have hdr : d.drop i = x :: d.drop (i + 1) := by
      rw [List.drop_eq_getElem_cons hil]
      congr 1
      exact (List.getElem?_eq_some_iff.mp hx).2
    have hxm : x ∈ d := List.mem_of_getElem? hx
    simpa only [spName, tDead]
    refine ⟨_, SqT.of upd_same, rfl, ?_⟩
    simpa only [spName, tDead]
    refine ⟨_, SqT.of hb', _, rfl, _, rfl, hfl x hxm, fun H2 s2 => ?_⟩
    have s02 : Same H H2 := sT.trans s2
    have wr : badF prev x.1 ≠ true := fun hbad => by
      rw [hdr, dw, if_pos hbad, hnn] at hw
      cases hw
    refine ite2 (fun c1 => wr ?_) fun c1 => ⟨_, rfl, ite2 (fun c2 => wr ?_) fun c2 => ⟨x.1, _, _, _, rfl, s02, ?_⟩⟩
    · unfold badF; rw [c1, Bool.true_or]
    · unfold badF; rw [c2, Bool.or_true]
    · rw [hw, hdr, dw, if_neg wr]
  · rintro σ L ⟨prev, v2, v3, v4, rfl, sL, hw⟩
    exact q L sL
theorem scWhole : FnScope ["value"] ["value"] (defScope sWhole) := ⟨rfl, rfl, rfl, by decide +kernel, rfl, by decide +kernel, by decide +kernel⟩
def spWhole : Sp := fun vs H Q _ => ∃ i : Int, vs = [.int i] ∧ Q (.bl true) H
theorem ok_whole (F : Fun K "is_whole_number" "is_whole_number" sWhole f fd) (T : Txt mg) : FnOk P w K mg base CX0 1 f fd ["value"] spWhole := by
  refine F.ok scWhole (fun vs H Q E h => ?_) (fun cdv A outer s H vs Q E hr h => ?_)
  · obtain ⟨i, rfl, _⟩ := h
    rfl
  obtain ⟨i, rfl, q⟩ := h
  refine ⟨_, (pss_one (ps_ret (pe_and (pe_callB (call_isi K) rfl T.isinstance (by decide +kernel) (pa_cons (pv 0) (pa_cons (pe_bltn (v := .ty "int") rfl T.int (by decide +kernel) rfl) pa_nil))) (pe_one (pe_not (pe_callB (call_isi K) rfl T.isinstance (by decide +kernel) (pa_cons (pv 0) (pa_cons (pe_bltn (v := .ty "bool") rfl T.bool (by decide +kernel) rfl) pa_nil)))))))), ?_⟩
  simpa only [V.ty.injEq]
  exact ⟨_, .int i, true, rfl, iteT ⟨_, .int i, false, rfl, q⟩⟩
end
abbrev Mk := Int × List Fld
def dvM (x : Mk) : DV := .tup [.int x.1, .lst (x.2.map dvF)]
def mw (ahead : Int) : List Mk → Prop
  | [] => True
  | x :: r => ahead < x.1 ∧ dw "" 0 x.2 = none ∧ mw x.1 r
theorem mw_at : ∀ {ms : List Mk} {p : Int} {i : Nat} {x : Mk}, mw p ms → ms[i]? = some x → p < x.1 ∧ dw "" 0 x.2 = none ∧ mw x.1 (ms.drop (i + 1))
  | y :: r, p, 0, x, h, e => by simp at e; subst e; simpa [mw] using h
  | y :: r, p, i + 1, x, h, e => by
    obtain ⟨h1, h2, h3⟩ := mw_at (i := i) h.2.2 (by simpa using e)
    exact ⟨by have := h.1; omega, h2, by simpa using h3⟩
  | [], p, i, x, h, e => by simp at e
def spMakes : Sp := fun vs H Q _ => ∃ (a : Addr) (ms : List Mk) (xs : List V), vs = [.ref a] ∧ H a = some (.lst xs) ∧ DeepTs H (ms.map dvM) xs ∧ ms.length ≤ 1000 ∧ (∀ m ∈ ms, m.2.length ≤ 1000 ∧ ∀ x ∈ m.2, x.1.length ≤ 1000) ∧ mw (-1) ms ∧ ∀ H', Same H H' → Q .non H'
theorem dvM_at {H : Hp} {x : Mk} {v : V} (h : DeepT H (dvM x) v) : ∃ a b xs, v = .ref a ∧ H a = some (.tup [.int x.1, .ref b]) ∧ H b = some (.lst xs) ∧ DeepTs H (x.2.map dvF) xs := by
  rw [dvM, DeepT] at h
  obtain ⟨a, us, rfl, ha, hus⟩ := h
  rw [DeepTs] at hus
  obtain ⟨y, ys, rfl, hy, hus⟩ := hus
  rw [DeepTs] at hus
  obtain ⟨y2, ys2, rfl, hy2, hus⟩ := hus
  rw [DeepTs] at hus
  rw [DeepT] at hy
  rw [DeepT] at hy2
  obtain ⟨b, xs, rfl, hb, hxs⟩ := hy2
  exact ⟨a, b, xs, rfl, by rw [ha, hy, hus], hb, hxs⟩
section
variable {P : Program} {w : World} {K : PySem.W.Frag} {mg : Str → Option Value} {base : Heap} {f : Addr} {fd : FuncData}
theorem scMakes : FnScope ["makes", "ahead", "place", "pair", "make"] ["makes"] (defScope sMakes) := ⟨rfl, rfl, rfl, by decide +kernel, rfl, by decide +kernel, by decide +kernel⟩
def invMk (a : Addr) (ms : List Mk) (H : Hp) (i : Nat) (σ : St) (L : Hp) : Prop := ∃ (prev : Int) (v2 v3 v4 : Option V), σ = [some (.ref a), some (.int prev), v2, v3, v4] ∧ Same H L ∧ mw prev (ms.drop i)
theorem ok_makes {gh gd : Addr} {dh dd : FuncData} (F : Fun K "look_at_makes" "look_at_makes" sMakes f fd) (T : Txt mg) (GH : FnOk P w K mg base CX0 1 gh dh ["value"] spWhole) (bH : Binds K dh ["value"] []) (kH : PySem.W.keepIn K (.ref gh) = true) (mH : mg "is_whole_number" = some (.ref gh))
    (GLk : FnOk P w K mg base CX0 3 gd dd ["document"] spLook) (bLk : Binds K dd ["document"] []) (kLk : PySem.W.keepIn K (.ref gd) = true) (mLk : mg "look_at_document" = some (.ref gd)) : FnOk P w K mg base CX0 4 f fd ["makes"] spMakes := by
  refine F.ok scMakes (fun vs H Q E h => ?_) (fun cdv A outer s H vs Q E hr h => ?_)
  · obtain ⟨a, d, xs, rfl, _⟩ := h
    rfl
  obtain ⟨a, ms, xs, rfl, ha, hd, hl, hfl, hmw, q⟩ := h
  have hr1 : Room 1 _ := hr.mono (by decide)
  refine ⟨_, (pss_cons (ps_set (i := 1) scMakes.nd rfl (Or.inl rfl) (pe_un un_neg pe_int))
    (pss_one (ps_for PassesOwn.never rfl (pi_enum rfl T.enumerate (pa_cons (pv 0) pa_nil)) (pgT K (n := 2) rfl (pgs_cons (pg_name (i := 2) scMakes.nd rfl (Or.inl rfl)) (pgs_cons (pg_name (i := 3) scMakes.nd rfl (Or.inl rfl)) pgs_nil)))
      (pss_cons (ps_set (i := 4) scMakes.nd rfl (Or.inl rfl) (pe_ix (ixT K) (pv 3) pe_int (fun _ _ => rfl)))
    (pss_cons (ps_if (PW.pt (pw_or (pt_not (pt_val (pe_call GH hr1 rfl mH kH bH .nil pass0 (pa_cons (pv 4) pa_nil)))) (pw_or1 (pt_cmpR op_le (pv 4) (pv 1) (nomark _))))) (pss_one ps_dead) pss_nil)
    (pss_cons (ps_expr (pe_call GLk hr rfl mLk kLk bLk .nil pass0 (pa_cons (pe_ix (ixT K) (pv 3) pe_int (fun _ _ => rfl)) pa_nil)))
    (pss_one (ps_set (i := 1) scMakes.nd rfl (Or.inl rfl) (pv 4))))))))), ?_⟩
  simpa only [and_self]
  refine ⟨⟨_, SqL.of ha⟩, forW_enum xs (invMk a ms H) ⟨-1, none, none, none, rfl, Same.refl _, by rw [List.drop_zero]; exact hmw⟩ ?_ ?_ ?_⟩
  · rintro i σ L hi ⟨prev, v2, v3, v4, rfl, sL, hw⟩
    exact SqL.of (sL _ _ ha)
  · rintro i y T σ L hy ⟨prev, v2, v3, v4, rfl, sL, hw⟩ hT
    obtain ⟨dv, h1, h2⟩ := hd.get hy
    rw [List.getElem?_map] at h1
    obtain ⟨x, hx, rfl⟩ := Option.map_eq_some_iff.mp h1
    obtain ⟨b, c, zs, rfl, hb, hc, hz⟩ := dvM_at h2
    have sT : Same H (upd L T (.tup [.int i, .ref b])) := sL.trans (same_new hT _)
    have hb' := sT _ _ hb
    have hil : i < ms.length := (List.getElem?_eq_some_iff.mp hx).1
    have hdr : ms.drop i = x :: ms.drop (i + 1) := by
      rw [List.drop_eq_getElem_cons hil]
      congr 1
      exact (List.getElem?_eq_some_iff.mp hx).2
    have hxm : x ∈ ms := List.mem_of_getElem? hx
    rw [hdr] at hw
    simpa only [spWhole, spLook, tDead]
    refine ⟨_, SqT.of upd_same, rfl, ?_⟩
    simpa only [spWhole, spLook, tDead]
    refine ⟨_, SqT.of hb', _, rfl, _, rfl, iteF ⟨_, rfl, ite2 (fun c1 => ?_) fun c1 => ?_⟩⟩
    · have c1' : x.1 ≤ prev := of_decide_eq_true c1
      have := hw.1
      omega
    · exact ⟨_, SqT.of hb', _, rfl, c, rfl, x.2, zs, sT _ _ hc, DeepTs.same sT _ _ hz, (hfl x hxm).1, (hfl x hxm).2, hw.2.1, fun H' s' => ⟨x.1, _, _, _, rfl, sT.trans s', hw.2.2⟩⟩
  · rintro σ L ⟨prev, v2, v3, v4, rfl, sL, hw⟩
    exact q L sL
end
theorem dvW_at {H : Hp} {wd : Wd} {x : V} (h : DeepT H (dvW wd) x) : ∃ a, x = .ref a ∧ H a = some (.tup [.str ⟨wd.1.toArray⟩, .int wd.2.1, .int wd.2.2]) := by
  rw [dvW, DeepT] at h
  obtain ⟨a', us, rfl, ha', hus⟩ := h
  refine ⟨a', rfl, ?_⟩
  rw [ha']
  rw [DeepTs] at hus
  obtain ⟨y, ys', rfl, hy, hus⟩ := hus
  rw [DeepTs] at hus
  obtain ⟨y2, ys2, rfl, hy2, hus⟩ := hus
  rw [DeepTs] at hus
  obtain ⟨y3, ys3, rfl, hy3, hus⟩ := hus
  rw [DeepTs] at hus
  rw [DeepT] at hy
  rw [DeepT] at hy2
  rw [DeepT] at hy3
  rw [hy, hy2, hy3, hus]
def wordsS (z : Str) : List Str := (words z.cps.toList).map fun x => ⟨x.1.toArray⟩
theorem wordsS_len {z : Str} (h : z.length ≤ 500) : (wordsS z).length ≤ 1000 := by
  have := scan_len z.cps.toList (z.cps.toList.length + 1)
  have e : z.cps.toList.length = z.length := slen z
  unfold wordsS words
  rw [List.length_map]
  omega
def spBare : Sp := fun vs H Q _ => ∃ z : Str, vs = [.str z] ∧ z.length ≤ 500 ∧ Asc z ∧ ∀ (r : Addr) (H' : Hp), Same H H' → H r = none → H' r = some (.lst ((wordsS z).map V.str)) → Q (.ref r) H'
section
variable {P : Program} {w : World} {K : PySem.W.Frag} {mg : Str → Option Value} {base : Heap} {f : Addr} {fd : FuncData}
theorem scBare : FnScope ["text"] ["text"] (defScope sBare) := ⟨rfl, rfl, rfl, by decide +kernel, rfl, by decide +kernel, by decide +kernel⟩
def invBa (z : Str) (L0 : Hp) (i : Nat) (ys : List V) (σ : St) (L : Hp) : Prop := ∃ v0 : Option V, σ = [v0] ∧ L = L0 ∧ ys = ((wordsS z).take i).map V.str
theorem ok_bare {g : Addr} {gd : FuncData} (F : Fun K "bare_words" "bare_words" sBare f fd) (T : Txt mg) (GW : FnOk P w K mg base CX0 4 g gd ["text"] spWords) (bW : Binds K gd ["text"] []) (kW : PySem.W.keepIn K (.ref g) = true) (mW : mg "words_of" = some (.ref g)) : FnOk P w K mg base CX0 5 f fd ["text"] spBare := by
  refine F.ok scBare (fun vs H Q E h => ?_) (fun cdv A outer s H vs Q E hr h => ?_)
  · obtain ⟨z, rfl, _⟩ := h
    rfl
  obtain ⟨z, rfl, hz, hA, q⟩ := h
  refine ⟨_, (pss_one (ps_ret (pe_comp (N := ["entry"]) (pick := [none]) (NX := ["text"]) (sX := defScope sBare) (by decide +kernel) rfl rfl rfl (pi_listK K (pe_call GW hr rfl mW kW bW .nil pass0 (pa_cons (pv 0) pa_nil)))
        (fun _ _ _ _ => (pg_name (i := 0) (by decide +kernel : (["entry"] : List Str).Nodup) rfl (Or.inl rfl))) (fun _ _ _ _ => pifs_nil) (fun _ _ _ _ => (pe_ix (ixT K) (pv 0) pe_int (fun _ _ => rfl)))))), ?_⟩
  simpa only [spWords]
  refine ⟨by omega, hA, fun r xs H1 s1 hr1 e1 hD => ⟨⟨xs, SqL.of e1⟩, ?_⟩⟩
  have hDs := DeepTs.same (hide_same r H1) _ _ hD
  have hwl := wordsS_len hz
  have hwe : (wordsS z).length = (words z.cps.toList).length := List.length_map _
  have hxl : xs.length = (words z.cps.toList).length := by have := hD.length; rwa [List.length_map] at this
  refine compW_list xs (invBa z H1) ⟨none, rfl, rfl, rfl⟩ ?_ ?_ ?_
  · rintro i ys σ L hi ⟨v0, rfl, rfl, rfl⟩
    exact ⟨SqL.of e1, small (by rw [List.length_map, List.length_take]; omega)⟩
  · rintro i y ys σ L hy ⟨v0, rfl, rfl, rfl⟩
    obtain ⟨dv, h1, h2⟩ := hDs.get hy
    rw [List.getElem?_map] at h1
    obtain ⟨wd, hwd, rfl⟩ := Option.map_eq_some_iff.mp h1
    obtain ⟨b, rfl, hb⟩ := dvW_at h2
    simpa only [and_self]
    refine ⟨_, SqT.of hb, _, rfl, _, rfl, rfl, ?_⟩
    have e3 : (wordsS z)[i]? = some ⟨wd.1.toArray⟩ := by unfold wordsS; rw [List.getElem?_map, hwd]; rfl
    rw [List.take_add_one, e3, List.map_append]
    rfl
  · rintro ys σ L ⟨v0, rfl, rfl, rfl⟩ p hp
    refine q p _ (s1.trans (same_new hp _)) (s1.free hp) ?_
    rw [upd_same, hxl, ← hwe, List.take_length]
end
theorem valV_mem {kvs : List (Key × V)} {k : Key} {v : V} (h : valV kvs k = some v) : ∃ p ∈ kvs, p.2 = v := by
  unfold valV at h
  cases e : kvs.find? (fun kv => decide (kv.1 = k)) with
  | none => rw [e] at h; cases h
  | some p => rw [e] at h; exact ⟨p, List.mem_of_find?_eq_some e, Option.some.inj h⟩
def PlAt (G H : Hp) : List (Key × V) → Pl Str → Prop
  | [], [] => True
  | kv :: r, x :: p => (∃ l, kv = (.inr x.1, .ref l) ∧ G l = none ∧ H l = some (.lst (x.2.map V.int)) ∧ ∀ y ∈ r, y.2 ≠ .ref l) ∧ PlAt G H r p
  | _, _ => False
theorem PlAt.keys {G H : Hp} : ∀ {kvs : List (Key × V)} {p : Pl Str}, PlAt G H kvs p → kvs.map (·.1) = (p.map (·.1)).map Sum.inr
  | [], [], _ => rfl
  | kv :: r, x :: p, ⟨⟨l, e, _⟩, h⟩ => by rw [List.map_cons, List.map_cons, List.map_cons, PlAt.keys h, e]
  | [], _ :: _, h => h.elim
  | _ :: _, [], h => h.elim
theorem PlAt.congr {G H H' : Hp} : ∀ {kvs : List (Key × V)} {p : Pl Str}, PlAt G H kvs p → (∀ y ∈ kvs, ∀ l u, y.2 = .ref l → H l = some u → H' l = some u) → PlAt G H' kvs p
  | [], [], _, _ => trivial
  | kv :: r, x :: p, ⟨⟨l, e, g, hl, hn⟩, h⟩, hk => ⟨⟨l, e, g, hk kv List.mem_cons_self l _ (by rw [e]) hl, hn⟩, PlAt.congr h fun y hy => hk y (List.mem_cons_of_mem _ hy)⟩
  | [], _ :: _, h, _ => h.elim
  | _ :: _, [], h, _ => h.elim
theorem PlAt.same {G H H' : Hp} {kvs : List (Key × V)} {p : Pl Str} (h : PlAt G H kvs p) (s : Same H H') : PlAt G H' kvs p := h.congr fun _ _ l u _ hl => s l u hl
theorem PlAt.get {G H : Hp} {w : Str} : ∀ {kvs : List (Key × V)} {p : Pl Str} {v : V}, PlAt G H kvs p → valV kvs (.inr w) = some v → ∃ l ps, v = .ref l ∧ get p w = some ps ∧ G l = none ∧ H l = some (.lst (ps.map V.int))
  | [], [], v, _, hv => by cases hv
  | kv :: r, x :: p, v, ⟨⟨l, e, g, hl, hn⟩, h⟩, hv => by
    subst e
    by_cases hx : x.1 = w
    · rw [hx, valV_pos rfl] at hv
      cases hv
      exact ⟨l, x.2, rfl, by rw [KT.get, if_pos hx], g, hl⟩
    · rw [valV_neg (fun y => hx (Sum.inr.inj y))] at hv
      obtain ⟨l', ps, h1, h2, h3, h4⟩ := PlAt.get h hv
      exact ⟨l', ps, h1, by rw [KT.get, if_neg hx]; exact h2, h3, h4⟩
  | [], _ :: _, _, h, _ => h.elim
  | _ :: _, [], _, h, _ => h.elim
theorem PlAt.grow {G H : Hp} {w : Str} {i : Int} {l : Addr} {ps : List Int} : ∀ {kvs : List (Key × V)} {p : Pl Str}, PlAt G H kvs p → valV kvs (.inr w) = some (.ref l) → H l = some (.lst (ps.map V.int)) → PlAt G (upd H l (.lst (ps.map V.int ++ [.int i]))) kvs (addP p w i)
  | [], [], _, hv, _ => by cases hv
  | kv :: r, x :: p, ⟨⟨l', e, g, hl, hn⟩, h⟩, hv, hp => by
    subst e
    by_cases hx : x.1 = w
    · rw [hx, valV_pos rfl] at hv
      cases hv
      rw [hl] at hp
      have ep : x.2.map V.int = ps.map V.int := HO.lst.inj (Option.some.inj hp)
      have e2 : addP (x :: p) w i = (w, x.2 ++ [i]) :: p := by unfold addP; rw [KT.mod, if_pos hx]; rfl
      rw [e2]
      refine ⟨⟨l, by rw [hx], g, by rw [upd_same, List.map_append, ep]; rfl, hn⟩, h.congr fun y hy m u em hu => ?_⟩
      rw [upd_ne (fun z => hn y hy (by rw [em, z]))]
      exact hu
    · rw [valV_neg (fun y => hx (Sum.inr.inj y))] at hv
      have e2 : addP (x :: p) w i = x :: addP p w i := by unfold addP; rw [KT.mod, if_neg hx]
      rw [e2]
      obtain ⟨y, hy, ey⟩ := valV_mem hv
      refine ⟨⟨l', rfl, g, ?_, hn⟩, PlAt.grow h hv hp⟩
      rw [upd_ne (fun z => hn y hy (by rw [ey, z]))]
      exact hl
  | [], _ :: _, h, _, _ => h.elim
  | _ :: _, [], h, _, _ => h.elim
theorem PlAt.add {G H : Hp} {w : Str} {i : Int} {l : Addr} (hl : H l = some (.lst [.int i])) (hg : G l = none) : ∀ {kvs : List (Key × V)} {p : Pl Str}, PlAt G H kvs p → valV kvs (.inr w) = none → (∀ y ∈ kvs, y.2 ≠ .ref l) → PlAt G H (kvs ++ [(.inr w, .ref l)]) (addP p w i)
  | [], [], _, _, _ => ⟨⟨l, rfl, hg, hl, fun y hy => by cases hy⟩, trivial⟩
  | kv :: r, x :: p, ⟨⟨l', e, g, hl', hn⟩, h⟩, hv, hk => by
    subst e
    by_cases hx : x.1 = w
    · rw [hx, valV_pos rfl] at hv
      cases hv
    · rw [valV_neg (fun y => hx (Sum.inr.inj y))] at hv
      have e2 : addP (x :: p) w i = x :: addP p w i := by unfold addP; rw [KT.mod, if_neg hx]
      rw [e2]
      refine ⟨⟨l', rfl, g, hl', fun y hy => ?_⟩, PlAt.add hl hg h hv fun y hy => hk y (List.mem_cons_of_mem _ hy)⟩
      rcases List.mem_append.mp hy with h1 | h1
      · exact hn y h1
      · rw [List.mem_singleton.mp h1]
        exact fun z => hk _ List.mem_cons_self z.symm
  | [], _ :: _, h, _, _ => h.elim
  | _ :: _, [], h, _, _ => h.elim
theorem plc_snoc {κ : Type} [DecidableEq κ] : ∀ (ws : List κ) (p : Pl κ) (i : Int) (w : κ), plc p i (ws ++ [w]) = addP (plc p i ws) w (i + ws.length)
  | [], p, i, w => by simp [plc]
  | x :: ws, p, i, w => by
    rw [List.cons_append, plc, plc, plc_snoc ws, List.length_cons]
    congr 1
    omega
def spPlaces : Sp := fun vs H Q _ => ∃ (a : Addr) (ws : List Str), vs = [.ref a] ∧ H a = some (.lst (ws.map V.str)) ∧ ws.length ≤ 1000 ∧
  ∀ (d : Addr) (kvs : List (Key × V)) (H' : Hp), Same H H' → H d = none → H' d = some (.dK kvs) → PlAt H H' kvs (plc [] 0 ws) → Q (.ref d) H'
section
variable {P : Program} {w : World} {K : PySem.W.Frag} {mg : Str → Option Value} {base : Heap} {f : Addr} {fd : FuncData}
theorem scPlaces : FnScope ["words", "places", "place", "word"] ["words"] (defScope sPlaces) := ⟨rfl, rfl, rfl, by decide +kernel, rfl, by decide +kernel, by decide +kernel⟩
def invB (a d : Addr) (ws : List Str) (H : Hp) (i : Nat) (σ : St) (L : Hp) : Prop := ∃ (kvs : List (Key × V)) (v2 v3 : Option V), σ = [some (.ref a), some (.ref d), v2, v3] ∧ Same H L ∧ L d = some (.dK kvs) ∧ kvs.length ≤ i ∧ PlAt H L kvs (plc [] 0 (ws.take i)) ∧ ∀ ps ∈ (plc [] 0 (ws.take i)), ps.2.length ≤ i
theorem ok_places (F : Fun K "places_by_word" "places_by_word" sPlaces f fd) (T : Txt mg) : FnOk P w K mg base CX0 1 f fd ["words"] spPlaces := by
  refine F.ok scPlaces (fun vs H Q E h => ?_) (fun cdv A outer s H vs Q E hr h => ?_)
  · obtain ⟨a, ws, rfl, _⟩ := h
    rfl
  obtain ⟨a, ws, rfl, ha, hl, q⟩ := h
  refine ⟨_, (pss_cons (ps_set (i := 1) scPlaces.nd rfl (Or.inl rfl) pe_dnewK)
    (pss_cons (ps_for PassesOwn.never rfl (pi_enum rfl T.enumerate (pa_cons (pv 0) pa_nil)) (pgT K (n := 2) rfl (pgs_cons (pg_name (i := 2) scPlaces.nd rfl (Or.inl rfl)) (pgs_cons (pg_name (i := 3) scPlaces.nd rfl (Or.inl rfl)) pgs_nil)))
      (pss_one (ps_expr (bmK K PySem.F.plainAttrs_list PySem.F.slot_list_append PySem.F.type_list_append mt_append (pe_dsetd (pv 1) (pv 3) (pe_lst pa_nil) ⟨rfl, rfl, rfl, rfl⟩) (pa_cons (pv 2) pa_nil)))))
    (pss_one (ps_ret (pv 1))))), ?_⟩
  simpa only [tDNewK]
  intro d hd
  have had : a ≠ d := ne_of_none ha hd
  have hxl : (ws.map V.str).length = ws.length := List.length_map _
  refine ⟨⟨_, SqL.of (upd_at ha hd)⟩, forW_enum (ws.map V.str) (invB a d ws H) ⟨[], none, none, rfl, same_new hd _, upd_same, Nat.le_refl _, trivial, fun p hp => (by cases hp)⟩ ?_ ?_ ?_⟩
  · rintro i σ L hi ⟨kvs, v2, v3, rfl, sL, hk, hkl, hv, hz⟩
    exact SqL.of (sL _ _ ha)
  · rintro i y T σ L hy ⟨kvs, v2, v3, rfl, sL, hk, hkl, hv, hz⟩ hT
    rw [List.getElem?_map] at hy
    obtain ⟨wd, hwd, rfl⟩ := Option.map_eq_some_iff.mp hy
    have hil : i < ws.length := (List.getElem?_eq_some_iff.mp hwd).1
    have sT : Same H (upd L T (.tup [.int i, .str wd])) := sL.trans (same_new hT _)
    have hk' : (upd L T (.tup [.int i, .str wd])) d = some (.dK kvs) := upd_at hk hT
    have hv' := hv.same (same_new hT (.tup [.int i, .str wd]))
    have ep : plc [] 0 (ws.take (i + 1)) = addP (plc [] 0 (ws.take i)) wd (i : Int) := by
      rw [List.take_add_one, hwd]
      show plc [] 0 (ws.take i ++ [wd]) = _
      rw [plc_snoc, List.length_take, Nat.min_eq_left (by omega), Int.zero_add]
    have hz' : ∀ x ∈ plc [] 0 (ws.take (i + 1)), x.2.length ≤ i + 1 := by rw [ep]; exact add_len hz
    simpa only [and_self]
    refine ⟨_, SqT.of upd_same, rfl, ?_⟩
    simpa only [tDSetd]
    generalize upd L T (.tup [.int i, .str wd]) = M at sT hk' hv' ⊢
    refine ⟨.inl ⟨kvs, .inl hk'⟩, by decide, fun p hp => ?_⟩
    have hk2 : (upd M p (.lst [])) d = some (.dK kvs) := upd_at hk' hp
    have s3 : Same H (upd M p (.lst [])) := sT.trans (same_new hp _)
    have v3' := hv'.same (same_new hp (.lst []))
    have hpd : p ≠ d := fun z => by rw [z, hk'] at hp; cases hp
    refine ⟨kvs, hk2, .inr _, rfl, small1000 (by omega), fun v hvv => ?_, fun hvn => ?_⟩
    · obtain ⟨c, ps, rfl, g1, g2, g3⟩ := v3'.get hvv
      have hps := hz _ (get_in g1)
      refine ⟨.inl ⟨rfl, _, SqL.of g3⟩, c, rfl, _, g3, small1000 (by rw [List.length_map]; have hps' : ps.length ≤ i := hps; omega), kvs, _, _, rfl, s3.newer g2 _, ?_, by omega, by rw [ep]; exact v3'.grow hvv g3, hz'⟩
      rw [upd_ne (ne_of hk2 g3 (by intro z; cases z))]
      exact hk2
    · have pn : H p = none := sT.free hp
      have el := putK_new (V.ref p) hvn
      have epp : (upd (upd M p (.lst [])) d (.dK (putK kvs (.inr wd) (.ref p)))) p = some (.lst []) := by rw [upd_ne hpd]; exact upd_same
      have nk : ∀ y ∈ kvs, y.2 ≠ .ref p := fun y hy z => by
        have key : ∀ {kvs : List (Key × V)} {q : Pl Str}, PlAt H M kvs q → y ∈ kvs → ∃ l u, y.2 = .ref l ∧ M l = some u := by
          intro kvs
          induction kvs with
          | nil => intro q _ h; cases h
          | cons kv r ih =>
            intro q h hm
            cases q with
            | nil => exact h.elim
            | cons x q =>
              rcases List.mem_cons.mp hm with e | hm
              · obtain ⟨⟨l, e1, _, e3, _⟩, _⟩ := h
                exact ⟨l, _, by rw [e, e1], e3⟩
              · exact ih h.2 hm
        obtain ⟨l, u, e1, e2⟩ := key hv' hy
        rw [z] at e1
        cases e1
        rw [hp] at e2
        cases e2
      refine ⟨.inl ⟨rfl, _, SqL.of epp⟩, [], epp, by decide, _, _, _, rfl, (s3.newer hd _).newer pn _, by rw [upd_ne hpd.symm]; exact upd_same, ?_, ?_, hz'⟩
      · rw [el, List.length_append, List.length_singleton]
        omega
      · rw [el, ep]
        refine PlAt.add upd_same pn (v3'.congr fun y hy l u e1 e2 => ?_) hvn nk
        rw [upd_ne (fun z => nk y hy (by rw [e1, z])), upd_ne (fun z => ?_)]
        · exact e2
        · subst z
          rw [hk2] at e2
          have key : ∀ {kvs : List (Key × V)} {q : Pl Str}, PlAt H (upd M p (.lst [])) kvs q → y ∈ kvs → ∃ l ps, y.2 = .ref l ∧ (upd M p (.lst [])) l = some (.lst ps) := by
            intro kvs
            induction kvs with
            | nil => intro q _ h; cases h
            | cons kv r ih =>
              intro q h hm
              cases q with
              | nil => exact h.elim
              | cons x q =>
                rcases List.mem_cons.mp hm with e | hm
                · obtain ⟨⟨l, e1, _, e3, _⟩, _⟩ := h
                  exact ⟨l, _, by rw [e, e1], e3⟩
                · exact ih h.2 hm
          obtain ⟨l', ps, e3, e4⟩ := key v3' hy
          rw [e1] at e3
          cases e3
          rw [hk2] at e4
          cases e4
  · rintro σ L ⟨kvs, v2, v3, rfl, sL, hk, hkl, hv, hz⟩
    simpa only [and_self]
    rw [hxl, List.take_length] at hv
    exact q d kvs L sL hd hk hv
end
abbrev Pth := Addr → Option (List Str)
abbrev Fl := List (Str × Wt Str)
def fup {κ α : Type} [DecidableEq κ] (f : κ → α) (k : κ) (v : α) : κ → α := fun x => if x = k then v else f x
theorem fup_at {κ α : Type} [DecidableEq κ] {f : κ → α} {k : κ} {v : α} : fup f k v k = v := if_pos rfl
theorem fup_ne {κ α : Type} [DecidableEq κ] {f : κ → α} {k j : κ} {v : α} (h : j ≠ k) : fup f k v j = f j := if_neg h
def hid (G : Hp) (pa : Pth) (H : Hp) : Hp := fun a => if G a = none ∧ pa a = none then H a else none
theorem hid_at {G H : Hp} {pa : Pth} {a : Addr} {u : HO} (h : H a = some u) (g : G a = none) (p : pa a = none) : hid G pa H a = some u := by unfold hid; rw [if_pos ⟨g, p⟩]; exact h
theorem hid_to {G H : Hp} {pa : Pth} {a : Addr} {u : HO} (h : hid G pa H a = some u) : H a = some u ∧ G a = none ∧ pa a = none := by
  unfold hid at h
  by_cases ha : G a = none ∧ pa a = none
  · rw [if_pos ha] at h; exact ⟨h, ha⟩
  · rw [if_neg ha] at h; cases h
theorem hid_same {G H H' : Hp} {pa : Pth} (s : Same H H') : Same (hid G pa H) (hid G pa H') := fun a u h => by
  obtain ⟨h1, h2, h3⟩ := hid_to h
  exact hid_at (s _ _ h1) h2 h3
theorem hid_own {G H : Hp} {pa : Pth} {a : Addr} {o : HO} (h : pa a ≠ none) : hid G pa (upd H a o) = hid G pa H := by
  funext x
  unfold hid
  by_cases hx : G x = none ∧ pa x = none
  · rw [if_pos hx, if_pos hx, upd_ne (fun e => h (by rw [← e]; exact hx.2))]
  · rw [if_neg hx, if_neg hx]
theorem hid_new {G H : Hp} {pa : Pth} {p : Addr} {o : HO} {q : List Str} (hp : H p = none) : Same (hid G pa H) (hid G (fup pa p (some q)) (upd H p o)) := fun a u h => by
  obtain ⟨h1, h2, h3⟩ := hid_to h
  exact hid_at (upd_at h1 hp) h2 (by rw [fup_ne (ne_of_none h1 hp)]; exact h3)
def kvF {α : Type} (da : Str → Addr) (F : List (Str × α)) : List (Key × V) := F.map fun x => (.inr x.1, .ref (da x.1))
theorem kv_get {α : Type} {da : Str → Addr} {f : Str} : ∀ {F : List (Str × α)}, valV (kvF da F) (.inr f) = (get F f).map fun _ => V.ref (da f)
  | [] => rfl
  | x :: F => by
    show valV ((.inr x.1, .ref (da x.1)) :: kvF da F) _ = _
    by_cases h : x.1 = f
    · rw [valV_pos (by rw [h]), KT.get, if_pos h, h]; rfl
    · rw [valV_neg (fun e => h (Sum.inr.inj e)), KT.get, if_neg h]; exact kv_get
theorem kv_mod {α : Type} {da : Str → Addr} {F : List (Str × α)} {f : Str} {g : Option α → α} (h : (get F f).isSome = true) : kvF da (KT.mod F f g) = kvF da F := by
  have e : ∀ F : List (Str × α), kvF da F = (F.map (·.1)).map fun x => (.inr x, .ref (da x)) := fun F => by unfold kvF; rw [List.map_map]; rfl
  rw [e, e, mod_keys, if_pos (get_mem.mp h)]
theorem kv_add {α : Type} {da : Str → Addr} {F : List (Str × α)} {f : Str} {p : Addr} {v : α} (h : get F f = none) : kvF (fup da f p) (F ++ [(f, v)]) = kvF da F ++ [(.inr f, .ref p)] := by
  unfold kvF
  rw [List.map_append]
  congr 1
  · refine List.map_congr_left fun x hx => ?_
    rw [fup_ne (fun e => ?_)]
    have := get_mem.mpr (List.mem_map.mpr ⟨x, hx, e⟩)
    rw [h] at this
    cases this
  · show [((.inr f : Key), V.ref (fup da f p f))] = _
    rw [fup_at]
theorem kv_len {α : Type} {da : Str → Addr} {F : List (Str × α)} : (kvF da F).length = F.length := List.length_map _
structure TAt (R : Hp → HO → Rw → Prop) (G H : Hp) (b : Addr) (da : Str → Addr) (ra : Str → Str → Addr) (pa : Pth) (F : Fl) : Prop where
  base : Same G H
  own : ∀ a, pa a ≠ none → G a = none ∧ H a ≠ none
  top : H b = some (.dK (kvF da F)) ∧ pa b = some []
  fld : ∀ f D, get F f = some D → H (da f) = some (.dK (kvF (ra f) D)) ∧ pa (da f) = some [f]
  row : ∀ f D w r, get F f = some D → get D w = some r → (∃ o, H (ra f w) = some o ∧ R (hid G pa H) o r) ∧ pa (ra f w) = some [f, w]
def RM (R : Hp → HO → Rw → Prop) : Prop := ∀ h h' o r, Same h h' → R h o r → R h' o r
section
variable {R : Hp → HO → Rw → Prop} {G H : Hp} {b : Addr} {da : Str → Addr} {ra : Str → Str → Addr} {pa : Pth} {F : Fl}
theorem pth_ne {a c : Addr} {p q : List Str} (h : pa a = some p) (h' : pa c = some q) (n : p ≠ q) : a ≠ c := fun e => n (by rw [e, h'] at h; exact (Option.some.inj h).symm)
theorem TAt.same {H' : Hp} (M : RM R) (t : TAt R G H b da ra pa F) (s : Same H H') : TAt R G H' b da ra pa F :=
  ⟨t.base.trans s, fun a ha => ⟨(t.own a ha).1, fun e => (t.own a ha).2 (s.free e)⟩, ⟨s _ _ t.top.1, t.top.2⟩, fun f D h => ⟨s _ _ (t.fld f D h).1, (t.fld f D h).2⟩, fun f D w r h h' => by
    obtain ⟨⟨o, h1, h2⟩, h3⟩ := t.row f D w r h h'
    exact ⟨⟨o, s _ _ h1, M _ _ _ _ (hid_same s) h2⟩, h3⟩⟩
theorem TAt.out {N : Addr} {q : List Str} {o : HO} (t : TAt R G H b da ra pa F) (hN : pa N = some q) (hq : 2 < q.length) : TAt R G (upd H N o) b da ra pa F := by
  have hn : pa N ≠ none := by rw [hN]; intro z; cases z
  have ne : ∀ {a p}, pa a = some p → p.length < 3 → a ≠ N := fun h h' => pth_ne h hN (fun e => by rw [e] at h'; omega)
  refine ⟨t.base.newer (t.own N hn).1 _, fun a ha => ⟨(t.own a ha).1, fun e => ?_⟩, ⟨by rw [upd_ne (ne t.top.2 (by decide))]; exact t.top.1, t.top.2⟩, fun f D h => ?_, fun f D w r h h' => ?_⟩
  · by_cases he : a = N
    · rw [he, upd_same] at e; cases e
    · rw [upd_ne he] at e; exact (t.own a ha).2 e
  · obtain ⟨h1, h2⟩ := t.fld f D h
    exact ⟨by rw [upd_ne (ne h2 (by show 1 < 3; decide))]; exact h1, h2⟩
  · obtain ⟨⟨o', h1, h2⟩, h3⟩ := t.row f D w r h h'
    exact ⟨⟨o', by rw [upd_ne (ne h3 (by show 2 < 3; decide))]; exact h1, by rw [hid_own hn]; exact h2⟩, h3⟩
theorem TAt.chg {f w : Str} {D : Wt Str} {r r' : Rw} {o : HO} (t : TAt R G H b da ra pa F) (hf : get F f = some D) (hw : get D w = some r) (hR : R (hid G pa H) o r') : TAt R G (upd H (ra f w) o) b da ra pa (KT.mod F f fun _ => KT.mod D w fun _ => r') := by
  obtain ⟨_, h3⟩ := t.row f D w r hf hw
  have hn : pa (ra f w) ≠ none := by rw [h3]; intro z; cases z
  refine ⟨t.base.newer (t.own _ hn).1 _, fun a ha => ⟨(t.own a ha).1, fun e => ?_⟩, ⟨by rw [upd_ne (pth_ne t.top.2 h3 (by intro z; cases z)), kv_mod (by rw [hf]; rfl)]; exact t.top.1, t.top.2⟩, fun f' D' h => ?_, fun f' D' w' s h h' => ?_⟩
  · by_cases he : a = ra f w
    · rw [he, upd_same] at e; cases e
    · rw [upd_ne he] at e; exact (t.own a ha).2 e
  · by_cases e : f' = f
    · subst e
      rw [mod_get] at h
      cases h
      obtain ⟨h1, h2⟩ := t.fld f' D hf
      exact ⟨by rw [upd_ne (pth_ne h2 h3 (by intro z; cases z)), kv_mod (by rw [hw]; rfl)]; exact h1, h2⟩
    · rw [mod_other _ _ e] at h
      obtain ⟨h1, h2⟩ := t.fld f' D' h
      exact ⟨by rw [upd_ne (pth_ne h2 h3 (by intro z; cases z))]; exact h1, h2⟩
  · rw [hid_own hn]
    by_cases e : f' = f
    · subst e
      rw [mod_get] at h
      cases h
      by_cases e : w' = w
      · subst e
        rw [mod_get] at h'
        cases h'
        exact ⟨⟨o, upd_same, hR⟩, h3⟩
      · rw [mod_other _ _ e] at h'
        obtain ⟨⟨o', h1, h2⟩, h4⟩ := t.row f' D w' s hf h'
        exact ⟨⟨o', by rw [upd_ne (pth_ne h4 h3 (by intro z; cases z; exact e rfl))]; exact h1, h2⟩, h4⟩
    · rw [mod_other _ _ e] at h
      obtain ⟨⟨o', h1, h2⟩, h4⟩ := t.row f' D' w' s h h'
      exact ⟨⟨o', by rw [upd_ne (pth_ne h4 h3 (by intro z; cases z; exact e rfl))]; exact h1, h2⟩, h4⟩
theorem TAt.old {a p : Addr} (t : TAt R G H b da ra pa F) (h : pa a ≠ none) (hp : H p = none) : a ≠ p := fun e => (t.own a h).2 (by rw [e]; exact hp)
theorem TAt.addW {f w : Str} {D : Wt Str} {r : Rw} {o : HO} {p : Addr} (M : RM R) (t : TAt R G H b da ra pa F) (hf : get F f = some D) (hw : get D w = none) (hp : H p = none) (hR : R (hid G pa H) o r) : TAt R G (upd (upd H p o) (da f) (.dK (kvF (ra f) D ++ [(.inr w, .ref p)]))) b da (fup ra f (fup (ra f) w p)) (fup pa p (some [f, w])) (KT.mod F f fun _ => D ++ [(w, r)]) := by
  obtain ⟨hd, h3⟩ := t.fld f D hf
  have hn : pa (da f) ≠ none := by rw [h3]; intro z; cases z
  have np : da f ≠ p := t.old hn hp
  have so : ∀ {a q}, pa a = some q → a ≠ p := fun h => t.old (by rw [h]; intro z; cases z) hp
  have ph : ∀ {a q}, pa a = some q → fup pa p (some [f, w]) a = some q := fun h => by rw [fup_ne (so h)]; exact h
  have hn' : fup pa p (some [f, w]) (da f) ≠ none := by rw [ph h3]; intro z; cases z
  have sR : Same (hid G pa H) (hid G (fup pa p (some [f, w])) (upd (upd H p o) (da f) (.dK (kvF (ra f) D ++ [(.inr w, .ref p)])))) := by rw [hid_own hn']; exact hid_new hp
  have gp : G p = none := t.base.free hp
  refine ⟨(t.base.newer gp _).newer (t.own _ hn).1 _, fun a ha => ?_, ⟨by rw [upd_ne (pth_ne t.top.2 h3 (by intro z; cases z)), upd_ne (so t.top.2), kv_mod (by rw [hf]; rfl)]; exact t.top.1, ph t.top.2⟩, fun f' D' h => ?_, fun f' D' w' s h h' => ?_⟩
  · by_cases ep : a = p
    · exact ⟨by rw [ep]; exact gp, by rw [ep, upd_ne np.symm, upd_same]; intro z; cases z⟩
    · rw [fup_ne ep] at ha
      refine ⟨(t.own a ha).1, fun e => ?_⟩
      by_cases ed : a = da f
      · rw [ed, upd_same] at e; cases e
      · rw [upd_ne ed, upd_ne ep] at e; exact (t.own a ha).2 e
  · by_cases e : f' = f
    · subst e
      rw [mod_get] at h
      cases h
      exact ⟨by rw [upd_same, fup_at, kv_add hw], ph h3⟩
    · rw [mod_other _ _ e] at h
      obtain ⟨h1, h2⟩ := t.fld f' D' h
      exact ⟨by rw [upd_ne (pth_ne h2 h3 (by intro z; cases z; exact e rfl)), upd_ne (so h2), fup_ne e]; exact h1, ph h2⟩
  · by_cases e : f' = f
    · subst e
      rw [mod_get] at h
      cases h
      rw [fup_at]
      by_cases e : w' = w
      · subst e
        rw [fup_at]
        have e2 : s = r := by
          rw [← mod_end hw (fun _ => r), mod_get] at h'
          exact (Option.some.inj h').symm
        subst e2
        exact ⟨⟨o, by rw [upd_ne np.symm, upd_same], M _ _ _ _ sR hR⟩, fup_at⟩
      · rw [fup_ne e]
        rw [← mod_end hw (fun _ => r), mod_other _ _ e] at h'
        obtain ⟨⟨o', h1, h2⟩, h4⟩ := t.row f' D w' s hf h'
        exact ⟨⟨o', by rw [upd_ne (pth_ne h4 h3 (by intro z; cases z)), upd_ne (so h4)]; exact h1, M _ _ _ _ sR h2⟩, ph h4⟩
    · rw [mod_other _ _ e] at h
      rw [fup_ne e]
      obtain ⟨⟨o', h1, h2⟩, h4⟩ := t.row f' D' w' s h h'
      exact ⟨⟨o', by rw [upd_ne (pth_ne h4 h3 (by intro z; cases z)), upd_ne (so h4)]; exact h1, M _ _ _ _ sR h2⟩, ph h4⟩
theorem TAt.addF {f : Str} {p : Addr} (M : RM R) (t : TAt R G H b da ra pa F) (hf : get F f = none) (hp : H p = none) : TAt R G (upd (upd H p (.dK [])) b (.dK (kvF da F ++ [(.inr f, .ref p)]))) b (fup da f p) ra (fup pa p (some [f])) (F ++ [(f, [])]) := by
  obtain ⟨hd, h3⟩ := t.top
  have hn : pa b ≠ none := by rw [h3]; intro z; cases z
  have np : b ≠ p := t.old hn hp
  have so : ∀ {a q}, pa a = some q → a ≠ p := fun h => t.old (by rw [h]; intro z; cases z) hp
  have ph : ∀ {a q}, pa a = some q → fup pa p (some [f]) a = some q := fun h => by rw [fup_ne (so h)]; exact h
  have hn' : fup pa p (some [f]) b ≠ none := by rw [ph h3]; intro z; cases z
  have sR : Same (hid G pa H) (hid G (fup pa p (some [f])) (upd (upd H p (.dK [])) b (.dK (kvF da F ++ [(.inr f, .ref p)])))) := by rw [hid_own hn']; exact hid_new hp
  have gp : G p = none := t.base.free hp
  have ge : ∀ {f'}, f' ≠ f → get (F ++ [(f, [])]) f' = get F f' := fun e => by rw [← mod_end hf (fun _ => []), mod_other _ _ e]
  have gf : get (F ++ [(f, ([] : Wt Str))]) f = some [] := by rw [← mod_end hf (fun _ => []), mod_get]
  refine ⟨(t.base.newer gp _).newer (t.own _ hn).1 _, fun a ha => ?_, ⟨by rw [upd_same, kv_add hf], ph h3⟩, fun f' D' h => ?_, fun f' D' w' s h h' => ?_⟩
  · by_cases ep : a = p
    · exact ⟨by rw [ep]; exact gp, by rw [ep, upd_ne np.symm, upd_same]; intro z; cases z⟩
    · rw [fup_ne ep] at ha
      refine ⟨(t.own a ha).1, fun e => ?_⟩
      by_cases ed : a = b
      · rw [ed, upd_same] at e; cases e
      · rw [upd_ne ed, upd_ne ep] at e; exact (t.own a ha).2 e
  · by_cases e : f' = f
    · subst e
      rw [gf] at h
      cases h
      exact ⟨by rw [fup_at, upd_ne np.symm, upd_same]; rfl, by rw [fup_at, fup_at]⟩
    · rw [ge e] at h
      obtain ⟨h1, h2⟩ := t.fld f' D' h
      exact ⟨by rw [fup_ne e, upd_ne (pth_ne h2 h3 (by intro z; cases z)), upd_ne (so h2)]; exact h1, by rw [fup_ne e]; exact ph h2⟩
  · by_cases e : f' = f
    · subst e
      rw [gf] at h
      cases h
      cases h'
    · rw [ge e] at h
      obtain ⟨⟨o', h1, h2⟩, h4⟩ := t.row f' D' w' s h h'
      exact ⟨⟨o', by rw [upd_ne (pth_ne h4 h3 (by intro z; cases z)), upd_ne (so h4)]; exact h1, M _ _ _ _ sR h2⟩, ph h4⟩
end
structure Fr (G : Hp) (pa : Pth) (H : Hp) (pa' : Pth) (H' : Hp) : Prop where
  free : Same (hid G pa H) (hid G pa' H')
  far : ∀ a q, pa a = some q → 2 < q.length → H' a = H a ∧ pa' a = some q
theorem Fr.refl {G H : Hp} {pa : Pth} : Fr G pa H pa H := ⟨Same.refl _, fun _ _ h _ => ⟨rfl, h⟩⟩
theorem Fr.trans {G H H1 H2 : Hp} {pa p1 p2 : Pth} (h : Fr G pa H p1 H1) (h' : Fr G p1 H1 p2 H2) : Fr G pa H p2 H2 :=
  ⟨h.free.trans h'.free, fun a q e n => by
    obtain ⟨e1, e2⟩ := h.far a q e n
    obtain ⟨e3, e4⟩ := h'.far a q e2 n
    exact ⟨e3.trans e1, e4⟩⟩
theorem Fr.own {G H : Hp} {pa : Pth} {a : Addr} {o : HO} {q : List Str} (h : pa a = some q) (n : q.length < 3) : Fr G pa H pa (upd H a o) :=
  ⟨by rw [hid_own (by rw [h]; intro z; cases z)]; exact Same.refl _, fun c q' e n' => ⟨upd_ne (pth_ne e h (fun z => by rw [z] at n'; omega)), e⟩⟩
theorem Fr.new {G H : Hp} {pa : Pth} {p : Addr} {o : HO} {q : List Str} (hp : H p = none) (hn : ∀ a, pa a ≠ none → H a ≠ none) : Fr G pa H (fup pa p (some q)) (upd H p o) :=
  ⟨hid_new hp, fun c q' e n' => by
    have : c ≠ p := fun z => hn c (by rw [e]; intro z; cases z) (by rw [z]; exact hp)
    exact ⟨upd_ne this, by rw [fup_ne this]; exact e⟩⟩
theorem Fr.same {G H H' : Hp} {pa : Pth} (s : Same H H') (hn : ∀ a, pa a ≠ none → H a ≠ none) : Fr G pa H pa H' :=
  ⟨hid_same s, fun c q' e n' => by
    cases h : H c with
    | none => exact absurd h (hn c (by rw [e]; intro z; cases z))
    | some u => exact ⟨s _ _ h, e⟩⟩
theorem Fr.at_ {G H H' : Hp} {pa pa' : Pth} {a : Addr} {u : HO} (h : Fr G pa H pa' H') (e : H a = some u) (g : G a = none) (p : pa a = none) : H' a = some u ∧ pa' a = none := by
  obtain ⟨h1, _, h2⟩ := hid_to (h.free _ _ (hid_at e g p))
  exact ⟨h1, h2⟩
def dvR (x : Int × List Int) : DV := .tup [.int x.1, .lst (x.2.map DV.int)]
def Rp (h : Hp) (o : HO) (r : Rw) : Prop := ∃ xs, o = .lst xs ∧ DeepTs h (r.map dvR) xs
theorem Rp_m : RM Rp := fun h h' o r s ⟨xs, e, d⟩ => ⟨xs, e, DeepTs.same s _ _ d⟩
theorem PlAt.at_ {G H : Hp} : ∀ {kvs : List (Key × V)} {p : Pl Str} {i : Nat} {k : Key} {v : V}, PlAt G H kvs p → kvs[i]? = some (k, v) → ∃ l x, p[i]? = some x ∧ k = .inr x.1 ∧ v = .ref l ∧ G l = none ∧ H l = some (.lst (x.2.map V.int))
  | kv :: r, x :: p, 0, k, v, ⟨⟨l, e, g, hl, _⟩, _⟩, hk => by
    simp at hk
    rw [e] at hk
    cases hk
    exact ⟨l, x, rfl, rfl, rfl, g, hl⟩
  | kv :: r, x :: p, i + 1, k, v, ⟨_, h⟩, hk => by
    obtain ⟨l, y, h1, h2⟩ := PlAt.at_ (i := i) h (by simpa using hk)
    exact ⟨l, y, by simpa using h1, h2⟩
  | [], [], i, k, v, _, hk => by simp at hk
  | [], _ :: _, _, _, _, h, _ => h.elim
  | _ :: _, [], _, _, _, h, _ => h.elim
theorem val_at : ∀ {kvs : List (Key × V)} {i : Nat} {k : Key} {v : V}, (kvs.map (·.1)).Nodup → kvs[i]? = some (k, v) → valV kvs k = some v
  | kv :: r, 0, k, v, nd, hk => by
    simp at hk
    rw [hk, valV_pos rfl]
  | kv :: r, i + 1, k, v, nd, hk => by
    rw [List.map_cons, List.nodup_cons] at nd
    have hk' : r[i]? = some (k, v) := by simpa using hk
    obtain ⟨k0, v0⟩ := kv
    have hin : k ∈ r.map (·.1) := List.mem_map.mpr ⟨_, List.mem_of_getElem? hk', rfl⟩
    rw [valV_neg (fun e => nd.1 (by have e' : k0 = k := e; rw [e']; exact hin))]
    exact val_at nd.2 hk'
  | [], i, k, v, _, hk => by simp at hk
theorem putAll_len {m : Int} {n : Nat} : ∀ {p : Pl Str} {D : Wt Str}, D.length ≤ n → (∀ x ∈ D, x.2.length ≤ n) → (putAll m D p).length ≤ n + p.length ∧ ∀ x ∈ putAll m D p, x.2.length ≤ n + p.length
  | [], D, h, h' => ⟨h, h'⟩
  | y :: p, D, h, h' => by
    have e1 : (putW m D y).length ≤ n + 1 := by
      have := congrArg List.length (mod_keys D y.1 fun o => o.getD [] ++ [(m, y.2)])
      rw [List.length_map] at this
      unfold putW
      rw [this]
      split <;> simp <;> omega
    have := putAll_len (m := m) (n := n + 1) (p := p) e1 (putW_len (h := fun x hx => h' x hx))
    rw [List.length_cons]
    have e : n + 1 + p.length = n + (p.length + 1) := by omega
    rw [e] at this
    exact this
theorem plc_len : ∀ (ws : List Str) (p : Pl Str) (i : Int), (plc p i ws).length ≤ p.length + ws.length
  | [], p, i => Nat.le_refl _
  | w :: ws, p, i => by
    have := plc_len ws (addP p w i) (i + 1)
    have e : (addP p w i).length ≤ p.length + 1 := by
      have := congrArg List.length (mod_keys p w fun o => o.getD [] ++ [i])
      rw [List.length_map] at this
      unfold addP
      rw [this]
      split <;> simp
    rw [plc, List.length_cons]
    omega
def spAdd : Sp := fun vs H Q _ => ∃ (G : Hp) (b : Addr) (da : Str → Addr) (ra : Str → Str → Addr) (pa : Pth) (F : Fl) (fl : Str) (D : Wt Str) (n : Nat) (m : Int) (a : Addr) (ws : List Str), vs = [.ref (da fl), .int m, .ref a] ∧ TAt Rp G H b da ra pa F ∧ get F fl = some D ∧ D.length ≤ n ∧ (∀ x ∈ D, x.2.length ≤ n) ∧ n ≤ 1000000 ∧
  H a = some (.lst (ws.map V.str)) ∧ ws.length ≤ 1000 ∧ ∀ ra' pa' H', TAt Rp G H' b da ra' pa' (KT.mod F fl fun _ => putAll m D (plc [] 0 ws)) → Fr G pa H pa' H' → Q .non H'
section
variable {P : Program} {w : World} {K : PySem.W.Frag} {mg : Str → Option Value} {base : Heap} {f : Addr} {fd : FuncData}
theorem scAdd : FnScope ["by_word", "make", "words", "places", "word"] ["by_word", "make", "words"] (defScope sAdd) := ⟨rfl, rfl, rfl, by decide +kernel, rfl, by decide +kernel, by decide +kernel⟩
def invAd (G H1 : Hp) (b a d : Addr) (da : Str → Addr) (pa : Pth) (m : Int) (F : Fl) (fl : Str) (D : Wt Str) (p : Pl Str) (i : Nat) (σ : St) (L : Hp) : Prop := ∃ (ra' : Str → Str → Addr) (pa' : Pth) (v4 : Option V), σ = [some (.ref (da fl)), some (.int m), some (.ref a), some (.ref d), v4] ∧ TAt Rp G L b da ra' pa' (KT.mod F fl fun _ => putAll m D (p.take i)) ∧ Fr G pa H1 pa' L
theorem ok_add {g : Addr} {gd : FuncData} (F : Fun K "add_postings" "add_postings" sAdd f fd) (T : Txt mg) (GB : FnOk P w K mg base CX0 1 g gd ["words"] spPlaces) (bB : Binds K gd ["words"] []) (kB : PySem.W.keepIn K (.ref g) = true) (mB : mg "places_by_word" = some (.ref g)) : FnOk P w K mg base CX0 2 f fd ["by_word", "make", "words"] spAdd := by
  refine F.ok scAdd (fun vs H Q E h => ?_) (fun cdv A outer s H vs Q E hr h => ?_)
  · obtain ⟨G, b, da, ra, pa, F, fl, D, n, m, a, ws, rfl, _⟩ := h
    rfl
  obtain ⟨G, b, da, ra, pa, F, fl, D, n, m, a, ws, rfl, hT, hF, hkl, hrl, hn, ha, hl, q⟩ := h
  refine ⟨_, (pss_cons (ps_set (i := 3) scAdd.nd rfl (Or.inl rfl) (pe_call GB hr rfl mB kB bB .nil pass0 (pa_cons (pv 2) pa_nil)))
    (pss_one (ps_for PassesOwn.never rfl (pi_dict (pv 3)) (pg_name (i := 4) scAdd.nd rfl (Or.inl rfl))
      (pss_one (ps_expr (bmK K PySem.F.plainAttrs_list PySem.F.slot_list_append PySem.F.type_list_append mt_append (pe_dsetd (pv 0) (pv 4) (pe_lst pa_nil) ⟨rfl, rfl, rfl, rfl⟩) (pa_cons (pe_tup (pa_cons (pv 1) (pa_cons (pe_dget (hu_of hr) (pv 3) (pv 4) (fun _ _ => rfl)) pa_nil))) pa_nil))))))), ?_⟩
  simpa only [spPlaces, iDict]
  refine ⟨ws, ha, hl, fun d pk H1 s1 hd hd1 hpl => ⟨pk, hd1, fun o => ?_⟩⟩
  have fd : ∀ {l}, H l = none → G l = none ∧ pa l = none := fun {l} h => ⟨hT.base.free h, Classical.byContradiction fun e => (hT.own l e).2 h⟩
  have s2 : Same H (upd H1 d (.frz o (.dK pk))) := s1.newer hd _
  have t2 := hT.same Rp_m s2
  have hpd : ∀ {l u}, H1 l = some u → u ≠ .dK pk → (upd H1 d (.frz o (.dK pk))) l = some u := fun h h' => by rw [upd_ne (ne_of h hd1 h')]; exact h
  have hd2 : (upd H1 d (.frz o (.dK pk))) d = some (.frz o (.dK pk)) := upd_same
  have hnd : (pk.map (·.1)).Nodup := by
    rw [hpl.keys]
    have := plc_nodup ws ([] : Pl Str) 0 List.nodup_nil
    exact this.map Sum.inr (fun a b e c => e (Sum.inr.inj c))
  have hpe := hpl.keys
  have hplen : pk.length = (plc [] 0 ws).length := by have := congrArg List.length hpe; simpa using this
  have hp1 := plc_len ws [] 0
  have hfr := Fr.same (G := G) s2 (fun a ha => (hT.own a ha).2)
  generalize upd H1 d (.frz o (.dK pk)) = M at s2 t2 hpd hd2 hfr ⊢
  refine forW_dict (invAd G M b a d da pa m F fl D (plc [] 0 ws)) ⟨ra, pa, none, rfl, by rw [List.take_zero]; show TAt Rp G M b da ra pa (KT.mod F fl fun _ => D); rw [mod_id hF]; exact t2, Fr.refl⟩ ?_ ?_ ?_
  · rintro i σ L ⟨ra', pa', v4, rfl, t, fr⟩
    exact (fr.at_ hd2 (fd hd).1 (fd hd).2).1
  · rintro i k v0 σ L hk ⟨ra', pa', v4, rfl, t, fr⟩
    have hil : i < pk.length := (List.getElem?_eq_some_iff.mp hk).1
    obtain ⟨l, x, hx, rfl, rfl, hl1, hl2⟩ := hpl.at_ hk
    have hvv := val_at hnd hk
    have hdL := (fr.at_ hd2 (fd hd).1 (fd hd).2).1
    obtain ⟨hlL, hlp⟩ := fr.at_ (hpd hl2 (by intro z; cases z)) (fd hl1).1 (fd hl1).2
    have hgl := (fd hl1).1
    have eT : putAll m D ((plc [] 0 ws).take (i + 1)) = putW m (putAll m D ((plc [] 0 ws).take i)) x := by rw [List.take_add_one, hx]; exact putAll_snoc _ _ _ _
    have hsz := putAll_len (m := m) (p := (plc [] 0 ws).take i) hkl hrl
    have htl : ((plc [] 0 ws).take i).length ≤ 1000 := by rw [List.length_take]; simp at hp1; omega
    have hg := mod_get F fl fun _ => putAll m D ((plc [] 0 ws).take i)
    generalize hF1 : (KT.mod F fl fun _ => putAll m D ((plc [] 0 ws).take i)) = F1 at t hg
    have eF : ∀ D', (KT.mod F fl fun _ => D') = KT.mod F1 fl fun _ => D' := fun D' => by rw [← hF1, mod_mod]
    unfold invAd
    rw [eT, eF]
    generalize putAll m D ((plc [] 0 ws).take i) = D1 at hsz hg ⊢
    obtain ⟨hfd, hfp⟩ := t.fld fl D1 hg
    simpa only [tDSetd, tDGet]
    have szl := sizeLine_eq
    refine ⟨.inl ⟨_, .inl hfd⟩, by decide, fun p hp => ?_⟩
    have sp := same_new hp (.lst [])
    have hnp : da fl ≠ p := ne_of_none hfd hp
    refine ⟨_, sp _ _ hfd, .inr x.1, rfl, by rw [kv_len]; omega, fun v hv => ?_, fun hvn => ?_⟩
    · rw [kv_get] at hv
      obtain ⟨r, hr1, rfl⟩ := Option.map_eq_some_iff.mp hv
      obtain ⟨⟨ob, ho1, xs, rfl, ho2⟩, ho3⟩ := t.row fl D1 x.1 r hg hr1
      have hrl2 := hsz.2 _ (get_in hr1)
      have hxl : xs.length = r.length := by have := ho2.length; rwa [List.length_map] at this
      refine ⟨.inl ⟨rfl, _, SqL.of (sp _ _ ho1)⟩, .ref l, .inl ⟨pk, .inr x.1, .inr ⟨o, sp _ _ hdL⟩, rfl, hvv.symm⟩, by decide, fun p1 hp1 => ?_⟩
      have sp1 := same_new hp1 (.tup [.int m, .ref l])
      have s12 := sp.trans sp1
      have t3 := t.same Rp_m s12
      refine ⟨_, rfl, xs, s12 _ _ ho1, by simp only at hrl2; omega, ra', pa', ?_, fr.trans ((Fr.same s12 fun a ha => (t.own a ha).2).trans (Fr.own ho3 (by show 2 < 3; decide)))⟩
      have hR : Rp (hid G pa' (upd (upd L p (.lst [])) p1 (.tup [.int m, .ref l]))) (.lst (xs ++ [.ref p1])) (r ++ [(m, x.2)]) := by
        refine ⟨_, rfl, ?_⟩
        rw [List.map_append]
        refine (DeepTs.same (hid_same s12) _ _ ho2).app (DeepTs.one ?_)
        have hpG : G p1 = none := (t.base.trans sp).free hp1
        have hpP : pa' p1 = none := Classical.byContradiction fun e => (t.own p1 e).2 (sp.free hp1)
        unfold dvR
        rw [DeepT]
        refine ⟨p1, _, rfl, hid_at upd_same hpG hpP, ?_⟩
        rw [DeepTs]
        refine ⟨_, _, rfl, by rw [DeepT], DeepTs.one ?_⟩
        rw [DeepT]
        exact ⟨l, _, rfl, hid_at (s12 _ _ hlL) hgl hlp, DeepTs.ints _⟩
      have := t3.chg hg hr1 hR
      have eD : putW m D1 x = KT.mod D1 x.1 fun _ => r ++ [(m, x.2)] := by
        unfold putW
        exact mod_congr (by rw [hr1]; rfl)
      rw [eD]
      exact this
    · rw [kv_get] at hvn
      have hvn' : get D1 x.1 = none := Option.map_eq_none_iff.mp hvn
      have el := putK_new (kvs := kvF (ra' fl) D1) (k := (.inr x.1 : Key)) (V.ref p) (by rw [kv_get, hvn']; rfl)
      have hR0 : Rp (hid G pa' L) (.lst []) [] := ⟨[], rfl, DeepTs.nil⟩
      have ta := t.addW (p := p) Rp_m hg hvn' hp hR0
      have fa : Fr G pa' L (fup pa' p (some [fl, x.1])) (upd (upd L p (.lst [])) (da fl) (.dK (kvF (ra' fl) D1 ++ [(.inr x.1, .ref p)]))) := (Fr.new hp fun a ha => (t.own a ha).2).trans (Fr.own (q := [fl]) (by rw [fup_ne hnp]; exact hfp) (by show 1 < 3; decide))
      rw [el]
      generalize upd (upd L p (.lst [])) (da fl) (.dK (kvF (ra' fl) D1 ++ [(.inr x.1, .ref p)])) = M1 at ta fa ⊢
      have fra := fr.trans fa
      have hdM := (fra.at_ hd2 (fd hd).1 (fd hd).2).1
      obtain ⟨hlM, hlP⟩ := fra.at_ (hpd hl2 (by intro z; cases z)) (fd hl1).1 (fd hl1).2
      have hg2 := mod_get F1 fl fun _ => D1 ++ [(x.1, ([] : Rw))]
      have hw2 : get (D1 ++ [(x.1, ([] : Rw))]) x.1 = some [] := by rw [← mod_end hvn' (fun _ => []), mod_get]
      obtain ⟨⟨ob, ho1, xs, rfl, ho2⟩, ho3⟩ := ta.row fl _ x.1 [] hg2 hw2
      have hxs : xs = [] := by have := ho2.length; exact List.eq_nil_of_length_eq_zero this
      subst hxs
      have era : fup ra' fl (fup (ra' fl) x.1 p) fl x.1 = p := by rw [fup_at, fup_at]
      refine ⟨.inl ⟨rfl, _, SqL.of (by rw [← era]; exact ho1)⟩, .ref l, .inl ⟨pk, .inr x.1, .inr ⟨o, hdM⟩, rfl, hvv.symm⟩, by decide, fun p1 hp1 => ?_⟩
      have sp1 := same_new hp1 (.tup [.int m, .ref l])
      have t3 := ta.same Rp_m sp1
      rw [era] at ho1
      refine ⟨[], sp1 _ _ ho1, by show 0 < sizeLine; omega, fup ra' fl (fup (ra' fl) x.1 p), _, ?_, fra.trans ((Fr.same sp1 fun a ha => (ta.own a ha).2).trans (Fr.own (q := [fl, x.1]) fup_at (by show 2 < 3; decide)))⟩
      have hR : Rp (hid G (fup pa' p (some [fl, x.1])) (upd M1 p1 (.tup [.int m, .ref l]))) (.lst ([] ++ [.ref p1])) ([(m, x.2)]) := by
        refine ⟨_, rfl, DeepTs.one ?_⟩
        have hpG : G p1 = none := ta.base.free hp1
        have hpP : (fup pa' p (some [fl, x.1])) p1 = none := Classical.byContradiction fun e => (ta.own p1 e).2 hp1
        unfold dvR
        rw [DeepT]
        refine ⟨p1, _, rfl, hid_at upd_same hpG hpP, ?_⟩
        rw [DeepTs]
        refine ⟨_, _, rfl, by rw [DeepT], DeepTs.one ?_⟩
        rw [DeepT]
        exact ⟨l, _, rfl, hid_at (sp1 _ _ hlM) hgl hlP, DeepTs.ints _⟩
      have := t3.chg hg2 hw2 hR
      rw [era, mod_mod, ← mod_end hvn' (fun _ => []), mod_mod] at this
      have eD : putW m D1 x = KT.mod D1 x.1 fun _ => [(m, x.2)] := by
        unfold putW
        exact mod_congr (by rw [hvn']; rfl)
      rw [eD]
      exact this
  · rintro σ L ⟨ra', pa', v4, rfl, t, fr⟩
    rw [hplen, List.take_length] at t
    exact q ra' pa' L t (hfr.trans fr)
end
def addS (m : Int) (F : Fl) (f : Str) (ws : List Str) : Fl := if ws = [] then F else KT.mod F f fun o => putAll m (o.getD []) (plc [] 0 ws)
def docT (m : Int) (F : Fl) (d : List Fld) : Fl := d.foldl (fun F y => addS m F y.1 (wordsS y.2)) F
def tabT (F : Fl) (ms : List Mk) : Fl := ms.foldl (fun F x => docT x.1 F x.2) F
theorem docT_at {m : Int} {F : Fl} {d : List Fld} {j : Nat} {y : Fld} (h : d[j]? = some y) : docT m F (d.take (j + 1)) = addS m (docT m F (d.take j)) y.1 (wordsS y.2) := by
  rw [List.take_add_one, h]
  exact List.foldl_append ..
theorem tabT_at {F : Fl} {ms : List Mk} {i : Nat} {x : Mk} (h : ms[i]? = some x) : tabT F (ms.take (i + 1)) = docT x.1 (tabT F (ms.take i)) x.2 := by
  rw [List.take_add_one, h]
  exact List.foldl_append ..
def Sz (n : Nat) (F : Fl) : Prop := F.length ≤ n ∧ ∀ x ∈ F, x.2.length ≤ n ∧ ∀ y ∈ x.2, y.2.length ≤ n
theorem Sz.mono {n m : Nat} {F : Fl} (h : Sz n F) (e : n ≤ m) : Sz m F := ⟨Nat.le_trans h.1 e, fun x hx => ⟨Nat.le_trans (h.2 x hx).1 e, fun y hy => Nat.le_trans ((h.2 x hx).2 y hy) e⟩⟩
theorem Sz.at_ {n : Nat} {F : Fl} {f : Str} (h : Sz n F) : ((get F f).getD []).length ≤ n ∧ ∀ y ∈ (get F f).getD [], y.2.length ≤ n := by
  cases e : get F f with
  | none => exact ⟨Nat.zero_le _, fun y hy => by cases hy⟩
  | some D => exact h.2 _ (get_in e)
theorem mod_len {κ α : Type} [DecidableEq κ] {F : List (κ × α)} {f : κ} {g : Option α → α} : (KT.mod F f g).length ≤ F.length + 1 := by
  have := congrArg List.length (mod_keys F f g)
  rw [List.length_map] at this
  rw [this]
  split <;> simp
theorem addS_sz {n : Nat} {m : Int} {F : Fl} {f : Str} {ws : List Str} (h : Sz n F) (hw : ws.length ≤ 1000) : Sz (n + 1000) (addS m F f ws) := by
  unfold addS
  split
  · exact h.mono (by omega)
  · refine ⟨Nat.le_trans mod_len (by have := h.1; omega), fun x hx => ?_⟩
    rcases mod_mem hx with e | e
    · have := h.2 x e
      exact ⟨by omega, fun y hy => by have := this.2 y hy; omega⟩
    · subst e
      have a := h.at_ (f := f)
      have b := putAll_len (m := m) (p := plc [] 0 ws) a.1 a.2
      have c := plc_len ws [] 0
      have d : (plc [] 0 ws).length ≤ 1000 := by simp at c; omega
      exact ⟨by have := b.1; simp only; omega, fun y hy => by have := b.2 y hy; omega⟩
abbrev LT := List (List Key × V)
def lenA (m : Int) (T : LT) (y : Fld) : LT := if wordsS y.2 = [] then T else putK T [.inl m, .inr y.1] (.int (wordsS y.2).length)
def lenD (m : Int) (T : LT) (d : List Fld) : LT := d.foldl (lenA m) T
def lenT (T : LT) (ms : List Mk) : LT := ms.foldl (fun T x => lenD x.1 T x.2) T
theorem lenD_at {m : Int} {T : LT} {d : List Fld} {j : Nat} {y : Fld} (h : d[j]? = some y) : lenD m T (d.take (j + 1)) = lenA m (lenD m T (d.take j)) y := by
  rw [List.take_add_one, h]
  exact List.foldl_append ..
theorem lenT_at {T : LT} {ms : List Mk} {i : Nat} {x : Mk} (h : ms[i]? = some x) : lenT T (ms.take (i + 1)) = lenD x.1 (lenT T (ms.take i)) x.2 := by
  rw [List.take_add_one, h]
  exact List.foldl_append ..
def LV (T : LT) (m : Int) (f : Str) : V := (valV T [.inl m, .inr f]).getD (.int 0)
def dlen (d : List Fld) (f : Str) : Nat := (wordsS ((get d f).getD "")).length
theorem words_nil : wordsS "" = [] := by decide +kernel
theorem lenA_ne {m k : Int} {T : LT} {y : Fld} {f : Str} (h : ¬ (k = m ∧ f = y.1)) : LV (lenA m T y) k f = LV T k f := by
  unfold lenA LV
  split
  · rfl
  · rw [valV_put, if_neg (fun e => h (by cases e; exact ⟨rfl, rfl⟩))]
theorem lenA_eq {m : Int} {T : LT} {y : Fld} (h : LV T m y.1 = .int 0) : LV (lenA m T y) m y.1 = .int (wordsS y.2).length := by
  unfold lenA
  split
  · rename_i e; rw [h, e]; rfl
  · unfold LV; rw [valV_put, if_pos rfl]; rfl
theorem lenD_ne {m k : Int} {f : Str} : ∀ {d : List Fld} {T : LT}, (k = m → f ∉ d.map (·.1)) → LV (lenD m T d) k f = LV T k f
  | [], T, _ => rfl
  | y :: d, T, h => by
    show LV (lenD m (lenA m T y) d) k f = _
    rw [lenD_ne (d := d) fun e z => h e (List.mem_cons_of_mem _ z), lenA_ne fun e => h e.1 (by rw [e.2]; exact List.mem_cons_self)]
theorem lenD_eq {m : Int} {f : Str} : ∀ {d : List Fld} {T : LT}, (d.map (·.1)).Nodup → LV T m f = .int 0 → LV (lenD m T d) m f = .int (dlen d f)
  | [], T, _, h => by rw [show lenD m T [] = T from rfl, h]; unfold dlen; rw [show (get ([] : List Fld) f).getD "" = "" from rfl, words_nil]; rfl
  | y :: d, T, nd, h => by
    rw [List.map_cons, List.nodup_cons] at nd
    show LV (lenD m (lenA m T y) d) m f = _
    by_cases e : y.1 = f
    · subst e
      rw [lenD_ne (d := d) fun _ => nd.1, lenA_eq h]
      unfold dlen
      rw [KT.get, if_pos rfl]
      rfl
    · rw [lenD_eq nd.2 (by rw [lenA_ne fun z => e z.2.symm]; exact h)]
      unfold dlen
      rw [KT.get, if_neg e]
theorem lenT_ne {k : Int} {f : Str} : ∀ {ms : List Mk} {T : LT}, k ∉ ms.map (·.1) → LV (lenT T ms) k f = LV T k f
  | [], T, _ => rfl
  | x :: ms, T, h => by
    show LV (lenT (lenD x.1 T x.2) ms) k f = _
    rw [lenT_ne (ms := ms) fun z => h (List.mem_cons_of_mem _ z), lenD_ne fun e => absurd (by rw [e]; exact List.mem_cons_self) h]
theorem lenT_eq {x : Mk} {f : Str} : ∀ {ms : List Mk} {T : LT}, (ms.map (·.1)).Nodup → (x.2.map (·.1)).Nodup → x ∈ ms → LV T x.1 f = .int 0 → LV (lenT T ms) x.1 f = .int (dlen x.2 f)
  | y :: ms, T, nd, nx, hx, h => by
    rw [List.map_cons, List.nodup_cons] at nd
    show LV (lenT (lenD y.1 T y.2) ms) x.1 f = _
    rcases List.mem_cons.mp hx with e | hx
    · subst e
      rw [lenT_ne nd.1, lenD_eq nx h]
    · have : x.1 ≠ y.1 := fun e => nd.1 (by rw [← e]; exact List.mem_map.mpr ⟨x, hx, rfl⟩)
      exact lenT_eq nd.2 nx hx (by rw [lenD_ne fun e => absurd e this]; exact h)
theorem lenA_len {m : Int} {T : LT} {y : Fld} : (lenA m T y).length ≤ T.length + 1 := by
  unfold lenA
  split
  · omega
  · exact length_putK _ _ _
theorem dw_rises : ∀ {d : List Fld} {p : Str} {j : Nat}, dw p j d = none → (∀ y ∈ d, p.cps.toList < y.1.cps.toList) ∧ (d.map (·.1)).Nodup
  | [], p, j, _ => ⟨fun y hy => (by cases hy), List.nodup_nil⟩
  | x :: r, p, j, h => by
    rw [dw] at h
    by_cases c : badF p x.1 = true
    · rw [if_pos c] at h; cases h
    · rw [if_neg c] at h
      obtain ⟨h1, h2⟩ := dw_rises h
      have hp : p.cps.toList < x.1.cps.toList := by
        unfold badF at c
        rw [Bool.not_eq_true, Bool.or_eq_false_iff] at c
        have := c.2
        rw [Bool.not_eq_false'] at this
        exact of_decide_eq_true this
      refine ⟨fun y hy => ?_, ?_⟩
      · rcases List.mem_cons.mp hy with e | hy
        · rw [e]; exact hp
        · exact List.lt_trans hp (h1 y hy)
      · rw [List.map_cons, List.nodup_cons]
        refine ⟨fun z => ?_, h2⟩
        obtain ⟨y, hy, e⟩ := List.mem_map.mp z
        have := h1 y hy
        rw [e] at this
        exact List.lt_irrefl _ this
theorem mw_rises : ∀ {ms : List Mk} {p : Int}, mw p ms → (∀ x ∈ ms, p < x.1) ∧ (ms.map (·.1)).Nodup
  | [], p, _ => ⟨fun y hy => (by cases hy), List.nodup_nil⟩
  | x :: r, p, h => by
    obtain ⟨h1, h2⟩ := mw_rises h.2.2
    refine ⟨fun y hy => ?_, ?_⟩
    · rcases List.mem_cons.mp hy with e | hy
      · rw [e]; exact h.1
      · have := h1 y hy; have := h.1; omega
    · rw [List.map_cons, List.nodup_cons]
      refine ⟨fun z => ?_, h2⟩
      obtain ⟨y, hy, e⟩ := List.mem_map.mp z
      have := h1 y hy
      omega
def OkD (m : Int) (D : Wt Str) : Prop := ∀ y ∈ D, (y.2.map (·.1)).Pairwise (· < ·) ∧ ∀ q ∈ y.2, q.1 < m
theorem OkD.mono {m n : Int} {D : Wt Str} (h : OkD m D) (e : m ≤ n) : OkD n D := fun y hy => ⟨(h y hy).1, fun q hq => by have := (h y hy).2 q hq; omega⟩
theorem OkD.free {m : Int} {D : Wt Str} (h : OkD m D) : Free m D := fun w r hr => by
  cases e : get r m with
  | none => rfl
  | some v =>
    have := (h _ (get_in hr)).2 _ (get_in e)
    simp only at this
    omega
theorem putAll_ok {m : Int} : ∀ {p : Pl Str} {D : Wt Str}, (p.map (·.1)).Nodup → OkD (m + 1) D → (∀ y ∈ D, y.1 ∈ p.map (·.1) → ∀ q ∈ y.2, q.1 < m) → OkD (m + 1) (putAll m D p)
  | [], D, _, h, _ => h
  | x :: p, D, nd, h, h' => by
    rw [List.map_cons, List.nodup_cons] at nd
    refine putAll_ok (p := p) (D := putW m D x) nd.2 (fun y hy => ?_) (fun y hy hp => ?_)
    · rcases mod_mem hy with e | e
      · exact h y e
      · subst e
        have key : ((get D x.1).getD []).map (·.1) |>.Pairwise (· < ·) := by
          cases e : get D x.1 with
          | none => exact List.Pairwise.nil
          | some r => exact (h _ (get_in e)).1
        have key2 : ∀ q ∈ (get D x.1).getD [], q.1 < m := by
          cases e : get D x.1 with
          | none => intro q hq; cases hq
          | some r => exact h' _ (get_in e) List.mem_cons_self
        refine ⟨?_, fun q hq => ?_⟩
        · show (((get D x.1).getD [] ++ [(m, x.2)]).map (·.1)).Pairwise (· < ·)
          rw [List.map_append, List.pairwise_append]
          refine ⟨key, List.pairwise_singleton _ _, fun a ha b hb => ?_⟩
          obtain ⟨q, hq, rfl⟩ := List.mem_map.mp ha
          rw [List.mem_singleton.mp hb]
          exact key2 q hq
        · rcases List.mem_append.mp hq with hq | hq
          · have := key2 q hq; omega
          · rw [List.mem_singleton.mp hq]; show m < m + 1; omega
    · rcases mod_mem hy with e | e
      · exact h' y e (List.mem_cons_of_mem _ hp)
      · subst e
        exact absurd hp nd.1
def DOk (m : Int) (d : List Fld) (F : Fl) : Prop := ∀ x ∈ F, OkD (m + 1) x.2 ∧ (x.1 ∈ d.map (·.1) → OkD m x.2)
theorem DOk.at_ {m : Int} {d : List Fld} {F : Fl} {y : Fld} (h : DOk m (y :: d) F) : OkD m ((get F y.1).getD []) := by
  cases e : get F y.1 with
  | none => intro y hy; cases hy
  | some D => exact (h _ (get_in e)).2 List.mem_cons_self
theorem DOk.step {m : Int} {d : List Fld} {F : Fl} {y : Fld} {ws : List Str} (h : DOk m (y :: d) F) (nd : ((y :: d).map (·.1)).Nodup) : DOk m d (addS m F y.1 ws) := by
  have hm : ∀ x ∈ F, OkD (m + 1) x.2 ∧ (x.1 ∈ d.map (·.1) → OkD m x.2) := fun x hx => ⟨(h x hx).1, fun z => (h x hx).2 (List.mem_cons_of_mem _ z)⟩
  rw [List.map_cons, List.nodup_cons] at nd
  unfold addS
  split
  · exact hm
  · intro x hx
    rcases mod_mem hx with e | e
    · exact hm x e
    · subst e
      exact ⟨putAll_ok (plc_nodup ws [] 0 List.nodup_nil) (h.at_.mono (by omega)) fun y hy _ => (h.at_ y hy).2, fun z => absurd z nd.1⟩
theorem docT_ok {m : Int} {d : List Fld} {F : Fl} (h : ∀ x ∈ F, OkD m x.2) (nd : (d.map (·.1)).Nodup) : ∀ j, j ≤ d.length → DOk m (d.drop j) (docT m F (d.take j))
  | 0, _ => fun x hx => ⟨(h x hx).mono (by omega), fun _ => h x hx⟩
  | j + 1, hj => by
    have e : d[j]? = some d[j] := List.getElem?_eq_getElem hj
    have ih := docT_ok h nd j (by omega)
    rw [List.drop_eq_getElem_cons hj] at ih
    rw [docT_at e]
    refine ih.step ?_
    rw [← List.drop_eq_getElem_cons hj, List.map_drop]
    exact nd.sublist (List.drop_sublist _ _)
theorem tabT_ok : ∀ {ms : List Mk} {p : Int} {F : Fl} {i : Nat} {x : Mk}, mw p ms → (∀ y ∈ F, OkD (p + 1) y.2) → ms[i]? = some x → ∀ y ∈ tabT F (ms.take i), OkD x.1 y.2
  | z :: ms, p, F, 0, x, h, hF, e => by
    simp at e
    subst e
    exact fun y hy => (hF y hy).mono (by have := h.1; omega)
  | z :: ms, p, F, i + 1, x, h, hF, e => by
    have nd := (dw_rises h.2.1).2
    have := docT_ok (m := z.1) (d := z.2) (F := F) (fun y hy => (hF y hy).mono (by have := h.1; omega)) nd z.2.length (Nat.le_refl _)
    rw [List.take_length] at this
    exact tabT_ok (ms := ms) (F := docT z.1 F z.2) (i := i) h.2.2 (fun y hy => (this y hy).1) (by simpa using e)
  | [], p, F, i, x, h, hF, e => by simp at e
theorem tabT_end : ∀ {ms : List Mk} {p : Int} {F : Fl}, mw p ms → (∀ y ∈ F, OkD (p + 1) y.2) → ∃ M, ∀ y ∈ tabT F ms, OkD M y.2
  | [], p, F, _, h => ⟨_, h⟩
  | z :: ms, p, F, h, hF => by
    have nd := (dw_rises h.2.1).2
    have := docT_ok (m := z.1) (d := z.2) (F := F) (fun y hy => (hF y hy).mono (by have := h.1; omega)) nd z.2.length (Nat.le_refl _)
    rw [List.take_length] at this
    exact tabT_end (ms := ms) (F := docT z.1 F z.2) h.2.2 (fun y hy => (this y hy).1)
def occF (m : Int) (f : Str) (F : Fl) (i : Int) : List Str → Fl
  | [] => F
  | w :: r => occF m f (KT.mod F f fun o => occ m (o.getD []) w i) (i + 1) r
theorem occF_mod {m : Int} {f : Str} : ∀ {ws : List Str} {i : Int} {F : Fl} {g : Option (Wt Str) → Wt Str}, occF m f (KT.mod F f g) i ws = KT.mod F f fun o => occs m (g o) i ws
  | [], i, F, g => rfl
  | w :: r, i, F, g => by rw [occF, mod_mod, occF_mod (ws := r)]; rfl
theorem occF_addS {m : Int} {f : Str} {F : Fl} (hf : Free m ((get F f).getD [])) (ws : List Str) : occF m f F 0 ws = addS m F f ws := by
  unfold addS
  cases ws with
  | nil => rfl
  | cons w r =>
    rw [if_neg (by intro z; cases z), occF, occF_mod]
    apply mod_congr
    exact occs_plc hf (w :: r) [] 0 List.nodup_nil
theorem occF_snoc {m : Int} {f : Str} {w : Str} : ∀ {ws : List Str} {i : Int} {F : Fl}, occF m f F i (ws ++ [w]) = KT.mod (occF m f F i ws) f fun o => occ m (o.getD []) w (i + ws.length)
  | [], i, F => by simp [occF]
  | x :: ws, i, F => by
    rw [List.cons_append, occF, occF, occF_snoc (ws := ws), List.length_cons]
    congr 1
    funext o
    congr 1
    omega
def nw (G H : Hp) : Hp := fun a => if G a = none then H a else none
theorem nw_at {G H : Hp} {a : Addr} {u : HO} (h : H a = some u) (g : G a = none) : nw G H a = some u := by unfold nw; rw [if_pos g]; exact h
theorem nw_same {G H : Hp} : Same (nw G H) H := fun a u h => by
  unfold nw at h
  by_cases g : G a = none
  · rw [if_pos g] at h; exact h
  · rw [if_neg g] at h; cases h
theorem nw_off {G H : Hp} {a : Addr} (g : G a ≠ none) : nw G H a = none := by unfold nw; rw [if_neg g]
theorem TAt.away {R : Hp → HO → Rw → Prop} {G H : Hp} {b : Addr} {da : Str → Addr} {ra : Str → Str → Addr} {pa : Pth} {F : Fl} (t : TAt R G H b da ra pa F) : TAt R (fun _ => none) (nw G H) b da ra pa F := by
  have on : ∀ {a q}, pa a = some q → G a = none := fun h => (t.own _ (by rw [h]; intro z; cases z)).1
  have eh : hid (fun _ => none) pa (nw G H) = hid G pa H := by
    funext a
    unfold hid nw
    by_cases h1 : G a = none <;> by_cases h2 : pa a = none <;> simp [h1, h2]
  refine ⟨fun a u h => (by cases h), fun a ha => ⟨rfl, fun e => ?_⟩, ⟨nw_at t.top.1 (on t.top.2), t.top.2⟩, fun f D h => ⟨nw_at (t.fld f D h).1 (on (t.fld f D h).2), (t.fld f D h).2⟩, fun f D w r h h' => ?_⟩
  · cases hh : H a with
    | none => exact (t.own a ha).2 hh
    | some u => rw [nw_at hh (t.own a ha).1] at e; cases e
  · obtain ⟨⟨o, h1, h2⟩, h3⟩ := t.row f D w r h h'
    exact ⟨⟨o, nw_at h1 (on h3), by rw [eh]; exact h2⟩, h3⟩
def far3 : List Str := ["", "", ""]
def pcF (N B om : Addr) : List (Str × V) := putF "lengths" (.ref N) (putF "by_field" (.ref B) (putF "own_makes" (.ref om) []))
def PcAt (C : Addr) (M : Hp) (x : Addr) (ms : List Mk) : Prop := ∃ (dx om B N : Addr) (da : Str → Addr) (ra : Str → Str → Addr) (pa : Pth), M x = some (.ins C dx (pcF N B om)) ∧ M om = some (.lst (ms.map fun m => .int m.1)) ∧ TAt Rp (fun _ => none) M B da ra pa (tabT [] ms) ∧ M N = some (.dT (lenT [] ms))
theorem PcAt.same {C x : Addr} {M L : Hp} {ms : List Mk} (h : PcAt C M x ms) (s : Same M L) : PcAt C L x ms := by
  obtain ⟨dx, om, B, N, da, ra, pa, h1, h2, h3, h4⟩ := h
  exact ⟨dx, om, B, N, da, ra, pa, s _ _ h1, s _ _ h2, h3.same Rp_m s, s _ _ h4⟩
def MkFit (ms : List Mk) : Prop := ms.length ≤ 20 ∧ ∀ m ∈ ms, m.2.length ≤ 20 ∧ ∀ y ∈ m.2, y.1.length ≤ 1000 ∧ y.2.length ≤ 500 ∧ Asc y.2
def spInit (C : Addr) : Sp := fun vs H Q _ => ∃ (G : Hp) (x dx a : Addr) (ms : List Mk) (xs : List V), vs = [.ref x, .ref a] ∧ Same G H ∧ G x = none ∧ H x = some (.ins C dx []) ∧ G a = some (.lst xs) ∧ DeepTs G (ms.map dvM) xs ∧ MkFit ms ∧ mw (-1) ms ∧ ∀ M H', PcAt C M x ms → Same M H' → (∀ a, G a ≠ none → M a = none) → Same G H' → Q .non H'
def PI (G : Hp) (x om B N C dx : Addr) (ms : List Mk) (F : Fl) (T : LT) (L : Hp) : Prop := ∃ (da : Str → Addr) (ra : Str → Str → Addr) (pa : Pth), TAt Rp G L B da ra pa F ∧ pa N = some far3 ∧ L N = some (.dT T) ∧ L x = some (.ins C dx (pcF N B om)) ∧ pa x = none ∧ L om = some (.lst (ms.map fun m => .int m.1)) ∧ pa om = none
theorem PI.same {G : Hp} {x om B N C dx : Addr} {ms : List Mk} {F : Fl} {T : LT} {L M : Hp} (h : PI G x om B N C dx ms F T L) (s : Same L M) : PI G x om B N C dx ms F T M := by
  obtain ⟨da, ra, pa, h1, h2, h3, h4, h5, h6, h7⟩ := h
  exact ⟨da, ra, pa, h1.same Rp_m s, h2, s _ _ h3, s _ _ h4, h5, s _ _ h6, h7⟩
theorem PI.base {G : Hp} {x om B N C dx : Addr} {ms : List Mk} {F : Fl} {T : LT} {L : Hp} (h : PI G x om B N C dx ms F T L) : Same G L := by
  obtain ⟨da, ra, pa, h1, _⟩ := h
  exact h1.base
section
variable {P : Program} {w : World} {K : PySem.W.Frag} {mg : Str → Option Value} {base : Heap} {f : Addr} {fd : FuncData}
theorem scInit : FnScope ["self", "makes", "make", "document", "field", "text", "words"] ["self", "makes"] (defScope sInit) := ⟨rfl, rfl, rfl, by decide +kernel, rfl, by decide +kernel, by decide +kernel⟩
def invOwn (ms : List Mk) (L0 : Hp) (i : Nat) (ys : List V) (σ : St) (L : Hp) : Prop := ∃ v0 v1 : Option V, σ = [v0, v1] ∧ L = L0 ∧ ys = (ms.take i).map fun m => .int m.1
def invO (G : Hp) (x om B N C dx a : Addr) (ms : List Mk) (i : Nat) (σ : St) (L : Hp) : Prop := ∃ v2 v3 v4 v5 v6 : Option V, σ = [some (.ref x), some (.ref a), v2, v3, v4, v5, v6] ∧ PI G x om B N C dx ms (tabT [] (ms.take i)) (lenT [] (ms.take i)) L ∧ Sz (20 * i * 1000) (tabT [] (ms.take i)) ∧ (lenT [] (ms.take i)).length ≤ 20 * i
def invI (G : Hp) (x om B N C dx a : Addr) (ms : List Mk) (m : Mk) (d : V) (i j : Nat) (σ : St) (L : Hp) : Prop := ∃ v4 v5 v6 : Option V, σ = [some (.ref x), some (.ref a), some (.int m.1), some d, v4, v5, v6] ∧ PI G x om B N C dx ms (docT m.1 (tabT [] (ms.take i)) (m.2.take j)) (lenD m.1 (lenT [] (ms.take i)) (m.2.take j)) L ∧ Sz ((20 * i + j) * 1000) (docT m.1 (tabT [] (ms.take i)) (m.2.take j)) ∧ (lenD m.1 (lenT [] (ms.take i)) (m.2.take j)).length ≤ 20 * i + j
theorem ok_init {C gm gw ga : Addr} {dm dw da : FuncData} (F : Fun K "__init__" "Piece.__init__" sInit f fd) (T : Txt mg) (cl : Cls K C) (n1 : NoAttr K C "own_makes") (n2 : NoAttr K C "by_field") (n3 : NoAttr K C "lengths")
    (GM : FnOk P w K mg base CX0 4 gm dm ["makes"] spMakes) (bM : Binds K dm ["makes"] []) (kM : PySem.W.keepIn K (.ref gm) = true) (mM : mg "look_at_makes" = some (.ref gm))
    (GW : FnOk P w K mg base CX0 5 gw dw ["text"] spBare) (bW : Binds K dw ["text"] []) (kW : PySem.W.keepIn K (.ref gw) = true) (mW : mg "bare_words" = some (.ref gw))
    (GA : FnOk P w K mg base CX0 2 ga da ["by_word", "make", "words"] spAdd) (bA : Binds K da ["by_word", "make", "words"] []) (kA : PySem.W.keepIn K (.ref ga) = true) (mA : mg "add_postings" = some (.ref ga)) : FnOk P w K mg base CX0 6 f fd ["self", "makes"] (spInit C) := by
  refine F.ok scInit (fun vs H Q E h => ?_) (fun cdv A outer s H vs Q E hr h => ?_)
  · obtain ⟨G, x, dx, a, ms, xs, rfl, _⟩ := h
    rfl
  obtain ⟨G, x, dx, a, ms, xs, rfl, sG, gx, hx, ga', hD, ⟨hl, hfl⟩, hmw, q⟩ := h
  have hr2 : Room 2 _ := hr.mono (by decide)
  have hr4 : Room 4 _ := hr.mono (by decide)
  refine ⟨_, (pss_cons (ps_expr (pe_call GM hr4 rfl mM kM bM .nil pass0 (pa_cons (pv 1) pa_nil)))
    (pss_cons (ps_fld (pv 0) (pe_comp (N := ["make", "document"]) (pick := [none, none]) (NX := ["self", "makes", "make", "document", "field", "text", "words"]) (sX := defScope sInit) (by decide +kernel) rfl rfl rfl (pi_listK K (pv 1))
        (fun _ _ _ _ => (pgT K (n := 2) rfl (pgs_cons (pg_name (i := 0) (by decide +kernel : (["make", "document"] : List Str).Nodup) rfl (Or.inl rfl)) (pgs_cons (pg_name (i := 1) (by decide +kernel : (["make", "document"] : List Str).Nodup) rfl (Or.inl rfl)) pgs_nil)))) (fun _ _ _ _ => pifs_nil) (fun _ _ _ _ => (pv 0))) rfl)
    (pss_cons (ps_fld (pv 0) pe_dnewK rfl)
    (pss_cons (ps_fld (pv 0) pe_dnewT rfl)
    (pss_one (ps_for PassesOwn.never rfl (pi_listK K (pv 1)) (pgT K (n := 2) rfl (pgs_cons (pg_name (i := 2) scInit.nd rfl (Or.inl rfl)) (pgs_cons (pg_name (i := 3) scInit.nd rfl (Or.inl rfl)) pgs_nil)))
      (pss_one (ps_for PassesOwn.never rfl (pi_listK K (pv 3)) (pgT K (n := 2) rfl (pgs_cons (pg_name (i := 4) scInit.nd rfl (Or.inl rfl)) (pgs_cons (pg_name (i := 5) scInit.nd rfl (Or.inl rfl)) pgs_nil)))
      (pss_cons (ps_set (i := 6) scInit.nd rfl (Or.inl rfl) (pe_call GW hr rfl mW kW bW .nil pass0 (pa_cons (pv 5) pa_nil)))
    (pss_one (ps_if (pt_truth (pv 6) (fun _ => rfl)) (pss_cons (ps_dput (hu_of hr) (pe_fld (pv 0) rfl) (pe_tup (pa_cons (pv 2) (pa_cons (pv 4) pa_nil))) (pe_callB (lenK K) rfl T.len PySem.boot_len (pa_cons (pv 6) pa_nil)) rfl)
    (pss_one (ps_expr (pe_call GA hr2 rfl mA kA bA .nil pass0 (pa_cons (pe_dsetd (pe_fld (pv 0) rfl) (pv 4) pe_dnewK ⟨rfl, rfl, rfl, rfl⟩) (pa_cons (pv 2) (pa_cons (pv 6) pa_nil))))))) pss_nil))))))))))), ?_⟩
  simpa only [spMakes, tFld, sFld, sDPut, tDNewT, tDNewK, tDSetd]
  refine ⟨ms, xs, sG _ _ ga', DeepTs.same sG _ _ hD, by omega, fun m hm => ⟨by have := (hfl m hm).1; omega, fun y hy => ((hfl m hm).2 y hy).1⟩, hmw, ?_⟩
  intro H1 s1
  have sG1 := sG.trans s1
  have ha1 := sG1 _ _ ga'
  have hx1 := s1 _ _ hx
  have hD1 := DeepTs.same sG1 _ _ hD
  have hxl : xs.length = ms.length := by have := hD.length; rwa [List.length_map] at this
  refine ⟨⟨xs, SqL.of ha1⟩, compW_list xs (invOwn ms H1) ⟨none, none, rfl, rfl, rfl⟩ ?_ ?_ ?_⟩
  · rintro i ys σ L hi ⟨v0, v1, rfl, rfl, rfl⟩
    exact ⟨SqL.of ha1, Nat.le_of_lt (small1000 (by rw [List.length_map, List.length_take]; omega))⟩
  · rintro i y ys σ L hy ⟨v0, v1, rfl, rfl, rfl⟩
    obtain ⟨dv, h1, h2⟩ := hD1.get hy
    rw [List.getElem?_map] at h1
    obtain ⟨m, hm, rfl⟩ := Option.map_eq_some_iff.mp h1
    obtain ⟨b, c, zs, rfl, hb, hc, hz⟩ := dvM_at h2
    simpa only [and_self]
    refine ⟨_, SqT.of hb, rfl, ?_⟩
    simpa only [and_self]
    exact ⟨_, _, rfl, rfl, by rw [List.take_add_one, hm, List.map_append]; rfl⟩
  · rintro ys σ L ⟨v0, v1, rfl, rfl, rfl⟩ om hom
    rw [hxl, List.take_length]
    have hx2 := upd_at (o := .lst (ms.map fun m => .int m.1)) hx1 hom
    refine ⟨C, dx, [], hx2, cl, n1, by decide, fun B hB => ?_⟩
    have gom : G om = none := sG1.free hom
    have nom : om ≠ x := fun z => by rw [z, hx1] at hom; cases hom
    have s3 : Same G (upd (upd L om (.lst (ms.map fun m => .int m.1))) x (.ins C dx (putF "own_makes" (.ref om) []))) := (sG1.trans (same_new hom _)).newer gx _
    have hom3 : (upd (upd L om (.lst (ms.map fun m => .int m.1))) x (.ins C dx (putF "own_makes" (.ref om) []))) om = some (.lst (ms.map fun m => .int m.1)) := by rw [upd_ne nom]; exact upd_same
    have hx3 : (upd (upd L om (.lst (ms.map fun m => .int m.1))) x (.ins C dx (putF "own_makes" (.ref om) []))) x = _ := upd_same
    generalize upd (upd L om (.lst (ms.map fun m => .int m.1))) x (.ins C dx (putF "own_makes" (.ref om) [])) = M1 at hB s3 hom3 hx3 ⊢
    have gB : G B = none := s3.free hB
    have nB : B ≠ x := fun z => by rw [z, hx3] at hB; cases hB
    have nBo : B ≠ om := fun z => by rw [z, hom3] at hB; cases hB
    refine ⟨C, dx, _, upd_at hx3 hB, cl, n2, (by show 1 < 1000; decide), fun N hN => ?_⟩
    have s5 := (s3.trans (same_new hB (.dK []))).newer gx (.ins C dx (putF "by_field" (.ref B) (putF "own_makes" (.ref om) [])))
    have hB5 : (upd (upd M1 B (.dK [])) x (.ins C dx (putF "by_field" (.ref B) (putF "own_makes" (.ref om) [])))) B = some (.dK []) := by rw [upd_ne nB]; exact upd_same
    have hx5 : (upd (upd M1 B (.dK [])) x (.ins C dx (putF "by_field" (.ref B) (putF "own_makes" (.ref om) [])))) x = _ := upd_same
    have hom5 : (upd (upd M1 B (.dK [])) x (.ins C dx (putF "by_field" (.ref B) (putF "own_makes" (.ref om) [])))) om = _ := (upd_ne nom).trans (upd_at hom3 hB)
    generalize upd (upd M1 B (.dK [])) x (.ins C dx (putF "by_field" (.ref B) (putF "own_makes" (.ref om) []))) = M2 at hN s5 hB5 hx5 hom5 ⊢
    have gN : G N = none := s5.free hN
    have nN : N ≠ x := fun z => by rw [z, hx5] at hN; cases hN
    have nBN : B ≠ N := fun z => by rw [← z, hB5] at hN; cases hN
    have nNo : N ≠ om := fun z => by rw [z, hom5] at hN; cases hN
    refine ⟨C, dx, _, upd_at hx5 hN, cl, n3, (by show 2 < 1000; decide), ?_⟩
    have p0 : PI G x om B N C dx ms [] [] (upd (upd M2 N (.dT [])) x (.ins C dx (putF "lengths" (.ref N) (putF "by_field" (.ref B) (putF "own_makes" (.ref om) []))))) := by
      have z1 : (upd (upd M2 N (.dT [])) x (.ins C dx (putF "lengths" (.ref N) (putF "by_field" (.ref B) (putF "own_makes" (.ref om) []))))) B = some (.dK []) := by rw [upd_ne nB]; exact upd_at hB5 hN
      have z2 : (upd (upd M2 N (.dT [])) x (.ins C dx (putF "lengths" (.ref N) (putF "by_field" (.ref B) (putF "own_makes" (.ref om) []))))) N = some (.dT []) := by rw [upd_ne nN]; exact upd_same
      refine ⟨fun _ => 0, fun _ _ => 0, fup (fup (fun _ => none) B (some [])) N (some far3), ⟨(s5.trans (same_new hN (.dT []))).newer gx _, fun a ha => ?_, ⟨z1, by rw [fup_ne nBN, fup_at]⟩, fun f D h => (by cases h), fun f D w r h => (by cases h)⟩, fup_at, z2, upd_same, by rw [fup_ne nN.symm, fup_ne nB.symm], by rw [upd_ne nom]; exact upd_at hom5 hN, by rw [fup_ne nNo.symm, fup_ne nBo.symm]⟩
      by_cases e1 : a = N
      · exact ⟨by rw [e1]; exact gN, by rw [e1, z2]; intro z; cases z⟩
      · rw [fup_ne e1] at ha
        by_cases e2 : a = B
        · exact ⟨by rw [e2]; exact gB, by rw [e2, z1]; intro z; cases z⟩
        · rw [fup_ne e2] at ha
          exact absurd rfl ha
    have lB : (pcF N B om).lookup ("by_field" : Str) = some (V.ref B) := rfl
    have lN : (pcF N B om).lookup ("lengths" : Str) = some (V.ref N) := rfl
    generalize upd (upd M2 N (.dT [])) x (.ins C dx (putF "lengths" (.ref N) (putF "by_field" (.ref B) (putF "own_makes" (.ref om) [])))) = M0 at p0 ⊢
    refine ⟨⟨xs, SqL.of (p0.base _ _ ga')⟩, forW_list xs (invO G x om B N C dx a ms) ⟨_, _, _, _, _, rfl, p0, ⟨Nat.zero_le _, fun x hx => (by cases hx)⟩, Nat.zero_le _⟩ ?_ ?_ ?_⟩
    · rintro i σ L hi ⟨v2, v3, v4, v5, v6, rfl, pi, _⟩
      exact SqL.of (pi.base _ _ ga')
    · rintro i y σ L hy ⟨v2, v3, v4, v5, v6, rfl, pi, hsz, hts⟩
      obtain ⟨dv, h1, h2⟩ := hD.get hy
      rw [List.getElem?_map] at h1
      obtain ⟨m, hm, rfl⟩ := Option.map_eq_some_iff.mp h1
      obtain ⟨b, c, zs, rfl, hb, hc, hz⟩ := dvM_at h2
      have hmm : m ∈ ms := List.mem_of_getElem? hm
      have hil : i < ms.length := (List.getElem?_eq_some_iff.mp hm).1
      simpa only [spBare]
      refine ⟨_, SqT.of (pi.base _ _ hb), rfl, ?_⟩
      simpa only [spBare]
      refine ⟨⟨zs, SqL.of (pi.base _ _ hc)⟩, forW_list zs (invI G x om B N C dx a ms m (.ref c) i) ⟨_, _, _, rfl, pi, hsz, hts⟩ ?_ ?_ ?_⟩
      · rintro j σ L hj ⟨v4, v5, v6, rfl, pj, _⟩
        exact SqL.of (pj.base _ _ hc)
      · rintro j y σ L hyj ⟨v4, v5, v6, rfl, pj, hszj, htj⟩
        obtain ⟨dv, h1, h2⟩ := hz.get hyj
        rw [List.getElem?_map] at h1
        obtain ⟨fl, hfj, rfl⟩ := Option.map_eq_some_iff.mp h1
        obtain ⟨t, rfl, ht⟩ := dvF_at h2
        have hfm : fl ∈ m.2 := List.mem_of_getElem? hfj
        have hjl : j < m.2.length := (List.getElem?_eq_some_iff.mp hfj).1
        obtain ⟨b1, b2, b3⟩ := (hfl m hmm).2 fl hfm
        simpa only [spBare]
        refine ⟨_, SqT.of (pj.base _ _ ht), rfl, ?_⟩
        simpa only [spBare]
        refine ⟨by omega, b3, fun r H' s' hr' hH' => ?_⟩
        have hm20 := (hfl m hmm).1
        have hwl := wordsS_len b2
        have eF := docT_at (m := m.1) (F := tabT [] (ms.take i)) hfj
        have eT := lenD_at (m := m.1) (T := lenT [] (ms.take i)) hfj
        have hsz' := addS_sz (m := m.1) (f := fl.1) hszj hwl
        have htl' : (lenA m.1 (lenD m.1 (lenT [] (ms.take i)) (m.2.take j)) fl).length ≤ 20 * i + (j + 1) := Nat.le_trans lenA_len (by omega)
        unfold invI
        rw [eF, eT]
        have e20 : (20 * i + j) * 1000 + 1000 = (20 * i + (j + 1)) * 1000 := by omega
        rw [e20] at hsz'
        generalize docT m.1 (tabT [] (ms.take i)) (m.2.take j) = F0 at pj hszj hsz' ⊢
        generalize lenD m.1 (lenT [] (ms.take i)) (m.2.take j) = T0 at pj htj htl' ⊢
        generalize hws : wordsS fl.2 = ws at hH' hwl hsz'
        refine ⟨!(ws.map V.str).isEmpty, .inl ⟨_, SqL.of hH', rfl⟩, ?_⟩
        cases hwe : (!(ws.map V.str).isEmpty) with
        | false =>
          have w0 : ws = [] := by
            cases ws with
            | nil => rfl
            | cons _ _ => cases hwe
          have e1 : addS m.1 F0 fl.1 ws = F0 := by unfold addS; rw [if_pos w0]
          have e2 : lenA m.1 T0 fl = T0 := by unfold lenA; rw [hws, if_pos w0]
          rw [e1] at hsz' ⊢
          rw [e2] at htl' ⊢
          exact ⟨_, _, _, rfl, pj.same s', hsz', htl'⟩
        | true =>
          have w0 : ws ≠ [] := by
            intro z
            rw [z] at hwe
            cases hwe
          rw [if_pos rfl]
          simpa only [sDPut, tFld, tDSetd, tDNewK]
          have szl := sizeLine_eq
          have gr : G r = none := pj.base.free hr'
          obtain ⟨da, ra, pa, hT0, hNp, hN0, hx0, hxp, ho0, hop⟩ := pj
          have hrp : pa r = none := Classical.byContradiction fun e => (hT0.own r e).2 hr'
          have hT := hT0.same Rp_m s'
          have hN2 := s' _ _ hN0
          have hx2 := s' _ _ hx0
          have ho2 := s' _ _ ho0
          refine ⟨ws.map V.str, .inl (SqL.of hH'), C, dx, pcF N B om, hx2, cl, n3, .ref N, lN, by decide, fun T hT' => ?_⟩
          have sT := same_new hT' (.tup [.int m.1, .str fl.1])
          have hpt := length_putK T0 [.inl m.1, .inr fl.1] (V.int (ws.map V.str).length)
          refine ⟨N, rfl, _, DPut.t (k := [.inl m.1, .inr fl.1]) (sT _ _ hN2) upd_same (by omega), ?_⟩
          have nxN : x ≠ N := ne_of hx2 hN2 (by intro z; cases z)
          have noN : om ≠ N := ne_of ho2 hN2 (by intro z; cases z)
          have nrN : r ≠ N := ne_of hH' hN2 (by intro z; cases z)
          have t1 := (hT.same Rp_m sT).out (o := .dT (putK T0 [.inl m.1, .inr fl.1] (V.int (ws.map V.str).length))) hNp (by show 2 < 3; decide)
          have hxM : (upd (upd H' T (.tup [.int m.1, .str fl.1])) N (.dT (putK T0 [.inl m.1, .inr fl.1] (V.int (ws.map V.str).length)))) x = _ := (upd_ne nxN).trans (sT _ _ hx2)
          have hoM : (upd (upd H' T (.tup [.int m.1, .str fl.1])) N (.dT (putK T0 [.inl m.1, .inr fl.1] (V.int (ws.map V.str).length)))) om = _ := (upd_ne noN).trans (sT _ _ ho2)
          have hrM : (upd (upd H' T (.tup [.int m.1, .str fl.1])) N (.dT (putK T0 [.inl m.1, .inr fl.1] (V.int (ws.map V.str).length)))) r = _ := (upd_ne nrN).trans (sT _ _ hH')
          have hNM : (upd (upd H' T (.tup [.int m.1, .str fl.1])) N (.dT (putK T0 [.inl m.1, .inr fl.1] (V.int (ws.map V.str).length)))) N = _ := upd_same
          have e2 : lenA m.1 T0 fl = putK T0 [.inl m.1, .inr fl.1] (V.int (ws.map V.str).length) := by unfold lenA; rw [hws, if_neg w0, List.length_map]
          rw [e2] at htl' ⊢
          generalize upd (upd H' T (.tup [.int m.1, .str fl.1])) N (.dT (putK T0 [.inl m.1, .inr fl.1] (V.int (ws.map V.str).length))) = M at t1 hxM hoM hrM hNM ⊢
          generalize putK T0 [.inl m.1, .inr fl.1] (V.int (ws.map V.str).length) = T1 at hNM htl' ⊢
          have hsF := hszj.at_ (f := fl.1)
          refine ⟨C, dx, pcF N B om, hxM, cl, n2, .ref B, lB, B, rfl, .inl ⟨_, .inl t1.top.1⟩, fun p hp => ?_⟩
          have sp := same_new hp (.dK [])
          refine ⟨_, sp _ _ t1.top.1, .inr fl.1, rfl, by rw [kv_len]; have := hszj.1; omega, fun v hv => ?_, fun hvn => ?_⟩
          · rw [kv_get] at hv
            obtain ⟨D, hD1, rfl⟩ := Option.map_eq_some_iff.mp hv
            rw [hD1] at hsF
            refine ⟨G, B, da, ra, pa, F0, fl.1, D, (20 * i + j) * 1000, m.1, r, ws, rfl, t1.same Rp_m sp, hD1, hsF.1, hsF.2, by omega, sp _ _ hrM, hwl, fun ra' pa' L' t' fr => ?_⟩
            obtain ⟨y1, y2⟩ := fr.at_ (sp _ _ hxM) gx hxp
            obtain ⟨y3, y4⟩ := fr.at_ (sp _ _ hoM) gom hop
            obtain ⟨y5, y6⟩ := fr.far N _ hNp (by show 2 < 3; decide)
            have e3 : addS m.1 F0 fl.1 ws = KT.mod F0 fl.1 fun _ => putAll m.1 D (plc [] 0 ws) := by unfold addS; rw [if_neg w0]; exact mod_congr (by rw [hD1]; rfl)
            exact ⟨⟨da, ra', pa', by rw [e3]; exact t', y6, y5.trans (sp _ _ hNM), y1, y2, y3, y4⟩, hsz', htl'⟩
          · rw [kv_get] at hvn
            have hvn' : get F0 fl.1 = none := Option.map_eq_none_iff.mp hvn
            have el := putK_new (kvs := kvF da F0) (k := (.inr fl.1 : Key)) (V.ref p) (by rw [kv_get, hvn']; rfl)
            have ta := t1.addF (p := p) Rp_m hvn' hp
            have nBp : B ≠ p := ne_of_none t1.top.1 hp
            have fa : Fr G pa M (fup pa p (some [fl.1])) (upd (upd M p (.dK [])) B (.dK (kvF da F0 ++ [(.inr fl.1, .ref p)]))) := (Fr.new hp fun a ha => (t1.own a ha).2).trans (Fr.own (q := []) (by rw [fup_ne nBp]; exact t1.top.2) (by decide))
            rw [el]
            generalize upd (upd M p (.dK [])) B (.dK (kvF da F0 ++ [(.inr fl.1, .ref p)])) = M2 at ta fa ⊢
            have hg2 : get (F0 ++ [(fl.1, ([] : Wt Str))]) fl.1 = some [] := by rw [← mod_end hvn' (fun _ => []), mod_get]
            obtain ⟨z1, z2⟩ := fa.at_ hxM gx hxp
            obtain ⟨z3, z4⟩ := fa.at_ hoM gom hop
            obtain ⟨z5, z6⟩ := fa.far N _ hNp (by show 2 < 3; decide)
            refine ⟨G, B, fup da fl.1 p, ra, fup pa p (some [fl.1]), F0 ++ [(fl.1, [])], fl.1, [], 0, m.1, r, ws, by rw [fup_at], ta, hg2, Nat.le_refl _, fun x hx => (by cases hx), by omega, (fa.at_ hrM gr hrp).1, hwl, fun ra' pa' L' t' fr => ?_⟩
            obtain ⟨y1, y2⟩ := fr.at_ z1 gx z2
            obtain ⟨y3, y4⟩ := fr.at_ z3 gom z4
            obtain ⟨y5, y6⟩ := fr.far N _ z6 (by show 2 < 3; decide)
            have e3 : addS m.1 F0 fl.1 ws = KT.mod (F0 ++ [(fl.1, [])]) fl.1 fun _ => putAll m.1 [] (plc [] 0 ws) := by
              unfold addS
              rw [if_neg w0, ← mod_end hvn' (fun _ => []), mod_mod]
              exact mod_congr (by rw [hvn']; rfl)
            exact ⟨⟨fup da fl.1 p, ra', pa', by rw [e3]; exact t', y6, y5.trans (z5.trans hNM), y1, y2, y3, y4⟩, hsz', htl'⟩
      · rintro σ L ⟨v4, v5, v6, rfl, pj, hszj, htj⟩
        have hzl : zs.length = m.2.length := by have := hz.length; rwa [List.length_map] at this
        rw [hzl, List.take_length] at pj hszj htj
        have := (hfl m hmm).1
        have e1 := tabT_at (F := []) hm
        have e2 := lenT_at (T := []) hm
        exact ⟨_, _, _, _, _, rfl, by rw [e1, e2]; exact pj, by rw [e1]; exact hszj.mono (by omega), by rw [e2]; omega⟩
    · rintro σ L ⟨v2, v3, v4, v5, v6, rfl, pi, _⟩
      rw [hxl, List.take_length] at pi
      have sb := pi.base
      obtain ⟨da, ra, pa, h1, h2, h3, h4, h5, h6, h7⟩ := pi
      exact q (nw G L) L ⟨dx, om, B, N, da, ra, pa, nw_at h4 gx, nw_at h6 gom, h1.away, nw_at h3 gN⟩ nw_same (fun a ha => nw_off ha) sb
end
def wdsOf (ms : List Mk) (fl : Str) : Wt Str := (get (tabT [] ms) fl).getD []
def rowOf (ms : List Mk) (fl wd : Str) : Rw := (get (wdsOf ms fl) wd).getD []
def spPM (C : Addr) : Sp := fun vs H Q _ => ∃ (x : Addr) (ms : List Mk), vs = [.ref x] ∧ PcAt C H x ms ∧ ∀ r H', Same H H' → H r = none → H' r = some (.lst (ms.map fun m => .int m.1)) → Q (.ref r) H'
def spPF (C : Addr) : Sp := fun vs H Q _ => ∃ (x : Addr) (ms : List Mk), vs = [.ref x] ∧ PcAt C H x ms ∧ (tabT [] ms).length ≤ 1000000 ∧ ∀ r ys H', Same H H' → H r = none → ys.Perm ((tabT [] ms).map (·.1)) → PyProof.Rows.sortedS ys = true → H' r = some (.lst (ys.map V.str)) → Q (.ref r) H'
def spPW (C : Addr) : Sp := fun vs H Q _ => ∃ (x : Addr) (fl : Str) (ms : List Mk), vs = [.ref x, .str fl] ∧ PcAt C H x ms ∧ (wdsOf ms fl).length ≤ 1000000 ∧ ∀ r ys H', Same H H' → H r = none → ys.Perm ((wdsOf ms fl).map (·.1)) → PyProof.Rows.sortedS ys = true → H' r = some (.lst (ys.map V.str)) → Q (.ref r) H'
def spPP (C : Addr) : Sp := fun vs H Q _ => ∃ (x : Addr) (fl wd : Str) (ms : List Mk), vs = [.ref x, .str fl, .str wd] ∧ PcAt C H x ms ∧ (rowOf ms fl wd).length ≤ 1000000 ∧ ∀ r xs H', Same H H' → H r = none → H' r = some (.lst xs) → DeepTs (hide r (nw H H')) ((rowOf ms fl wd).map dvR) xs → Q (.ref r) H'
def spPL (C : Addr) : Sp := fun vs H Q _ => ∃ (x : Addr) (m : Int) (fl : Str) (ms : List Mk), vs = [.ref x, .int m, .str fl] ∧ PcAt C H x ms ∧ ∀ H', Same H H' → Q (LV (lenT [] ms) m fl) H'
theorem kv_keys' {α : Type} {da : Str → Addr} {F : List (Str × α)} : (kvF da F).map (·.1) = (F.map (·.1)).map Sum.inr := by
  unfold kvF
  rw [List.map_map, List.map_map]
  rfl
theorem dvR_at {H : Hp} {x : Int × List Int} {v : V} (h : DeepT H (dvR x) v) : ∃ a b, v = .ref a ∧ H a = some (.tup [.int x.1, .ref b]) ∧ H b = some (.lst (x.2.map V.int)) := by
  rw [dvR, DeepT] at h
  obtain ⟨a, us, rfl, ha, hus⟩ := h
  rw [DeepTs] at hus
  obtain ⟨y, ys, rfl, hy, hus⟩ := hus
  rw [DeepTs] at hus
  obtain ⟨y2, ys2, rfl, hy2, hus⟩ := hus
  rw [DeepTs] at hus
  rw [DeepT] at hy
  rw [DeepT] at hy2
  obtain ⟨b, xs, rfl, hb, hxs⟩ := hy2
  have key : ∀ {ns : List Int} {xs : List V}, DeepTs H (ns.map DV.int) xs → xs = ns.map V.int := by
    intro ns
    induction ns with
    | nil => intro xs h; rw [List.map_nil, DeepTs] at h; exact h
    | cons n ns ih =>
      intro xs h
      rw [List.map_cons, DeepTs] at h
      obtain ⟨z, zs, rfl, hz, hzs⟩ := h
      rw [DeepT] at hz
      rw [hz, ih hzs, List.map_cons]
  exact ⟨a, b, rfl, by rw [ha, hy, hus], by rw [hb, key hxs]⟩
theorem dvR_of {H : Hp} {p l : Addr} {m : Int} {ps : List Int} (hp : H p = some (.tup [.int m, .ref l])) (hl : H l = some (.lst (ps.map V.int))) : DeepT H (dvR (m, ps)) (.ref p) := by
  unfold dvR
  rw [DeepT]
  refine ⟨p, _, rfl, hp, ?_⟩
  rw [DeepTs]
  refine ⟨_, _, rfl, by rw [DeepT], DeepTs.one ?_⟩
  rw [DeepT]
  exact ⟨l, _, rfl, hl, DeepTs.ints _⟩
theorem nw_mono {G H H' : Hp} (s : Same H H') : Same (nw G H) (nw G H') := fun a u h => by
  unfold nw at h
  by_cases g : G a = none
  · rw [if_pos g] at h; exact nw_at (s _ _ h) g
  · rw [if_neg g] at h; cases h
section
variable {P : Program} {w : World} {K : PySem.W.Frag} {mg : Str → Option Value} {base : Heap} {f : Addr} {fd : FuncData}
theorem scPM : FnScope ["self"] ["self"] (defScope sPM) := ⟨rfl, rfl, rfl, by decide +kernel, rfl, by decide +kernel, by decide +kernel⟩
theorem ok_pm {C : Addr} (F : Fun K "makes" "Piece.makes" sPM f fd) (T : Txt mg) (cl : Cls K C) (n1 : NoAttr K C "own_makes") : FnOk P w K mg base CX0 1 f fd ["self"] (spPM C) := by
  refine F.ok scPM (fun vs H Q E h => ?_) (fun cdv A outer s H vs Q E hr h => ?_)
  · obtain ⟨x, ms, rfl, _⟩ := h
    rfl
  obtain ⟨x, ms, rfl, ⟨dx, om, B, N, da, ra, pa, h1, h2, h3, h4⟩, q⟩ := h
  refine ⟨_, (pss_one (ps_ret (pe_callTy (lstK K) rfl T.list PyProof.Rows.boot_list (pa_cons (pe_fld (pv 0) rfl) pa_nil)))), ?_⟩
  simpa only [tFld]
  exact ⟨C, dx, _, h1, cl, n1, .ref om, rfl, om, rfl, _, .inl (SqL.of h2), fun l hl => q l _ (same_new hl _) hl upd_same⟩
theorem scPF : FnScope ["self"] ["self"] (defScope sPF) := ⟨rfl, rfl, rfl, by decide +kernel, rfl, by decide +kernel, by decide +kernel⟩
theorem ok_pf {C : Addr} (F : Fun K "fields" "Piece.fields" sPF f fd) (T : Txt mg) (cl : Cls K C) (n2 : NoAttr K C "by_field") : FnOk P w K mg base CX0 1 f fd ["self"] (spPF C) := by
  refine F.ok scPF (fun vs H Q E h => ?_) (fun cdv A outer s H vs Q E hr h => ?_)
  · obtain ⟨x, ms, rfl, _⟩ := h
    rfl
  obtain ⟨x, ms, rfl, ⟨dx, om, B, N, da, ra, pa, h1, h2, h3, h4⟩, hl, q⟩ := h
  refine ⟨_, (pss_one (ps_ret (pe_callB (call_sortedDM) rfl T.sorted (by decide +kernel) (pa_cons (pe_fld (pv 0) rfl) pa_nil)))), ?_⟩
  simpa only [tFld]
  exact ⟨C, dx, _, h1, cl, n2, .ref B, rfl, B, rfl, _, h3.top.1, _, kv_keys', by rw [List.length_map]; exact hl, fun l ys hl h5 h6 => q l ys _ (same_new hl _) hl h5 h6 upd_same⟩
theorem scPW : FnScope ["self", "field"] ["self", "field"] (defScope sPW) := ⟨rfl, rfl, rfl, by decide +kernel, rfl, by decide +kernel, by decide +kernel⟩
theorem ok_pw {C : Addr} (F : Fun K "words" "Piece.words" sPW f fd) (T : Txt mg) (cl : Cls K C) (n2 : NoAttr K C "by_field") : FnOk P w K mg base CX0 1 f fd ["self", "field"] (spPW C) := by
  refine F.ok scPW (fun vs H Q E h => ?_) (fun cdv A outer s H vs Q E hr h => ?_)
  · obtain ⟨x, fl, ms, rfl, _⟩ := h
    rfl
  obtain ⟨x, fl, ms, rfl, ⟨dx, om, B, N, da, ra, pa, h1, h2, h3, h4⟩, hl, q⟩ := h
  refine ⟨_, (pss_one (ps_ret (pe_callB (call_sortedDM) rfl T.sorted (by decide +kernel) (pa_cons (pe_dget2 (hu_of hr) (pe_fld (pv 0) rfl) (pv 1) pe_dnewK ⟨rfl, rfl, rfl, rfl⟩) pa_nil)))), ?_⟩
  simpa only [tFld, tDGet2, tDNewK]
  refine ⟨C, dx, _, h1, cl, n2, .ref B, rfl, B, rfl, .inl ⟨_, .inl h3.top.1⟩, fun p hp => ?_⟩
  have sp := same_new hp (.dK [])
  refine ⟨_, DGet.k (k := .inr fl) (sp _ _ h3.top.1), ?_⟩
  rw [kv_get]
  unfold wdsOf at hl q
  cases e : get (tabT [] ms) fl with
  | none =>
    rw [e] at q
    exact ⟨p, rfl, [], upd_same, [], rfl, by decide, fun l ys hl h5 h6 => q l ys _ (sp.trans (same_new hl _)) (sp.free hl) h5 h6 upd_same⟩
  | some D =>
    rw [e] at q hl
    exact ⟨_, rfl, _, sp _ _ (h3.fld fl D e).1, _, kv_keys', by rw [List.length_map]; exact hl, fun l ys hl h5 h6 => q l ys _ (sp.trans (same_new hl _)) (sp.free hl) h5 h6 upd_same⟩
theorem scPL : FnScope ["self", "make", "field"] ["self", "make", "field"] (defScope sPL) := ⟨rfl, rfl, rfl, by decide +kernel, rfl, by decide +kernel, by decide +kernel⟩
theorem ok_pl {C : Addr} (F : Fun K "length" "Piece.length" sPL f fd) (T : Txt mg) (cl : Cls K C) (n3 : NoAttr K C "lengths") : FnOk P w K mg base CX0 1 f fd ["self", "make", "field"] (spPL C) := by
  refine F.ok scPL (fun vs H Q E h => ?_) (fun cdv A outer s H vs Q E hr h => ?_)
  · obtain ⟨x, m, fl, ms, rfl, _⟩ := h
    rfl
  obtain ⟨x, m, fl, ms, rfl, ⟨dx, om, B, N, da, ra, pa, h1, h2, h3, h4⟩, q⟩ := h
  refine ⟨_, (pss_one (ps_ret (pe_dget2 (hu_of hr) (pe_fld (pv 0) rfl) (pe_tup (pa_cons (pv 1) (pa_cons (pv 2) pa_nil))) pe_int ⟨rfl, rfl, rfl, rfl⟩))), ?_⟩
  simpa only [tFld, tDGet2]
  refine ⟨C, dx, _, h1, cl, n3, .ref N, rfl, N, rfl, .inr ⟨_, .inl h4⟩, by decide, fun p hp => ?_⟩
  have sp := same_new hp (.tup [.int m, .str fl])
  exact ⟨_, .inr ⟨_, [.inl m, .inr fl], p, .inl (sp _ _ h4), rfl, upd_same, rfl⟩, q _ sp⟩
theorem scPP : FnScope ["self", "field", "word", "kept"] ["self", "field", "word"] (defScope sPP) := ⟨rfl, rfl, rfl, by decide +kernel, rfl, by decide +kernel, by decide +kernel⟩
def invPP (H L0 : Hp) (k : Addr) (xs : List V) (r : Rw) (i : Nat) (ys : List V) (σ : St) (L : Hp) : Prop := ∃ v0 v1 : Option V, σ = [v0, v1] ∧ Same L0 L ∧ DeepTs (nw H L) ((r.take i).map dvR) ys
theorem ok_pp {C : Addr} (F : Fun K "postings" "Piece.postings" sPP f fd) (T : Txt mg) (cl : Cls K C) (n2 : NoAttr K C "by_field") : FnOk P w K mg base CX0 1 f fd ["self", "field", "word"] (spPP C) := by
  refine F.ok scPP (fun vs H Q E h => ?_) (fun cdv A outer s H vs Q E hr h => ?_)
  · obtain ⟨x, fl, wd, ms, rfl, _⟩ := h
    rfl
  obtain ⟨x, fl, wd, ms, rfl, ⟨dx, om, B, N, da, ra, pa, h1, h2, h3, h4⟩, hl, q⟩ := h
  refine ⟨_, (pss_cons (ps_set (i := 3) scPP.nd rfl (Or.inl rfl) (pe_dget2 (hu_of hr) (pe_dget2 (hu_of hr) (pe_fld (pv 0) rfl) (pv 1) pe_dnewK ⟨rfl, rfl, rfl, rfl⟩) (pv 2) (pe_lst pa_nil) ⟨rfl, rfl, rfl, rfl⟩))
    (pss_one (ps_ret (pe_comp (N := ["make", "places"]) (pick := [none, none]) (NX := ["self", "field", "word", "kept"]) (sX := defScope sPP) (by decide +kernel) rfl rfl rfl (pi_listK K (pv 3))
        (fun _ _ _ _ => (pgT K (n := 2) rfl (pgs_cons (pg_name (i := 0) (by decide +kernel : (["make", "places"] : List Str).Nodup) rfl (Or.inl rfl)) (pgs_cons (pg_name (i := 1) (by decide +kernel : (["make", "places"] : List Str).Nodup) rfl (Or.inl rfl)) pgs_nil)))) (fun _ _ _ _ => pifs_nil) (fun _ _ _ _ => (pe_tup (pa_cons (pv 0) (pa_cons (pe_callTy (lstK K) rfl T.list PyProof.Rows.boot_list (pa_cons (pv 1) pa_nil)) pa_nil)))))))), ?_⟩
  simpa only [tFld, tDGet2, tDNewK]
  refine ⟨C, dx, _, h1, cl, n2, .ref B, rfl, B, rfl, .inl ⟨_, .inl h3.top.1⟩, fun p hp => ?_⟩
  have sp := same_new hp (.dK [])
  refine ⟨_, DGet.k (k := .inr fl) (sp _ _ h3.top.1), ?_⟩
  rw [kv_get]
  suffices key : ∀ (L0 : Hp) (k : Addr) (xs : List V), Same H L0 → L0 k = some (.lst xs) → DeepTs L0 ((rowOf ms fl wd).map dvR) xs → ∀ σ0, CompW [none, none] (gTup K 2 (gCons (gName 0) (gCons (gName 1) gNil))) tYes (tTup (tCons (tVar 0) (tCons (tCB (fun xs H Q => ∃ p, xs = [V.ref p] ∧ ∃ x, (SqL K H p x ∨ SqT K H p x) ∧ ∀ (l : Addr), H l = none → Q (V.ref l) (upd H l (HO.lst x))) (tCons (tVar 1) tNil)) tNil))) Q σ0 (Itl K k) L0 by
    cases e : get (tabT [] ms) fl with
    | none =>
      refine ⟨p, rfl, .inl ⟨_, .inl upd_same⟩, Nat.zero_le _, fun p1 hp1 => ⟨_, DGet.k (k := .inr wd) (upd_at upd_same hp1), p1, rfl, ⟨_, SqL.of upd_same⟩, key _ p1 [] (sp.trans (same_new hp1 _)) upd_same ?_ _⟩⟩
      unfold rowOf wdsOf
      rw [e]
      exact DeepTs.nil
    | some D =>
      have hd := (h3.fld fl D e).1
      refine ⟨da fl, rfl, .inl ⟨_, .inl (sp _ _ hd)⟩, Nat.zero_le _, fun p1 hp1 => ?_⟩
      have s2 := sp.trans (same_new hp1 (.lst []))
      refine ⟨_, DGet.k (k := .inr wd) (s2 _ _ hd), ?_⟩
      rw [kv_get]
      cases e2 : get D wd with
      | none =>
        refine ⟨p1, rfl, ⟨_, SqL.of upd_same⟩, key _ p1 [] s2 upd_same ?_ _⟩
        unfold rowOf wdsOf
        rw [e]
        show DeepTs _ (((get D wd).getD []).map dvR) _
        rw [e2]
        exact DeepTs.nil
      | some r =>
        obtain ⟨⟨o, g1, xs, rfl, g2⟩, g3⟩ := h3.row fl D wd r e e2
        refine ⟨_, rfl, ⟨_, SqL.of (s2 _ _ g1)⟩, key _ _ xs s2 (s2 _ _ g1) ?_ _⟩
        unfold rowOf wdsOf
        rw [e]
        show DeepTs _ (((get D wd).getD []).map dvR) _
        rw [e2]
        exact DeepTs.same (fun a u h => s2 _ _ (hid_to h).1) _ _ g2
  intro L0 k xs s0 hk hD σ0
  have hxl : xs.length = (rowOf ms fl wd).length := by have := hD.length; rwa [List.length_map] at this
  have szl := sizeLine_eq
  refine compW_list xs (invPP H L0 k xs (rowOf ms fl wd)) ⟨none, none, rfl, Same.refl _, DeepTs.nil⟩ ?_ ?_ ?_
  · rintro i ys σ L hi ⟨v0, v1, rfl, sL, hy⟩
    refine ⟨SqL.of (sL _ _ hk), ?_⟩
    have := hy.length
    rw [List.length_map, List.length_take] at this
    omega
  · rintro i y ys σ L hy ⟨v0, v1, rfl, sL, hys⟩
    obtain ⟨dv, g1, g2⟩ := hD.get hy
    rw [List.getElem?_map] at g1
    obtain ⟨x, hx, rfl⟩ := Option.map_eq_some_iff.mp g1
    obtain ⟨a, b, rfl, ha, hb⟩ := dvR_at g2
    simpa only [and_self]
    refine ⟨_, SqT.of (sL _ _ ha), rfl, ?_⟩
    simpa only [and_self]
    refine ⟨_, .inl (SqL.of (sL _ _ hb)), fun l hl' => ⟨by decide, fun p2 hp2 => ?_⟩⟩
    have s1 := same_new hl' (.lst (x.2.map V.int))
    have s2 := s1.trans (same_new hp2 (.tup [.int x.1, .ref l]))
    refine ⟨_, _, rfl, sL.trans s2, ?_⟩
    rw [List.take_add_one, hx, List.map_append]
    refine (DeepTs.same (nw_mono s2) _ _ hys).app (DeepTs.one ?_)
    have sH := s0.trans sL
    exact dvR_of (m := x.1) (ps := x.2) (nw_at upd_same ((sH.trans s1).free hp2)) (nw_at (upd_at upd_same hp2) (sH.free hl'))
  · rintro ys σ L ⟨v0, v1, rfl, sL, hys⟩ r hr'
    rw [hxl, List.take_length] at hys
    refine q r ys _ ((s0.trans sL).trans (same_new hr' _)) ((s0.trans sL).free hr') upd_same (DeepTs.same (fun a u h => ?_) _ _ hys)
    have h' := nw_same _ _ h
    rw [hide_ne (ne_of_none h' hr')]
    exact nw_mono (same_new hr' _) _ _ h
end
def spDraws : Sp := fun vs H Q _ => ∃ (c m b : Int) (fr : Bool), vs = [.int c, .int m, .int b, .bl fr] ∧ 0 ≤ m ∧ m ≤ 60 ∧ 0 < b ∧ b ≤ 1000 ∧
  ∀ (r : Addr) (ns : List Int) (H' : Hp), Same H H' → H r = none → H' r = some (.lst (ns.map V.int)) → (ns.length : Int) = m → (∀ z ∈ ns, 0 ≤ z ∧ z < b) → Q (.ref r) H'
section
variable {P : Program} {w : World} {K : PySem.W.Frag} {mg : Str → Option Value} {base : Heap} {f : Addr} {fd : FuncData}
def invD (H : Hp) (l : Addr) (c m b : Int) (fr : Bool) (i : Nat) (σ : St) (H2 : Hp) : Prop := ∃ (ns : List Int) (rest : Int) (v6 v7 : Option V), σ = [some (.int c), some (.int m), some (.int b), some (.bl fr), some (.ref l), some (.int rest), v6, v7] ∧
  Same H H2 ∧ H2 l = some (.lst (ns.map V.int)) ∧ ns.length = i ∧ ∀ z ∈ ns, 0 ≤ z ∧ z < b
theorem cmul_mod7 {a b j : Int} (h : 0 < j) (h' : j < 2 ^ 63) : CMul (a % j) b := by
  have h1 := Int.emod_nonneg a (show j ≠ 0 by omega)
  have h2 := Int.emod_lt_of_pos a h
  exact .inl ⟨by omega, by omega⟩
theorem scD : FnScope ["_law_cell", "_law_many", "_law_base", "_law_free", "_law_found", "_law_rest", "_law_k", "_law_number"] ["_law_cell", "_law_many", "_law_base", "_law_free"] (defScope sDraws) := ⟨rfl, rfl, rfl, by decide +kernel, rfl, by decide +kernel, by decide +kernel⟩
theorem ok_draws (F : Fun K "_law_draws" "_law_draws" sDraws f fd) (T : Txt mg) : FnOk P w K mg base CX0 1 f fd ["_law_cell", "_law_many", "_law_base", "_law_free"] spDraws := by
  refine F.ok scD (fun vs H Q E h => ?_) (fun cdv A outer s H vs Q E hr h => ?_)
  · obtain ⟨c, m, b, fr, rfl, _⟩ := h
    rfl
  obtain ⟨c, m, b, fr, rfl, m0, m1, b0, b1, q⟩ := h
  refine ⟨_, (pss_cons (ps_set (i := 4) scD.nd rfl (Or.inl rfl) (pe_lst pa_nil))
    (pss_cons (ps_set (i := 5) scD.nd rfl (Or.inl rfl) (pv 0))
    (pss_cons (ps_for PassesOwn.never rfl (pi_range1 rfl T.range (pa_cons (pv 1) pa_nil)) (pg_name (i := 6) scD.nd rfl (Or.inl rfl))
      (pss_one (ps_if (PW.pt (pw_and (pt_val (pv 3)) (pw_and (pt_cmpR op_ge (pe_callB call_abs rfl T.abs PyProof.Rows.boot_abs (pa_cons (pv 0) pa_nil)) (pe_op op_pow pe_int pe_int) (nomark _)) (pw_and (pt_cmpR op_ne (pv 5) pe_int (nomark _)) (pw_and1 (pt_cmpR op_ne (pv 5) (pe_un un_neg pe_int) (nomark _))))))) (pss_cons (ps_expr (bmK K PySem.F.plainAttrs_list PySem.F.slot_list_append PySem.F.type_list_append mt_append (pv 4) (pa_cons (pe_op op_mod (pv 5) (pv 2)) pa_nil)))
    (pss_one (ps_set (i := 5) scD.nd rfl (Or.inl rfl) (pe_op op_fdiv (pv 5) (pv 2))))) (pss_cons (ps_set (i := 7) scD.nd rfl (Or.inl rfl) (pe_op op_mod (pe_op op_add (pv 0) (pe_op op_mul pe_int (pv 6))) pe_int))
    (pss_cons (ps_set (i := 7) scD.nd rfl (Or.inl rfl) (pe_op op_mod (pe_op op_add (pe_op op_mul (pv 7) (pv 7)) (pv 6)) pe_int))
    (pss_one (ps_expr (bmK K PySem.F.plainAttrs_list PySem.F.slot_list_append PySem.F.type_list_append mt_append (pv 4) (pa_cons (pe_op op_mod (pe_op op_mod (pe_op op_mul (pv 7) (pv 7)) pe_int) (pv 2)) pa_nil)))))))))
    (pss_one (ps_ret (pv 4)))))), ?_⟩
  simpa only [and_self]
  refine ⟨by decide, fun l hl => ⟨by omega, by omega, ?_⟩⟩
  refine forW_range (lo := 0) (n := m.toNat) (invD H l c m b fr) ⟨[], c, none, none, rfl, same_new hl _, upd_same, rfl, by simp⟩ ?_ ?_
  · rintro i σ H2 hi ⟨ns, rest, v6, v7, rfl, s2, hL, hn, hb⟩
    have hsz : (ns.map V.int).length < sizeLine := by rw [List.length_map]; exact small1000 (by omega)
    have fin : ∀ (z rest : Int) (v6 v7 : Option V), 0 ≤ z → z < b → invD H l c m b fr (i + 1) [some (.int c), some (.int m), some (.int b), some (.bl fr), some (.ref l), some (.int rest), v6, v7] (upd H2 l (.lst (ns.map V.int ++ [.int z]))) := fun z rest v6 v7 z0 z1 =>
      ⟨ns ++ [z], rest, v6, v7, rfl, s2.newer hl _, by rw [upd_same, List.map_append]; rfl, by rw [List.length_append, hn]; rfl, fun y hy => by
        rcases List.mem_append.mp hy with e | e
        · exact hb y e
        · rw [List.mem_singleton] at e; subst e; exact ⟨z0, z1⟩⟩
    simpa only [and_self]
    have ty : tyV K "list" (.ref l) H2 := .inl ⟨rfl, _, SqL.of hL⟩
    refine ite2 (fun _ => ⟨⟨by decide, by decide, by decide⟩, ite2 (fun _ => ite2 (fun _ => ite2 (fun _ => ?d) (fun _ => ?_)) (fun _ => ?_)) (fun _ => ?_)⟩) (fun _ => ?_)
    case d => exact ⟨ty, b0, _, hL, hsz, ⟨b0, by omega⟩, fin _ _ _ _ (Int.emod_nonneg _ (by omega)) (Int.emod_lt_of_pos _ b0)⟩
    all_goals exact ⟨.inl ⟨by decide, by decide⟩, by decide, cmul_mod7 (by decide) (by decide), by decide, ty, cmul_mod7 (by decide) (by decide), by decide, b0, _, hL, hsz, fin _ _ _ _ (Int.emod_nonneg _ (by omega)) (Int.emod_lt_of_pos _ b0)⟩
  · rintro σ H2 ⟨ns, rest, v6, v7, rfl, s2, hL, hn, hb⟩
    simpa only [and_self]
    exact q l ns H2 s2 hl hL (by omega) hb
theorem cutV_map7 (ns : List Int) (lo hi : Option Int) : cutV (ns.map V.int) lo hi = (cutL ns lo hi).map V.int := by
  unfold cutV cutL
  rw [List.length_map, List.map_take, List.map_drop]
theorem str_app7 (a b : Str) : (a ++ b).cps.toList = a.cps.toList ++ b.cps.toList := by
  show (a.cps ++ b.cps).toList = _
  rw [Array.toList_append]
theorem app_len7 (a b : Str) : (a ++ b).length = a.length + b.length := by
  rw [← slen, str_app7, List.length_append, slen, slen]
theorem asc_app7 {a b : Str} (ha : Asc a) (hb : Asc b) : Asc (a ++ b) := fun c hc => by
  rw [str_app7] at hc
  rcases List.mem_append.mp hc with h | h
  · exact ha c h
  · exact hb c h
theorem join_fits {sep : Str} {B : Nat} (hs : Asc sep) : ∀ l : List Str, (∀ z ∈ l, z.length ≤ B ∧ Asc z) → (Str.join sep l).length ≤ l.length * (B + sep.length) ∧ Asc (Str.join sep l)
  | [], _ => ⟨Nat.zero_le _, fun c hc => (by cases hc)⟩
  | [x], h => by
    obtain ⟨h1, h2⟩ := h x (List.mem_singleton.mpr rfl)
    refine ⟨?_, h2⟩
    show x.length ≤ 1 * (B + sep.length)
    omega
  | x :: y :: r, h => by
    obtain ⟨i1, i2⟩ := join_fits hs (y :: r) fun z hz => h z (List.mem_cons_of_mem _ hz)
    obtain ⟨h1, h2⟩ := h x (List.mem_cons_self ..)
    refine ⟨?_, asc_app7 (asc_app7 h2 hs) i2⟩
    show (x ++ sep ++ Str.join sep (y :: r)).length ≤ ((y :: r).length + 1) * (B + sep.length)
    rw [app_len7, app_len7, Nat.add_mul]
    omega
theorem tjoin_fits {sep : Str} {B : Nat} (hs : Asc sep) (l : List Str) (h : ∀ z ∈ l, z.length ≤ B ∧ Asc z) : (Txt.join sep l).length ≤ l.length * (B + sep.length) ∧ Asc (Txt.join sep l) := by
  have e : Txt.join sep l = Str.join sep l := by
    unfold Txt.join
    rw [StrLaws.glued_eq_join]
  rw [e]
  exact join_fits hs l h
def invG (x : V) (H0 : Hp) (B : Nat) (j : Nat) (ys : List V) (σ : St) (L : Hp) : Prop := ∃ (zs : List Str) (v0 : Option V), ys = zs.map V.str ∧ zs.length = j ∧ L = H0 ∧ σ = [v0, some x] ∧ ∀ z ∈ zs, z.length ≤ B ∧ Asc z
def spTxt : Sp := fun vs H Q _ => ∃ c : Int, vs = [.int c] ∧ ∀ (z : Str) (H' : Hp), Same H H' → z.length ≤ 200 → Asc z → Q (.str z) H'
theorem scT : FnScope ["_law_cell", "_law_signs", "_law_digits", "_law_words_here"] ["_law_cell"] (defScope sText) := ⟨rfl, rfl, rfl, by decide +kernel, rfl, by decide +kernel, by decide +kernel⟩
theorem ok_text {gd : Addr} {dd : FuncData} (F : Fun K "_law_text" "_law_text" sText f fd) (T : Txt mg) (GD : FnOk P w K mg base CX0 1 gd dd ["_law_cell", "_law_many", "_law_base", "_law_free"] spDraws) (bD : Binds K dd ["_law_cell", "_law_many", "_law_base", "_law_free"] []) (kD : PySem.W.keepIn K (.ref gd) = true) (mD : mg "_law_draws" = some (.ref gd)) : FnOk P w K mg base CX0 2 f fd ["_law_cell"] spTxt := by
  refine F.ok scT (fun vs H Q E h => ?_) (fun cdv A outer s H vs Q E hr h => ?_)
  · obtain ⟨c, rfl, _⟩ := h
    rfl
  obtain ⟨c, rfl, q⟩ := h
  refine ⟨_, (pss_cons (ps_if (pt_cmpR op_eq (pe_op op_mod (pv 0) pe_int) pe_int (nomark _)) (pss_cons (ps_set (i := 1) scT.nd rfl (Or.inr rfl) pe_str)
    (pss_cons (ps_set (i := 1) scT.nd rfl (Or.inr rfl) (pe_op op_add_str (pv 1) pe_str))
    (pss_cons (ps_set (i := 2) scT.nd rfl (Or.inl rfl) (pe_call GD hr rfl mD kD bD .nil pass0 (pa_cons (pe_op op_fdiv (pv 0) pe_int) (pa_cons pe_int (pa_cons (pe_callB call_len_str rfl T.len PySem.boot_len (pa_cons (pv 1) pa_nil)) (pa_cons pe_bl pa_nil))))))
    (pss_one (ps_ret (bmK K PySem.F.plainAttrs_str PySem.F.slot_str_join PySem.F.type_str_join (mt_join K) pe_str (pa_cons (pe_comp (N := ["_law_digit", "_law_signs"]) (pick := [none, some 1]) (NX := ["_law_cell", "_law_signs", "_law_digits", "_law_words_here"]) (sX := defScope sText) (by decide +kernel) rfl rfl rfl (pi_listK K (pe_slice (slL K) (pv 2) (po_some pe_int) (po_some (pe_op op_add pe_int (pe_op op_mod (pe_ix (ixL K) (pv 2) pe_int (fun _ _ => rfl)) pe_int)))))
        (fun _ _ _ _ => (pg_name (i := 0) (by decide +kernel : (["_law_digit", "_law_signs"] : List Str).Nodup) rfl (Or.inl rfl))) (fun _ _ _ _ => pifs_nil) (fun _ _ _ _ => (pe_ix ix_str (pv 1) (pv 0) (fun _ _ => rfl)))) pa_nil))))))) pss_nil)
    (pss_cons (ps_set (i := 2) scT.nd rfl (Or.inl rfl) (pe_call GD hr rfl mD kD bD .nil pass0 (pa_cons (pv 0) (pa_cons pe_int (pa_cons pe_int (pa_cons pe_bl pa_nil))))))
    (@pss_c _ _ _ _ _ (@ps_setLit _ 3 _ _ _ _ _ _ scT.nd rfl (Or.inr rfl) rfl rfl (.inl rfl))
    (pss_one (ps_ret (bmK K PySem.F.plainAttrs_str PySem.F.slot_str_join PySem.F.type_str_join (mt_join K) pe_str (pa_cons (pe_comp (N := ["_law_digit", "_law_words_here"]) (pick := [none, some 3]) (NX := ["_law_cell", "_law_signs", "_law_digits", "_law_words_here"]) (sX := defScope sText) (by decide +kernel) rfl rfl rfl (pi_listK K (pe_slice (slL K) (pv 2) (po_some pe_int) (po_some (pe_op op_add pe_int (pe_ix (ixL K) (pv 2) pe_int (fun _ _ => rfl))))))
        (fun _ _ _ _ => (pg_name (i := 0) (by decide +kernel : (["_law_digit", "_law_words_here"] : List Str).Nodup) rfl (Or.inl rfl))) (fun _ _ _ _ => pifs_nil) (fun _ _ _ _ => (pe_ix (ixL K) (pv 1) (pv 0) (fun _ _ => rfl)))) pa_nil))))))), ?_⟩
  simpa only [spDraws, rJoin]
  have hsl : (Str.ofString " !\"#$&'()*+,-./0123456789:;<=>?@ABCDEFGHIJKLMNOPQRSTUVWXYZ[\\]^_" ++ Str.ofString "`abcdefghijklmnopqrstuvwxyz{|}~").length = 94 := by decide +kernel
  have hsa : Asc (Str.ofString " !\"#$&'()*+,-./0123456789:;<=>?@ABCDEFGHIJKLMNOPQRSTUVWXYZ[\\]^_" ++ Str.ofString "`abcdefghijklmnopqrstuvwxyz{|}~") := by unfold Asc; decide +kernel
  have hs2 : (Str.ofString " !\"#$&'()*+,-./0123456789:;<=>?@ABCDEFGHIJKLMNOPQRSTUVWXYZ[\\]^_").length + (Str.ofString "`abcdefghijklmnopqrstuvwxyz{|}~").length = 94 := by decide +kernel
  rw [hs2]
  generalize Str.ofString " !\"#$&'()*+,-./0123456789:;<=>?@ABCDEFGHIJKLMNOPQRSTUVWXYZ[\\]^_" ++ Str.ofString "`abcdefghijklmnopqrstuvwxyz{|}~" = sg at hsl hsa ⊢
  refine ⟨by decide, ite2 (fun _ => ?_) (fun _ => ?_)⟩
  · refine ⟨small (by omega), ⟨by decide, by decide⟩, small (by omega), by decide, by decide, by omega, by omega, fun r ns H' s' hr' hH' hnl hns => ?_⟩
    obtain ⟨n0, hn0⟩ := atI_ints (ns := ns) (k := 0) (by omega) (by omega)
    refine ⟨rfl, _, SqL.of hH', _, hn0, _, rfl, by decide, _, SqL.of hH', fun p hp => ?_⟩
    rw [cutV_map7]
    have hcl : (cutL ns (some 1) (some (1 + n0 % 25))).length ≤ 25 := by
      unfold cutL
      rw [List.length_take, List.length_drop]
      omega
    have hcm : ∀ z ∈ cutL ns (some 1) (some (1 + n0 % 25)), 0 ≤ z ∧ z < (sg.length : Int) := fun z hz => hns z (List.mem_of_mem_drop (List.mem_of_mem_take hz))
    generalize cutL ns (some 1) (some (1 + n0 % 25)) = ds at hcl hcm ⊢
    refine ⟨⟨_, SqL.of upd_same⟩, compW_list (ds.map V.int) (invG (.str sg) (upd H' p (.lst (ds.map V.int))) 1) ⟨[], none, rfl, rfl, rfl, rfl, fun z hz => (by cases hz)⟩ ?_ ?_ ?_⟩
    · rintro i ys σ L hi ⟨zs, v0, rfl, hz, rfl, rfl, hB⟩
      rw [List.length_map] at hi
      exact ⟨SqL.of upd_same, by rw [List.length_map]; exact small (by omega)⟩
    · rintro i x ys σ L hx ⟨zs, v0, rfl, hz, rfl, rfl, hB⟩
      rw [List.getElem?_map] at hx
      obtain ⟨d, hd, rfl⟩ := Option.map_eq_some_iff.mp hx
      obtain ⟨d0, d1⟩ := hcm d (List.mem_of_getElem? hd)
      obtain ⟨v, hv, hv'⟩ := atI_of (xs := sg.cps.toList) d0 (by rw [slen]; exact d1)
      simpa only [and_self]
      refine ⟨small (by omega), v, hv, zs ++ [⟨#[v]⟩], _, by rw [List.map_append]; rfl, by rw [List.length_append, hz]; rfl, rfl, rfl, fun z hz => ?_⟩
      rcases List.mem_append.mp hz with hz | hz
      · exact hB z hz
      · rw [List.mem_singleton] at hz
        subst hz
        exact ⟨Nat.le_refl 1, fun c hc => by
          have e : c = v := by simpa using hc
          subst e
          exact hsa _ (List.mem_of_getElem? hv')⟩
    · rintro ys σ L ⟨zs, v0, rfl, hz, rfl, rfl, hB⟩ p2 hp2
      rw [List.length_map] at hz
      have jf := tjoin_fits (sep := "") (B := 1) (fun c hc => (by cases hc)) zs hB
      refine ⟨p2, rfl, zs, SqL.of upd_same, 1, fun y hy => (hB y hy).1, by omega, by decide, q _ _ ((s'.trans (same_new hp _)).trans (same_new hp2 _)) ?_ jf.2⟩
      have j1 : (Txt.join "" zs).length ≤ zs.length * (1 + 0) := jf.1
      omega
  · refine ⟨by decide, by decide, by decide, by decide, fun r ns H' s' hr' hH' hnl hns => ⟨by decide, fun p hp => ?_⟩⟩
    obtain ⟨WL, hWL, hl12, hB⟩ : ∃ WL : List Str, WL.map V.str = [V.str "ab", V.str "Ab", V.str "b", V.str "ba", V.str "a1", V.str "", V.str "1", V.str "abc", V.str "b, a", V.str "c", V.str "A-B", V.str "ab"] ∧ WL.length = 12 ∧ ∀ z ∈ WL, z.length ≤ 4 ∧ Asc z := ⟨["ab", "Ab", "b", "ba", "a1", "", "1", "abc", "b, a", "c", "A-B", "ab"], rfl, rfl, by unfold Asc; decide +kernel⟩
    rw [← hWL]
    have hP := same_new hp (.lst (WL.map V.str))
    obtain ⟨n0, hn0⟩ := atI_ints (ns := ns) (k := 0) (by omega) (by omega)
    refine ⟨rfl, _, SqL.of (hP _ _ hH'), _, hn0, _, rfl, _, SqL.of (hP _ _ hH'), fun p1 hp1 => ?_⟩
    rw [cutV_map7]
    have hcl : (cutL ns (some 1) (some (1 + n0))).length ≤ 14 := by
      unfold cutL
      rw [List.length_take, List.length_drop]
      omega
    have hcm : ∀ z ∈ cutL ns (some 1) (some (1 + n0)), 0 ≤ z ∧ z < 12 := fun z hz => hns z (List.mem_of_mem_drop (List.mem_of_mem_take hz))
    generalize cutL ns (some 1) (some (1 + n0)) = ds at hcl hcm ⊢
    have hP1 := same_new hp1 (.lst (ds.map V.int))
    have hpW := hP1 _ _ (show (upd H' p (.lst (WL.map V.str))) p = some (.lst (WL.map V.str)) from upd_same)
    refine ⟨⟨_, SqL.of upd_same⟩, compW_list (ds.map V.int) (invG (.ref p) (upd (upd H' p (.lst (WL.map V.str))) p1 (.lst (ds.map V.int))) 4) ⟨[], none, rfl, rfl, rfl, rfl, fun z hz => (by cases hz)⟩ ?_ ?_ ?_⟩
    · rintro i ys σ L hi ⟨zs, v0, rfl, hz, rfl, rfl, hB⟩
      rw [List.length_map] at hi
      exact ⟨SqL.of upd_same, by rw [List.length_map]; exact small (by omega)⟩
    · rintro i x ys σ L hx ⟨zs, v0, rfl, hz, rfl, rfl, hB'⟩
      rw [List.getElem?_map] at hx
      obtain ⟨d, hd, rfl⟩ := Option.map_eq_some_iff.mp hx
      obtain ⟨d0, d1⟩ := hcm d (List.mem_of_getElem? hd)
      obtain ⟨v, hv, hv'⟩ := atI_of (xs := WL.map V.str) d0 (by rw [List.length_map]; omega)
      rw [List.getElem?_map] at hv'
      obtain ⟨y, hy, rfl⟩ := Option.map_eq_some_iff.mp hv'
      simpa only [and_self]
      refine ⟨_, SqL.of hpW, _, hv, zs ++ [y], _, by rw [List.map_append]; rfl, by rw [List.length_append, hz]; rfl, rfl, rfl, fun z hz => ?_⟩
      rcases List.mem_append.mp hz with hz | hz
      · exact hB' z hz
      · rw [List.mem_singleton] at hz
        subst hz
        exact hB _ (List.mem_of_getElem? hy)
    · rintro ys σ L ⟨zs, v0, rfl, hz, rfl, rfl, hB'⟩ p2 hp2
      rw [List.length_map] at hz
      have jf := tjoin_fits (sep := " ") (B := 4) (by unfold Asc; decide +kernel) zs hB'
      refine ⟨p2, rfl, zs, SqL.of upd_same, 4, fun y hy => (hB' y hy).1, by omega, by decide, q _ _ (((s'.trans hP).trans hP1).trans (same_new hp2 _)) ?_ jf.2⟩
      have j1 : (Txt.join " " zs).length ≤ zs.length * (4 + 1) := jf.1
      omega
end
section
variable {P : Program} {w : World} {K : PySem.W.Frag} {mg : Str → Option Value} {base : Heap} {f : Addr} {fd : FuncData}
theorem scDc : FnScope ["_law_cell", "_law_more", "_law_names", "_law_fields", "_law_name"] ["_law_cell", "_law_more"] (defScope sDoc) := ⟨rfl, rfl, rfl, by decide +kernel, rfl, by decide +kernel, by decide +kernel⟩
def GoodD (d : List Fld) : Prop := dw "" 0 d = none ∧ d.length ≤ 9 ∧ ∀ y ∈ d, (y.1.length ≤ 12 ∧ y.1 ≠ "odd") ∧ y.2.length ≤ 200 ∧ Asc y.2
def spDoc : Sp := fun vs H Q _ => ∃ c m : Int, vs = [.int c, .int m] ∧ ∀ (d : List Fld) (a : Addr) (xs : List V) (H' : Hp), GoodD d → Same H H' → H a = none → H' a = some (.lst xs) → DeepTs H' (d.map dvF) xs → Q (.ref a) H'
theorem dw_rise : ∀ (d : List Fld) (p : Str) (j : Nat), PyProof.Rows.risingS p (d.map (·.1)) = true → (p :: d.map (·.1)).Nodup → (∀ y ∈ d, okNm y.1 = true) → dw p j d = none
  | [], p, j, _, _, _ => rfl
  | x :: r, p, j, h, hn, ho => by
    have h1 : (!PySem.Spec.ltCps x.1.cps.toList p.cps.toList && PyProof.Rows.risingS x.1 (r.map (·.1))) = true := h
    rw [Bool.and_eq_true, PyProof.Rows.ltCps_eq] at h1
    obtain ⟨h2, h3⟩ := h1
    have h4 : ¬ x.1.cps.toList < p.cps.toList := by
      intro z
      rw [decide_eq_true z] at h2
      cases h2
    have hne : p ≠ x.1 := fun z => by
      have := (List.nodup_cons.mp hn).1
      rw [z] at this
      exact this (List.mem_cons_self ..)
    have h5 : p.cps.toList < x.1.cps.toList := by
      rcases List.le_iff_lt_or_eq.mp (List.not_lt.mp h4) with z | z
      · exact z
      · refine absurd ?_ hne
        obtain ⟨cs⟩ := p
        cases hx : x.1 with
        | mk ds =>
          rw [hx] at z
          exact congrArg Str.mk (Array.toList_inj.mp z)
    have hb : badF p x.1 = false := by
      unfold badF
      rw [ho x (List.mem_cons_self ..), decide_eq_true h5]
      rfl
    rw [dw, if_neg (by rw [hb]; decide)]
    exact dw_rise r x.1 (j + 1) h3 (List.nodup_cons.mp hn).2 fun y hy => ho y (List.mem_cons_of_mem _ hy)
theorem dw_sorted (d : List Fld) (h : PyProof.Rows.sortedS (d.map (·.1)) = true) (hn : (d.map (·.1)).Nodup) (ho : ∀ y ∈ d, okNm y.1 = true) : dw "" 0 d = none := by
  cases d with
  | nil => rfl
  | cons x r =>
    have ox := ho x (List.mem_cons_self ..)
    have l1 : 1 ≤ x.1.length := by
      unfold okNm at ox
      rw [Bool.and_eq_true] at ox
      exact (of_decide_eq_true ox.1).1
    have h5 : decide (("" : Str).cps.toList < x.1.cps.toList) = true := by
      rw [← slen] at l1
      cases hc : x.1.cps.toList with
      | nil => rw [hc] at l1; cases l1
      | cons u r => exact decide_eq_true (List.nil_lt_cons _ _)
    have hb : badF "" x.1 = false := by
      unfold badF
      rw [ox, h5]
      rfl
    rw [dw, if_neg (by rw [hb]; decide)]
    exact dw_rise r x.1 1 h hn fun y hy => ho y (List.mem_cons_of_mem _ hy)
def nms : List Str := ["a", "ab", "b", "body", "c", "title", "tit", "z", "zz"]
theorem nms_nodup : nms.Nodup := by decide +kernel
theorem nms_ok : ∀ z ∈ nms, okNm z = true ∧ z.length ≤ 12 ∧ z ≠ "odd" := by decide +kernel
def invFd (H : Hp) (c m : Int) (r fo : Addr) (i : Nat) (σ : St) (L : Hp) : Prop := ∃ (fs : List Str) (v4 : Option V), σ = [some (.int c), some (.int m), some (.ref r), some (.ref fo), v4] ∧ Same H L ∧ L fo = some (.lst (fs.map V.str)) ∧ fs.Sublist (nms.take i)
def invTx (H0 : Hp) (m : Int) (zs : List Str) (i : Nat) (ys : List V) (σ : St) (L : Hp) : Prop := ∃ (d : List Fld) (v0 v1 : Option V), σ = [v0, v1, some (.int m)] ∧ Same H0 L ∧ DeepTs L (d.map dvF) ys ∧ d.map (·.1) = zs.take i ∧ ∀ y ∈ d, y.2.length ≤ 200 ∧ Asc y.2
theorem ps_docFor {X : Cx} {K : PySem.W.Frag} {nm : Str} {i : Nat} {es es' : List Expr} {zs zs' : List Str} {SL : Expr} {tsl : TE} {body : List Stmt} {tb : TS} {p1 pl pl' ap p2 cp cpos ipos fpos : Pos} (hK : X.K = K) (hp : PassesOwn (model X.prog X.w) X.A X.env X.xe) (hc : X.calm = true) (hN : X.N.Nodup) (hi : X.N[i]? = some nm) (hx : Loc X.env.scope nm)
    (hf : X.fn nm = true ∨ X.env.scope.names.lookup nm = some .local) (hv : PE X (.Name nm p2) (tVar i)) (hz : strsC es = some zs) (hz' : strsC es' = some zs') (hl : (ap.endLine == cp.line) = true) (hs : PE X SL tsl) (hm : behindInMarks .In SL = false) (hb : PSs X body tb) :
    PS X (.For (.Name nm p1) (.List es pl) [.If (.Compare (.Call (.Attribute (.List es' pl') "index" ap) [.Name nm p2] [] cp) [.In] [SL] cpos) body [] ipos] [] fpos)
      (tFor (iList K (tLst (fun _ H Q => Q (zs.map V.str) H))) (gName i) (tIfS (tTest (tOp (rIn X.K false) (tBM K "list" (rIdxL K) (tLst (fun _ H Q => Q (zs'.map V.str) H)) (tCons (tVar i) tNil)) tsl)) tb tNext)) := by
  subst hK
  exact ps_for hp hc (pi_list (pe_lst (pa_strs hz))) (pg_name hN hi hx hf) (pss_one (ps_if (pt_cmpR op_in_seq (bmK X.K PySem.F.plainAttrs_list PySem.F.slot_list_index PySem.F.type_list_index (mt_indexL X.K) (pe_lst (pa_strs hz')) (pa_cons hv pa_nil) rfl rfl rfl hl) hs hm) hb pss_nil))
theorem ok_doc {gd gt : Addr} {dd dt : FuncData} (F : Fun K "_law_document" "_law_document" sDoc f fd) (T : Txt mg) (GD : FnOk P w K mg base CX0 1 gd dd ["_law_cell", "_law_many", "_law_base", "_law_free"] spDraws) (bD : Binds K dd ["_law_cell", "_law_many", "_law_base", "_law_free"] []) (kD : PySem.W.keepIn K (.ref gd) = true) (mD : mg "_law_draws" = some (.ref gd))
    (GT : FnOk P w K mg base CX0 2 gt dt ["_law_cell"] spTxt) (bT : Binds K dt ["_law_cell"] []) (kT : PySem.W.keepIn K (.ref gt) = true) (mT : mg "_law_text" = some (.ref gt)) : FnOk P w K mg base CX0 3 f fd ["_law_cell", "_law_more"] spDoc := by
  refine F.ok scDc (fun vs H Q E h => ?_) (fun cdv A outer s H vs Q E hr h => ?_)
  · obtain ⟨c, m, rfl, _⟩ := h
    rfl
  obtain ⟨c, m, rfl, q⟩ := h
  have hr1 : Room 1 _ := hr.mono (by decide)
  refine ⟨_, (pss_cons (ps_set (i := 2) scDc.nd rfl (Or.inl rfl) (pe_call GD hr1 rfl mD kD bD .nil pass0 (pa_cons (pv 0) (pa_cons pe_int (pa_cons pe_int (pa_cons pe_bl pa_nil))))))
    (pss_cons (ps_set (i := 3) scDc.nd rfl (Or.inl rfl) (pe_lst pa_nil))
    (@pss_c _ _ _ _ _ (@ps_docFor _ _ _ 4 _ _ _ _ _ _ _ _ _ _ _ _ _ _ _ _ _ rfl PassesOwn.never rfl scDc.nd rfl (Or.inl rfl) (.inl rfl) (pv 4) rfl rfl rfl (pe_slice (slL K) (pv 2) (po_some pe_int) (po_some (pe_op op_add pe_int (pe_op op_mod (pe_ix (ixL K) (pv 2) pe_int (fun _ _ => rfl)) pe_int)))) rfl (pss_one (ps_expr (bmK K PySem.F.plainAttrs_list PySem.F.slot_list_append PySem.F.type_list_append mt_append (pv 3) (pa_cons (pv 4) pa_nil)))))
    (pss_one (ps_ret (pe_comp (N := ["_law_k", "_law_name", "_law_more"]) (pick := [none, none, some 1]) (NX := ["_law_cell", "_law_more", "_law_names", "_law_fields", "_law_name"]) (sX := defScope sDoc) (by decide +kernel) rfl rfl rfl (pi_enum rfl T.enumerate (pa_cons (pe_callB (call_sortedSM K) rfl T.sorted (by decide +kernel) (pa_cons (pv 3) pa_nil)) pa_nil))
        (fun _ _ _ _ => (pgT K (n := 2) rfl (pgs_cons (pg_name (i := 0) (by decide +kernel : (["_law_k", "_law_name", "_law_more"] : List Str).Nodup) rfl (Or.inl rfl)) (pgs_cons (pg_name (i := 1) (by decide +kernel : (["_law_k", "_law_name", "_law_more"] : List Str).Nodup) rfl (Or.inl rfl)) pgs_nil)))) (fun _ _ _ _ => pifs_nil) (fun _ _ _ _ => (pe_tup (pa_cons (pv 1) (pa_cons (pe_call GT hr rfl mT kT bT .nil pass0 (pa_cons (pe_op op_fdiv (pv 2) (pe_op op_add pe_int (pe_op op_mul pe_int (pv 0)))) pa_nil)) pa_nil)))))))))), ?_⟩
  simpa only [spDraws, spTxt, rIdxL]
  refine ⟨by decide, by decide, by decide, by decide, fun r ns H1 s1 hr1' hH1 hnl hns => ⟨by decide, fun fo hfo => ⟨by decide, fun p1 hp1 => ?_⟩⟩⟩
  rw [show [V.str (Str.ofString "a"), V.str (Str.ofString "ab"), V.str (Str.ofString "b"), V.str (Str.ofString "body"), V.str (Str.ofString "c"), V.str (Str.ofString "title"), V.str (Str.ofString "tit"), V.str (Str.ofString "z"), V.str (Str.ofString "zz")] = nms.map V.str from rfl]
  have sf := same_new hfo (.lst [])
  have sp := same_new hp1 (.lst (nms.map V.str))
  have hfo2 := sp _ _ (show (upd H1 fo (.lst [])) fo = some (.lst []) from upd_same)
  have fH1 : H1 fo = none := hfo
  have hr2' := (sf.trans sp) _ _ hH1
  have s0 : Same H1 (upd (upd H1 fo (.lst [])) p1 (.lst (nms.map V.str))) := sf.trans sp
  have e1 : (upd (upd H1 fo (.lst [])) p1 (.lst (nms.map V.str))) p1 = some (.lst (nms.map V.str)) := upd_same
  have np : p1 ≠ fo := fun z => by rw [z, upd_same] at hp1; cases hp1
  obtain ⟨n0, hn0⟩ := atI_ints (ns := ns) (k := 0) (by omega) (by omega)
  refine ⟨⟨_, SqL.of upd_same⟩, forW_list (nms.map V.str) (fun i σ L => invFd H1 c m r fo i σ L ∧ L p1 = some (.lst (nms.map V.str))) ⟨⟨[], none, rfl, s0, hfo2, List.nil_sublist _⟩, e1⟩ ?_ ?_ ?_⟩
  · rintro i σ L hi ⟨⟨fs, v4, rfl, sL, hf, hsub⟩, hL1⟩
    exact SqL.of hL1
  · rintro i y σ L hy ⟨⟨fs, v4, rfl, sL, hf, hsub⟩, hL1⟩
    rw [List.getElem?_map] at hy
    obtain ⟨nm, hnm, rfl⟩ := Option.map_eq_some_iff.mp hy
    simpa only [rIdxL]
    have hil : i < nms.length := (List.getElem?_eq_some_iff.mp hnm).1
    have htk : nms.take (i + 1) = nms.take i ++ [nm] := by rw [List.take_add_one, hnm]; rfl
    have hfl : fs.length ≤ 9 := by
      have := hsub.length_le
      rw [List.length_take] at this
      have e : nms.length = 9 := rfl
      omega
    refine ⟨small (by decide), fun p hp => ⟨.inl ⟨rfl, _, SqL.of upd_same⟩, nms, SqL.of upd_same, i, hnm, fun i' y hi' hy' => ?_, ?_⟩⟩
    · intro z
      subst z
      have h1 := List.pairwise_iff_getElem.mp nms_nodup i' i (by omega) hil hi'
      have h2 := (List.getElem?_eq_some_iff.mp hy').2
      have h3 := (List.getElem?_eq_some_iff.mp hnm).2
      exact h1 (by rw [h2, h3])
    have sp2 := same_new hp (.lst (nms.map V.str))
    refine ⟨_, SqL.of (sp2 _ _ (sL _ _ hH1)), _, hn0, n0, rfl, by decide, _, SqL.of (sp2 _ _ (sL _ _ hH1)), fun p2 hp2 => ?_⟩
    rw [cutV_map7]
    have sp3 := sp2.trans (same_new hp2 (.lst ((cutL ns (some 1) (some (1 + n0 % 4))).map V.int)))
    refine ⟨p2, _, rfl, .inl (SqL.of upd_same), rfl, List.all_eq_true.mpr (fun v hv => by obtain ⟨z, _, rfl⟩ := List.mem_map.mp hv; rfl), _, rfl, ?_⟩
    have hf' := sp3 _ _ hf
    have h1' := sp3 _ _ hL1
    refine ite2 (fun _ => ⟨.inl ⟨rfl, _, SqL.of hf'⟩, _, hf', small1000 (by rw [List.length_map]; omega), ⟨fs ++ [nm], _, rfl, (sL.trans sp3).newer fH1 _, by rw [upd_same, List.map_append]; rfl, by rw [htk]; exact hsub.append (List.Sublist.refl _)⟩, ?_⟩) (fun _ => ⟨⟨fs, _, rfl, sL.trans sp3, hf', by rw [htk]; exact hsub.trans (List.sublist_append_left _ _)⟩, h1'⟩)
    rw [upd_ne np]
    exact h1'
  · rintro σ L ⟨⟨fs, v4, rfl, sL, hf, hsub⟩, hL1⟩
    simpa only [spTxt]
    have hsb : fs.Sublist nms := hsub.trans (List.take_sublist _ _)
    have hfl : fs.length ≤ 9 := hsb.length_le
    refine ⟨fs, SqL.of hf, by omega, fun r' zs hr'' hperm hsort => ⟨⟨_, SqL.of upd_same⟩, ?_⟩⟩
    have hzl : zs.length ≤ 9 := by rw [hperm.length_eq]; exact hfl
    have sr := same_new hr'' (.lst (zs.map V.str))
    refine compW_enum (zs.map V.str) (invTx (upd L r' (.lst (zs.map V.str))) m zs) ⟨[], none, none, rfl, Same.refl _, DeepTs.nil, rfl, fun y hy => (by cases hy)⟩ ?_ ?_ ?_
    · rintro i ys σ M hi ⟨d, v0, v1, rfl, sM, hD, hdz, hB⟩
      have e := hD.length
      rw [List.length_map] at e hi
      have e2 : d.length = (zs.take i).length := by rw [← hdz, List.length_map]
      rw [List.length_take] at e2
      exact ⟨SqL.of (sM _ _ upd_same), small (by omega)⟩
    · rintro i y T ys σ M hy ⟨d, v0, v1, rfl, sM, hD, hdz, hB⟩ hT
      rw [List.getElem?_map] at hy
      obtain ⟨nm, hnm, rfl⟩ := Option.map_eq_some_iff.mp hy
      have hil : i < zs.length := (List.getElem?_eq_some_iff.mp hnm).1
      have sT := same_new hT (.tup [.int i, .str nm])
      simpa only [spTxt]
      refine ⟨_, SqT.of upd_same, rfl, ?_⟩
      simpa only [spTxt]
      refine ⟨.inl ⟨by decide, by decide⟩, ⟨by omega, by omega⟩, fun z H5 s5 hz hA => ⟨by decide, fun p hp => ?_⟩⟩
      have s6 := (sT.trans s5).trans (same_new hp (.tup [.str nm, .str z]))
      refine ⟨d ++ [(nm, z)], _, _, rfl, sM.trans s6, ?_, ?_, fun y hy => ?_⟩
      · rw [List.map_append]
        refine (DeepTs.same s6 _ _ hD).app (DeepTs.one ?_)
        show DeepT _ (dvF _) _
        rw [dvF, DeepT]
        exact ⟨p, _, rfl, upd_same, by rw [DeepTs]; exact ⟨_, _, rfl, by rw [DeepT], by rw [DeepTs]; exact ⟨_, _, rfl, by rw [DeepT], by rw [DeepTs]⟩⟩⟩
      · rw [List.map_append, hdz, List.take_add_one, hnm]
        rfl
      · rcases List.mem_append.mp hy with hy | hy
        · exact hB y hy
        · rw [List.mem_singleton] at hy
          subst hy
          exact ⟨hz, hA⟩
    · rintro ys σ M ⟨d, v0, v1, rfl, sM, hD, hdz, hB⟩ p hp
      rw [List.length_map, List.take_length] at hdz
      have sp5 := same_new hp (.lst ys)
      have hall : ∀ y ∈ d, y.1 ∈ nms := fun y hy => by
        have : y.1 ∈ zs := by rw [← hdz]; exact List.mem_map.mpr ⟨y, hy, rfl⟩
        exact hsb.subset (hperm.mem_iff.mp this)
      refine q d p ys _ ⟨dw_sorted d (by rw [hdz]; exact hsort) (by rw [hdz]; exact hperm.nodup_iff.mpr (hsb.nodup nms_nodup)) fun y hy => (nms_ok _ (hall y hy)).1, ?_, fun y hy => ⟨(nms_ok _ (hall y hy)).2, hB y hy⟩⟩ ((((s1.trans sL).trans sr).trans sM).trans sp5) ((((s1.trans sL).trans sr).trans sM).free hp) upd_same (DeepTs.same sp5 _ _ hD)
      have : d.length = zs.length := by rw [← hdz, List.length_map]
      omega
end
section
variable {P : Program} {w : World} {K : PySem.W.Frag} {mg : Str → Option Value} {base : Heap} {f : Addr} {fd : FuncData}
theorem scMk : FnScope ["_law_script", "_law_found", "_law_make", "_law_k", "_law_cell"] ["_law_script"] (defScope sMks) := ⟨rfl, rfl, rfl, by decide +kernel, rfl, by decide +kernel, by decide +kernel⟩
def Fits (ms : List Mk) : Prop := ms.length ≤ 10 ∧ ∀ m ∈ ms, m.1 < 10 ^ 50 ∧ m.2.length ≤ 9 ∧ ∀ y ∈ m.2, (y.1.length ≤ 20 ∧ y.1 ≠ "odd") ∧ y.2.length ≤ 200 ∧ Asc y.2
def spMks (K : PySem.W.Frag) : Sp := fun vs H Q _ => ∃ (a : Addr) (ns : List Int), vs = [.ref a] ∧ SqL K H a (ns.map V.int) ∧ ns.length ≤ 63 ∧ ∀ (ms : List Mk) (r : Addr) (xs : List V) (H' : Hp), mw (-1) ms → Fits ms → Same H H' → H r = none → H' r = some (.lst xs) → DeepTs H' (ms.map dvM) xs → Q (.ref r) H'
theorem mw_app {x : Mk} (hd : dw "" 0 x.2 = none) : ∀ (ms : List Mk) (a : Int), mw a ms → (∀ m ∈ ms, m.1 < x.1) → a < x.1 → mw a (ms ++ [x])
  | [], a, _, _, h => ⟨h, hd, trivial⟩
  | y :: r, a, h, hl, ha => ⟨h.1, h.2.1, mw_app hd r y.1 h.2.2 (fun m hm => hl m (List.mem_cons_of_mem _ hm)) (hl y (List.mem_cons_self ..))⟩
theorem docs_tup {H H2 : Hp} (h : ∀ a us, H a = some (.tup us) → H2 a = some (.tup us)) : ∀ (d : List Fld) (xs : List V), DeepTs H (d.map dvF) xs → DeepTs H2 (d.map dvF) xs
  | [], xs, hd => by
    rw [List.map_nil, DeepTs] at hd ⊢
    exact hd
  | x :: r, xs, hd => by
    rw [List.map_cons, DeepTs] at hd ⊢
    obtain ⟨y, ys, rfl, hy, hr⟩ := hd
    refine ⟨y, ys, rfl, ?_, docs_tup h r ys hr⟩
    obtain ⟨a, rfl, ha⟩ := dvF_at hy
    rw [dvF, DeepT]
    exact ⟨a, _, rfl, h _ _ ha, by rw [DeepTs]; exact ⟨_, _, rfl, by rw [DeepT], by rw [DeepTs]; exact ⟨_, _, rfl, by rw [DeepT], by rw [DeepTs]⟩⟩⟩
theorem dvM_of {H : Hp} {p a : Addr} {m : Mk} {xs : List V} (hp : H p = some (.tup [.int m.1, .ref a])) (ha : H a = some (.lst xs)) (hd : DeepTs H (m.2.map dvF) xs) : DeepT H (dvM m) (.ref p) := by
  rw [dvM, DeepT]
  refine ⟨p, _, rfl, hp, ?_⟩
  rw [DeepTs]
  refine ⟨_, _, rfl, by rw [DeepT], ?_⟩
  rw [DeepTs]
  refine ⟨_, _, rfl, ?_, by rw [DeepTs]⟩
  rw [DeepT]
  exact ⟨a, xs, rfl, ha, hd⟩
theorem fits_app {ms : List Mk} {i : Nat} {mk : Int} {d : List Fld} (h : Fits ms) (hl : ms.length < 10) (hi : mk < 10 ^ 50) (gd : GoodD d) : Fits (ms ++ [(mk, d)]) := by
  refine ⟨by rw [List.length_append, List.length_singleton]; omega, fun m hm => ?_⟩
  rcases List.mem_append.mp hm with hm | hm
  · exact h.2 m hm
  · rw [List.mem_singleton] at hm
    subst hm
    exact ⟨hi, gd.2.1, fun y hy => ⟨⟨by have := (gd.2.2 y hy).1.1; omega, (gd.2.2 y hy).1.2⟩, (gd.2.2 y hy).2⟩⟩
def invMs (H : Hp) (a fo : Addr) (i : Nat) (σ : St) (L : Hp) : Prop := ∃ (ms : List Mk) (xs : List V) (mk : Int) (v3 v4 : Option V), σ = [some (.ref a), some (.ref fo), some (.int mk), v3, v4] ∧ Same H L ∧ L fo = some (.lst xs) ∧ DeepTs (hide fo L) (ms.map dvM) xs ∧ ms.length = i ∧ mw (-1) ms ∧ (∀ m ∈ ms, m.1 ≤ mk) ∧ -1 ≤ mk ∧ mk ≤ (i : Int) * 10 ^ 40 ∧ Fits ms
theorem ok_mks {gd : Addr} {dd : FuncData} (F : Fun K "_law_makes" "_law_makes" sMks f fd) (T : Txt mg) (GDc : FnOk P w K mg base CX0 3 gd dd ["_law_cell", "_law_more"] spDoc) (bDc : Binds K dd ["_law_cell", "_law_more"] []) (kDc : PySem.W.keepIn K (.ref gd) = true) (mDc : mg "_law_document" = some (.ref gd)) : FnOkT P w K mg base 4 f fd ["_law_script"] (spMks K) := by
  refine F.okT scMk (fun vs H Q E h => ?_) (fun cdv A outer s H vs Q E hr h => ?_)
  · obtain ⟨a, ns, rfl, _⟩ := h
    rfl
  obtain ⟨a, ns, rfl, hS, hlen, q⟩ := h
  refine ⟨_, (pssT_two (i := 1) (j := 2) scMk.nd rfl (Or.inl rfl) rfl (Or.inl rfl) (pss_cons (ps_for PassesOwn.never rfl (pi_rangeG rfl T.range (pa_cons pe_int (pa_cons (pe_callB (call_min2 rfl) rfl T.min PyProof.Rows.boot_min (pa_cons pe_int (pa_cons (pe_op op_sub (pe_callB (lenK K) rfl T.len PySem.boot_len (pa_cons (pv 0) pa_nil)) pe_int) pa_nil))) (pa_cons pe_int pa_nil)))) (pg_name (i := 3) scMk.nd rfl (Or.inl rfl))
      (pss_cons (ps_set (i := 4) scMk.nd rfl (Or.inl rfl) (pe_ix (ixL K) (pv 0) (pv 3) (fun _ _ => rfl)))
    (pss_cons (ps_set (i := 2) scMk.nd rfl (Or.inl rfl) (pe_op op_add (pe_op op_add (pv 2) pe_int) (pe_ix (ixL K) (pe_lst (pa_cons (pe_op op_mod (pe_op op_fdiv (pv 4) pe_int) pe_int) (pa_cons (pe_op op_mod (pe_op op_fdiv (pv 4) pe_int) (pe_op op_pow pe_int pe_int)) pa_nil))) (pe_callTy call_intB rfl T.int (by decide +kernel) (pa_cons (pe_cmpR op_eq (pe_op op_mod (pv 4) pe_int) pe_int (nomark _)) pa_nil)) (fun _ _ => rfl))))
    (pss_one (ps_expr (bmK K PySem.F.plainAttrs_list PySem.F.slot_list_append PySem.F.type_list_append mt_append (pv 1) (pa_cons (pe_tup (pa_cons (pv 2) (pa_cons (pe_call GDc hr rfl mDc kDc bDc .nil pass0 (pa_cons (pe_op op_fdiv (pv 4) pe_int) (pa_cons (pe_ix (ixL K) (pv 0) (pe_op op_add (pv 3) pe_int) (fun _ _ => rfl)) pa_nil))) pa_nil))) pa_nil)))))))
    (pss_one (ps_ret (pv 1))))), ?_⟩
  simpa only [spDoc, iRngG]
  refine ⟨by decide, fun fo hfo => ⟨_, .inl ((same_new hfo _).seq hS), ?_⟩⟩
  have hj : ∃ j : Int, (if (((ns.map V.int).length : Nat) : Int) - 1 < 21 then (((ns.map V.int).length : Nat) : Int) - 1 else 21) = j ∧ -1 ≤ j ∧ j ≤ 21 ∧ j ≤ (ns.length : Int) - 1 := by
    rw [List.length_map]
    refine ⟨_, rfl, ?_⟩
    split <;> omega
  obtain ⟨j, ej, j0, j1, j2⟩ := hj
  rw [ej]
  have hn : (rsz 1 j 2).toNat ≤ 10 ∧ ∀ i : Nat, i < (rsz 1 j 2).toNat → 1 + (i : Int) * 2 < j := by
    unfold rsz
    split
    · exact ⟨by omega, fun i hi => by omega⟩
    · exact ⟨by omega, fun i hi => absurd hi (by simp)⟩
  refine ⟨by decide, by decide, by omega, by omega, by decide, by decide, forW_rangeS (invMs H a fo) ⟨[], [], -1, none, none, rfl, same_new hfo _, upd_same, DeepTs.nil, rfl, trivial, fun m hm => (by cases hm), by omega, by decide, by decide, fun m hm => (by cases hm)⟩ ?_ ?_⟩
  · rintro i σ L hi ⟨ms, xs, mk, v3, v4, rfl, sL, hf, hD, hml, hmw, hle, hm1, hm2, hfit⟩
    have hi2 := hn.2 i hi
    simpa only [spDoc]
    have hSL := sL.seq hS
    obtain ⟨z1, hz1⟩ := atI_ints (ns := ns) (k := 1 + (i : Int) * 2) (by omega) (by omega)
    obtain ⟨z2, hz2⟩ := atI_ints (ns := ns) (k := 1 + (i : Int) * 2 + 1) (by omega) (by omega)
    have xl := hD.length
    rw [List.length_map] at xl
    refine ⟨_, hSL, _, hz1, z1, rfl, ⟨by decide, by decide⟩, by decide, z1, rfl, ⟨by decide, by decide⟩, ⟨by decide, by decide, by decide⟩, by decide, small (by decide), fun p0 hp0 => ?_⟩
    have e40 : (10 : Int) ^ Int.toNat 40 = 10 ^ 40 := rfl
    rw [e40]
    have sp0 := same_new hp0 (.lst [V.int (z1 / 4 % 9), V.int (z1 / 4 % 10 ^ 40)])
    obtain ⟨st, hst, st0, st1⟩ : ∃ st : Int, atI [V.int (z1 / 4 % 9), V.int (z1 / 4 % 10 ^ 40)] (if decide (z1 % 4 = 3) = true then 1 else 0) = some (V.int st) ∧ 0 ≤ st ∧ st < 10 ^ 40 := by
      split
      · exact ⟨_, rfl, Int.emod_nonneg _ (by decide), Int.emod_lt_of_pos _ (by decide)⟩
      · exact ⟨_, rfl, Int.emod_nonneg _ (by decide), Int.lt_of_lt_of_le (Int.emod_lt_of_pos _ (by decide)) (by decide)⟩
    refine ⟨z1, rfl, by decide, _, SqL.of upd_same, _, hst, st, rfl, .inl ⟨rfl, _, SqL.of (sp0 _ _ hf)⟩, z1, rfl, ⟨by decide, by decide⟩, _, sp0.seq hSL, _, hz2, z2, rfl, fun d b zs H5 gd s5 hb hb5 hd5 => ⟨by decide, fun p hp => ?_⟩⟩
    have s5' := sp0.trans s5
    have hbL := sp0.free hb
    have hf5 := s5' _ _ hf
    have hpf : p ≠ fo := fun z => by rw [z, hf5] at hp; cases hp
    have hbf : b ≠ fo := fun z => by rw [z, hf] at hbL; cases hbL
    have sp := same_new hp (.tup [.int (mk + 1 + st), .ref b])
    have hlt : mk < mk + 1 + st := by omega
    have hi10 := hn.1
    have hup : mk + 1 + st ≤ ((i + 1 : Nat) : Int) * 10 ^ 40 := by
      rw [Int.natCast_add, Int.add_mul]
      show _ ≤ (i : Int) * 10 ^ 40 + 1 * 10 ^ 40
      omega
    refine ⟨xs, sp _ _ hf5, small1000 (by omega), ms ++ [(mk + 1 + st, d)], xs ++ [.ref p], _, _, _, rfl, ((sL.trans s5').trans sp).newer hfo _, upd_same, ?_, by rw [List.length_append, hml]; rfl, ?_, ?_, by omega, hup, fits_app (i := i) hfit (by omega) ?_ gd⟩
    · rw [hide_upd, List.map_append]
      refine (DeepTs.same (hide_mono (s5'.trans sp)) _ _ hD).app (DeepTs.one ?_)
      refine dvM_of (m := (mk + 1 + st, d)) (a := b) (xs := zs) (by rw [hide_ne hpf]; exact upd_same) (by rw [hide_ne hbf]; exact sp _ _ hb5) (docs_tup (fun a us ha => ?_) _ _ hd5)
      have haf : a ≠ fo := fun z => by rw [z, hf5] at ha; cases ha
      rw [hide_ne haf]
      exact sp _ _ ha
    · exact mw_app gd.1 ms (-1) hmw (fun m hm => by have := hle m hm; show m.1 < _; omega) (by show -1 < _; omega)
    · intro m hm
      rcases List.mem_append.mp hm with hm | hm
      · have := hle m hm; omega
      · rw [List.mem_singleton] at hm; subst hm; exact Int.le_refl _
    · have h1 : ((i + 1 : Nat) : Int) * 10 ^ 40 ≤ 10 * 10 ^ 40 := Int.mul_le_mul_of_nonneg_right (by omega) (by decide)
      have h2 : (10 : Int) * 10 ^ 40 < 10 ^ 50 := by decide
      omega
  · rintro σ L ⟨ms, xs, mk, v3, v4, rfl, sL, hf, hD, hml, hmw, hle, hm1, hm2, hfit⟩
    simpa only [and_self]
    exact q ms fo xs L hmw hfit sL hfo hf (DeepTs.same (hide_same _ _) _ _ hD)
end
theorem in_all6 : ∀ c, c < 128 → decide (c ∈ (Str.ofString "abcdefghijklmnopqrstuvwxyzABCDEFGHIJKLMNOPQRSTUVWXYZ0123456789").cps.toList) = ws c := by decide +kernel
def wS (l : List Wd) : List Str := l.map fun x => ⟨x.1.toArray⟩
section
variable {P : Program} {w : World} {K : PySem.W.Frag} {mg : Str → Option Value} {base : Heap} {f : Addr} {fd : FuncData}
theorem scLW : FnScope ["_law_text_here", "_law_found", "_law_word", "_law_sign"] ["_law_text_here"] (defScope sLW) := ⟨rfl, rfl, rfl, by decide +kernel, rfl, by decide +kernel, by decide +kernel⟩
def invLW (z : Str) (r : Addr) (H : Hp) (i : Nat) (σ : St) (L : Hp) : Prop := ∃ v3 : Option V, σ = [some (.str z), some (.ref r), some (.str ⟨(scan z.cps.toList i).2.toArray⟩), v3] ∧ Same H L ∧ L r = some (.lst ((wS (scan z.cps.toList i).1).map V.str))
theorem ok_lw (F : Fun K "_law_words" "_law_words" sLW f fd) (T : Txt mg) : FnOk P w K mg base CX0 1 f fd ["_law_text_here"] spBare := by
  refine F.ok scLW (fun vs H Q E h => ?_) (fun cdv A outer s H vs Q E hr h => ?_)
  · obtain ⟨z, rfl, _⟩ := h
    rfl
  obtain ⟨z, rfl, hz, hA, q⟩ := h
  refine ⟨_, (pss_cons (ps_set (i := 1) scLW.nd rfl (Or.inl rfl) (pe_lst pa_nil))
    (pss_cons (ps_set (i := 2) scLW.nd rfl (Or.inl rfl) pe_str)
    (pss_cons (ps_for PassesOwn.never rfl (pi_str (pe_op op_add_str (pv 0) pe_str)) (pg_name (i := 3) scLW.nd rfl (Or.inl rfl))
      (pss_one (ps_if (pt_cmpR op_in_str (pv 3) pe_str rfl) (pss_one (ps_set (i := 2) scLW.nd rfl (Or.inl rfl) (pe_op op_add_str (pv 2) (bm0K K PySem.F.plainAttrs_str PySem.F.slot_str_lower PySem.F.type_str_lower mt_lower (pv 3))))) (pss_one (ps_if (pt_cmpR op_ne (pv 2) pe_str (nomark _)) (pss_cons (ps_expr (bmK K PySem.F.plainAttrs_list PySem.F.slot_list_append PySem.F.type_list_append mt_append (pv 1) (pa_cons (pv 2) pa_nil)))
    (pss_one (ps_set (i := 2) scLW.nd rfl (Or.inl rfl) pe_str))) pss_nil)))))
    (pss_one (ps_ret (pv 1)))))), ?_⟩
  simpa only [iStr, rLower, V.str.injEq]
  have e1 : (" " : Str).length = 1 := by decide +kernel
  have e0 : ("" : Str) = ⟨#[]⟩ := by decide +kernel
  have strE : ∀ l : List Nat, ((⟨l.toArray⟩ : Str) = "") ↔ l = [] := fun l => by
    rw [e0]
    constructor
    · intro h
      have h' := congrArg Str.cps h
      simpa using h'
    · rintro rfl; rfl
  refine ⟨by decide, fun r hn => ⟨small (by rw [e1]; omega), ?_⟩⟩
  refine forW_str (invLW z r H) ⟨none, by rw [e0]; rfl, same_new hn _, upd_same⟩ ?_ ?_
  · rintro i c σ L hc ⟨v3, rfl, sL, hL⟩
    rw [str_app7] at hc
    have hil : i < z.length + 1 := by
      have := (List.getElem?_eq_some_iff.mp hc).1
      rw [List.length_append, slen, slen, e1] at this
      exact this
    have hc128 : c < 128 := by
      rcases List.mem_append.mp (List.mem_of_getElem? hc) with h | h
      · exact hA c h
      · revert h
        revert c
        intro c _ h
        have : c ∈ [32] := by
          have e : (" " : Str).cps.toList = [32] := by decide +kernel
          rw [e] at h
          exact h
        rw [List.mem_singleton.mp this]
        decide
    have hwo : ws c = wsO z.cps.toList[i]? ∧ (ws c = true → z.cps.toList[i]? = some c) := by
      by_cases hi : i < z.cps.toList.length
      · rw [List.getElem?_append_left hi] at hc
        rw [hc]
        exact ⟨rfl, fun _ => rfl⟩
      · have hn : z.cps.toList[i]? = none := List.getElem?_eq_none (by omega)
        have : c = 32 := by
          have e : (" " : Str).cps.toList = [32] := by decide +kernel
          rw [List.getElem?_append_right (by omega), e] at hc
          have := List.mem_of_getElem? hc
          exact List.mem_singleton.mp this
        rw [hn, this]
        exact ⟨by decide, fun h => by cases h⟩
    have hWl := scan_word_len z.cps.toList i
    have hsl := scan_len z.cps.toList i
    have hsc : scan z.cps.toList (i + 1) = stp i z.cps.toList[i]? (scan z.cps.toList i) := rfl
    have hlw : (⟨(scan z.cps.toList i).2.toArray⟩ : Str).length = (scan z.cps.toList i).2.length := by simp [Str.length]
    simpa only [iStr, rLower, V.str.injEq]
    have o1 := (StrLaws.found_one (Str.ofString "abcdefghijklmnopqrstuvwxyzABCDEFGHIJKLMNOPQRSTUVWXYZ0123456789") c).trans (in_all6 c hc128)
    rw [o1]
    refine ite2 (fun hw => ?_) (fun hw => ?_)
    · rw [hwo.2 hw, stp_grow hw] at hsc
      refine ⟨rfl, (by show (1 : Nat) ≤ 1000000; decide), fun d hd => ?_, by rw [hlw]; exact small (by have : (⟨#[c].map PyProof.Rows.lo1⟩ : Str).length = 1 := (by simp [Str.length]); omega), ?_⟩
      · have : d = c := by simpa using hd
        rw [this]; exact hc128
      · unfold invLW
        rw [hsc]
        refine ⟨some (.str ⟨#[c]⟩), ?_, sL, hL⟩
        have : ((⟨(scan z.cps.toList i).2.toArray⟩ : Str) ++ (⟨#[c].map PyProof.Rows.lo1⟩ : Str)) = ⟨((scan z.cps.toList i).2 ++ [sm c]).toArray⟩ := by
          apply Str.ext'
          show (scan z.cps.toList i).2.toArray ++ Array.map PyProof.Rows.lo1 #[c] = _
          rw [lo_sm]
          simp
        rw [this]
    · have hwf : wsO z.cps.toList[i]? = false := by rw [← hwo.1]; simpa using hw
      rw [stp_flush hwf] at hsc
      refine ite2 (fun c2 => ?_) (fun c2 => ?_)
      · have hne : (scan z.cps.toList i).2 ≠ [] := fun h => by
          rw [decide_eq_true ((strE _).mpr h)] at c2
          cases c2
        rw [if_neg hne] at hsc
        refine ⟨.inl ⟨rfl, _, SqL.of hL⟩, _, hL, small1000 (by unfold wS; rw [List.length_map, List.length_map]; omega), ?_⟩
        unfold invLW
        rw [hsc]
        refine ⟨some (.str ⟨#[c]⟩), by rw [e0], sL.newer hn _, ?_⟩
        rw [upd_same]
        unfold wS
        rw [List.map_append, List.map_append]
        rfl
      · have he : (scan z.cps.toList i).2 = [] := (strE _).mp (by
          cases hd : decide ((⟨(scan z.cps.toList i).2.toArray⟩ : Str) = "") with
          | true => exact of_decide_eq_true hd
          | false => rw [hd] at c2; exact absurd rfl c2)
        rw [if_pos he] at hsc
        unfold invLW
        rw [hsc]
        exact ⟨_, rfl, sL, hL⟩
  · rintro σ L ⟨v3, rfl, sL, hL⟩
    simpa only [and_self]
    refine q r L sL hn ?_
    rw [hL]
    have : (z ++ (" " : Str)).length = z.cps.toList.length + 1 := by rw [app_len7, e1, slen]
    rw [this]
    rfl
end
def RlAt (h : Hp) : List (Key × V) → Rw → Prop
  | [], [] => True
  | kv :: r, x :: p => (∃ l, kv = (.inl x.1, .ref l) ∧ h l = some (.lst (x.2.map V.int)) ∧ get p x.1 = none) ∧ RlAt h r p
  | _, _ => False
theorem RlAt.same {h h' : Hp} (s : Same h h') : ∀ {kvs : List (Key × V)} {r : Rw}, RlAt h kvs r → RlAt h' kvs r
  | [], [], _ => trivial
  | kv :: r, x :: p, ⟨⟨l, e, hl, n⟩, t⟩ => ⟨⟨l, e, s _ _ hl, n⟩, t.same s⟩
  | [], _ :: _, h => h.elim
  | _ :: _, [], h => h.elim
theorem RlAt.keys {h : Hp} : ∀ {kvs : List (Key × V)} {r : Rw}, RlAt h kvs r → kvs.map (·.1) = (r.map (·.1)).map Sum.inl
  | [], [], _ => rfl
  | kv :: r, x :: p, ⟨⟨l, e, _⟩, t⟩ => by rw [List.map_cons, List.map_cons, List.map_cons, t.keys, e]
  | [], _ :: _, h => h.elim
  | _ :: _, [], h => h.elim
theorem RlAt.get {h : Hp} {m : Int} : ∀ {kvs : List (Key × V)} {r : Rw}, RlAt h kvs r → (valV kvs (.inl m) = none ∧ KT.get r m = none) ∨ ∃ l ps, valV kvs (.inl m) = some (.ref l) ∧ KT.get r m = some ps ∧ h l = some (.lst (ps.map V.int))
  | [], [], _ => .inl ⟨rfl, rfl⟩
  | kv :: r, x :: p, ⟨⟨l, e, hl, n⟩, t⟩ => by
    subst e
    by_cases hx : x.1 = m
    · exact .inr ⟨l, x.2, valV_pos (by rw [hx]), by rw [KT.get, if_pos hx], hl⟩
    · rw [valV_neg (fun e => hx (Sum.inl.inj e)), KT.get, if_neg hx]
      exact t.get
  | [], _ :: _, h => h.elim
  | _ :: _, [], h => h.elim
theorem putK_cons {kv : Key × V} {r : List (Key × V)} {k : Key} {v : V} (h : ¬ kv.1 = k) : putK (kv :: r) k v = kv :: putK r k v := by
  unfold putK
  rw [List.any_cons, decide_eq_false h, Bool.false_or]
  split
  · rw [List.map_cons, if_neg h]
  · rfl
theorem putK_head {r : List (Key × V)} {k : Key} {u v : V} (h : valV r k = none) : putK ((k, u) :: r) k v = (k, v) :: r := by
  unfold putK
  rw [List.any_cons, decide_eq_true rfl, Bool.true_or, if_pos rfl, List.map_cons, if_pos rfl]
  congr 1
  have hn : (r.any fun kv => decide (kv.1 = k)) = false := by rw [valV_any, h]; rfl
  rw [List.any_eq_false] at hn
  have : ∀ y ∈ r, (fun kv : Key × V => if kv.1 = k then (kv.1, v) else kv) y = id y := fun y hy => if_neg (fun e => hn y hy (decide_eq_true e))
  rw [List.map_congr_left this, List.map_id]
theorem RlAt.put {h : Hp} {m : Int} {l : Addr} {ps : List Int} (hl : h l = some (.lst (ps.map V.int))) : ∀ {kvs : List (Key × V)} {r : Rw}, RlAt h kvs r → RlAt h (putK kvs (.inl m) (.ref l)) (KT.mod r m fun _ => ps)
  | [], [], _ => ⟨⟨l, rfl, hl, rfl⟩, trivial⟩
  | kv :: r, x :: p, ⟨⟨l', e, hl', n⟩, t⟩ => by
    subst e
    by_cases hx : x.1 = m
    · subst hx
      rw [KT.mod, if_pos rfl]
      have hv : valV r (.inl x.1) = none := by
        rcases t.get (m := x.1) with ⟨h1, _⟩ | ⟨_, _, _, h2, _⟩
        · exact h1
        · rw [n] at h2; cases h2
      rw [putK_head hv]
      exact ⟨⟨l, rfl, hl, n⟩, t⟩
    · rw [putK_cons (fun e => hx (Sum.inl.inj e)), KT.mod, if_neg hx]
      exact ⟨⟨l', rfl, hl', by rw [mod_other _ _ hx]; exact n⟩, t.put hl⟩
  | [], _ :: _, h => h.elim
  | _ :: _, [], h => h.elim
def Rl (h : Hp) (o : HO) (r : Rw) : Prop := ∃ kvs, o = .dK kvs ∧ RlAt h kvs r
theorem Rl_m : RM Rl := fun h h' o r s ⟨kvs, e, d⟩ => ⟨kvs, e, d.same s⟩
theorem putK_kv {α : Type} {da : Str → Addr} {F : List (Str × α)} {f : Str} {D : α} (h : get F f = some D) : putK (kvF da F) (.inr f) (.ref (da f)) = kvF da F := by
  unfold putK
  rw [valV_any, kv_get, h, if_pos (show (Option.map (fun _ => V.ref (da f)) (some D)).isSome = true from rfl)]
  have : ∀ y ∈ kvF da F, (fun kv : Key × V => if kv.1 = (.inr f) then (kv.1, V.ref (da f)) else kv) y = id y := fun y hy => by
    obtain ⟨x, hx, rfl⟩ := List.mem_map.mp hy
    by_cases e : x.1 = f
    · show (if (.inr x.1 : Key) = .inr f then _ else _) = _
      rw [if_pos (by rw [e]), e]
      rfl
    · exact if_neg (fun z => e (Sum.inr.inj z))
  rw [List.map_congr_left this, List.map_id]
theorem upd_id {H : Hp} {a : Addr} {o : HO} (h : H a = some o) : upd H a o = H := by
  funext x
  unfold upd
  split
  · rename_i e; rw [e, h]
  · rfl
section
variable {G M : Hp} {b : Addr} {da : Str → Addr} {ra : Str → Str → Addr} {pa : Pth} {F : Fl}
theorem TAt.getF {f : Str} {p : Addr} (t : TAt Rl G M b da ra pa F) (hp : M p = none) : ∃ (da' : Str → Addr) (pa' : Pth), (valV (kvF da F) (.inr f)).getD (.ref p) = .ref (da' f) ∧
    TAt Rl G (upd (upd M p (.dK [])) b (.dK (putK (kvF da F) (.inr f) ((valV (kvF da F) (.inr f)).getD (.ref p))))) b da' ra pa' (KT.mod F f fun o => o.getD []) ∧
    Fr G pa M pa' (upd (upd M p (.dK [])) b (.dK (putK (kvF da F) (.inr f) ((valV (kvF da F) (.inr f)).getD (.ref p))))) := by
  have sp := same_new hp (.dK [])
  cases e : get F f with
  | none =>
    refine ⟨fup da f p, fup pa p (some [f]), ?_⟩
    have ev : valV (kvF da F) (.inr f) = none := by rw [kv_get, e]; rfl
    have nb : b ≠ p := ne_of_none t.top.1 hp
    rw [ev, Option.getD_none, putK_new _ ev, mod_end e, fup_at]
    exact ⟨rfl, t.addF Rl_m e hp, (Fr.new hp fun a ha => (t.own a ha).2).trans (Fr.own (q := []) (by rw [fup_ne nb]; exact t.top.2) (by decide))⟩
  | some D =>
    refine ⟨da, pa, ?_⟩
    have ev : valV (kvF da F) (.inr f) = some (.ref (da f)) := by rw [kv_get, e]; rfl
    have em : KT.mod F f (fun o => o.getD []) = F := (mod_congr (by rw [e]; rfl)).trans (mod_id e)
    rw [ev, Option.getD_some, putK_kv e, upd_id (sp _ _ t.top.1), em]
    exact ⟨rfl, t.same Rl_m sp, Fr.same sp fun a ha => (t.own a ha).2⟩
theorem TAt.getW {f w : Str} {D : Wt Str} {p : Addr} (t : TAt Rl G M b da ra pa F) (hf : get F f = some D) (hp : M p = none) : ∃ (ra' : Str → Str → Addr) (pa' : Pth), (valV (kvF (ra f) D) (.inr w)).getD (.ref p) = .ref (ra' f w) ∧
    TAt Rl G (upd (upd M p (.dK [])) (da f) (.dK (putK (kvF (ra f) D) (.inr w) ((valV (kvF (ra f) D) (.inr w)).getD (.ref p))))) b da ra' pa' (KT.mod F f fun _ => KT.mod D w fun o => o.getD []) ∧
    Fr G pa M pa' (upd (upd M p (.dK [])) (da f) (.dK (putK (kvF (ra f) D) (.inr w) ((valV (kvF (ra f) D) (.inr w)).getD (.ref p))))) := by
  have sp := same_new hp (.dK [])
  obtain ⟨hd, h3⟩ := t.fld f D hf
  cases e : get D w with
  | none =>
    refine ⟨fup ra f (fup (ra f) w p), fup pa p (some [f, w]), ?_⟩
    have ev : valV (kvF (ra f) D) (.inr w) = none := by rw [kv_get, e]; rfl
    have nb : da f ≠ p := ne_of_none hd hp
    rw [ev, Option.getD_none, putK_new _ ev, mod_end e, fup_at, fup_at]
    exact ⟨rfl, t.addW Rl_m hf e hp ⟨[], rfl, trivial⟩, (Fr.new hp fun a ha => (t.own a ha).2).trans (Fr.own (q := [f]) (by rw [fup_ne nb]; exact h3) (by show 1 < 3; decide))⟩
  | some r =>
    refine ⟨ra, pa, ?_⟩
    have ev : valV (kvF (ra f) D) (.inr w) = some (.ref (ra f w)) := by rw [kv_get, e]; rfl
    have em : KT.mod D w (fun o => o.getD []) = D := (mod_congr (by rw [e]; rfl)).trans (mod_id e)
    rw [ev, Option.getD_some, putK_kv e, upd_id (sp _ _ hd), em, mod_id hf]
    exact ⟨rfl, t.same Rl_m sp, Fr.same sp fun a ha => (t.own a ha).2⟩
end
def PB (k : Nat) (m : Int) (f : Str) (F : Fl) : Prop := ∀ D w r ps, get F f = some D → get D w = some r → get r m = some ps → ps.length ≤ k
theorem PB.step {k : Nat} {m i : Int} {f w : Str} {F : Fl} (h : PB k m f F) : PB (k + 1) m f (KT.mod F f fun o => occ m (o.getD []) w i) := by
  intro D' w' r' ps h1 h2 h3
  rw [mod_get] at h1
  cases h1
  have key : ∀ w r, get ((get F f).getD []) w = some r → ∀ ps, get r m = some ps → ps.length ≤ k := fun w r e ps e' => by
    cases eF : get F f with
    | none => rw [eF] at e; cases e
    | some D => rw [eF] at e; exact h D w r ps eF e e'
  unfold occ at h2
  by_cases e : w' = w
  · subst e
    rw [mod_get] at h2
    cases h2
    rw [mod_get] at h3
    cases h3
    rw [List.length_append, List.length_singleton]
    cases eW : get ((get F f).getD []) w' with
    | none => exact Nat.le_add_left _ _
    | some r =>
      rw [Option.getD_some]
      cases eM : get r m with
      | none => exact Nat.le_add_left _ _
      | some ps => exact Nat.add_le_add_right (key w' r eW ps eM) 1
  · rw [mod_other _ _ e] at h2
    exact Nat.le_succ_of_le (key w' r' h2 ps h3)
def spTab : Sp := fun vs H Q _ => ∃ (a : Addr) (ms : List Mk) (xs : List V), vs = [.ref a] ∧ H a = some (.lst xs) ∧ DeepTs H (ms.map dvM) xs ∧ MkFit ms ∧ mw (-1) ms ∧ ∀ b da ra pa H', TAt Rl H H' b da ra pa (tabT [] ms) → Q (.ref b) H'
section
variable {P : Program} {w : World} {K : PySem.W.Frag} {mg : Str → Option Value} {base : Heap} {f : Addr} {fd : FuncData}
theorem scTab : FnScope ["_law_makes_here", "_law_found", "_law_make", "_law_document_here", "_law_field", "_law_text_here", "_law_at", "_law_word", "_law_words_here", "_law_rows"] ["_law_makes_here"] (defScope sTab) := ⟨rfl, rfl, rfl, by decide +kernel, rfl, by decide +kernel, by decide +kernel⟩
def TI (G : Hp) (b : Addr) (F : Fl) (L : Hp) : Prop := ∃ (da : Str → Addr) (ra : Str → Str → Addr) (pa : Pth), TAt Rl G L b da ra pa F
theorem TI.bs {G L : Hp} {b : Addr} {F : Fl} (h : TI G b F L) : Same G L := by
  obtain ⟨_, _, _, t⟩ := h
  exact t.base
def invTA (G : Hp) (a b : Addr) (ms : List Mk) (i : Nat) (σ : St) (L : Hp) : Prop := ∃ v2 v3 v4 v5 v6 v7 v8 v9 : Option V, σ = [some (.ref a), some (.ref b), v2, v3, v4, v5, v6, v7, v8, v9] ∧ TI G b (tabT [] (ms.take i)) L ∧ Sz (20 * i * 1000) (tabT [] (ms.take i))
def invTB (G : Hp) (a b : Addr) (ms : List Mk) (m : Mk) (d : V) (i j : Nat) (σ : St) (L : Hp) : Prop := ∃ v4 v5 v6 v7 v8 v9 : Option V, σ = [some (.ref a), some (.ref b), some (.int m.1), some d, v4, v5, v6, v7, v8, v9] ∧ TI G b (docT m.1 (tabT [] (ms.take i)) (m.2.take j)) L ∧ Sz ((20 * i + j) * 1000) (docT m.1 (tabT [] (ms.take i)) (m.2.take j))
def invTC (G : Hp) (a b wl : Addr) (m : Mk) (d : V) (y : Fld) (F0 : Fl) (ws : List Str) (k : Nat) (σ : St) (L : Hp) : Prop := ∃ v6 v7 v8 v9 : Option V, σ = [some (.ref a), some (.ref b), some (.int m.1), some d, some (.str y.1), some (.str y.2), v6, v7, v8, v9] ∧
  (∃ (da : Str → Addr) (ra : Str → Str → Addr) (pa : Pth), TAt Rl G L b da ra pa (occF m.1 y.1 F0 0 (ws.take k)) ∧ pa wl = none) ∧ L wl = some (.lst (ws.map V.str)) ∧ PB k m.1 y.1 (occF m.1 y.1 F0 0 (ws.take k))
theorem ok_tab {gw : Addr} {dw' : FuncData} (F : Fun K "_law_table" "_law_table" sTab f fd) (T : Txt mg) (GLW : FnOk P w K mg base CX0 1 gw dw' ["_law_text_here"] spBare) (bLW : Binds K dw' ["_law_text_here"] []) (kLW : PySem.W.keepIn K (.ref gw) = true) (mLW : mg "_law_words" = some (.ref gw)) : FnOk P w K mg base CX0 2 f fd ["_law_makes_here"] spTab := by
  refine F.ok scTab (fun vs H Q E h => ?_) (fun cdv A outer s H vs Q E hr h => ?_)
  · obtain ⟨a, ms, xs, rfl, _⟩ := h
    rfl
  obtain ⟨a, ms, xs, rfl, ha, hD, ⟨hl, hfl⟩, hmw, q⟩ := h
  have szl := sizeLine_eq
  refine ⟨_, (pss_cons (ps_set (i := 1) scTab.nd rfl (Or.inl rfl) pe_dnewK)
    (pss_cons (ps_for PassesOwn.never rfl (pi_listK K (pv 0)) (pgT K (n := 2) rfl (pgs_cons (pg_name (i := 2) scTab.nd rfl (Or.inl rfl)) (pgs_cons (pg_name (i := 3) scTab.nd rfl (Or.inl rfl)) pgs_nil)))
      (pss_one (ps_for PassesOwn.never rfl (pi_listK K (pv 3)) (pgT K (n := 2) rfl (pgs_cons (pg_name (i := 4) scTab.nd rfl (Or.inl rfl)) (pgs_cons (pg_name (i := 5) scTab.nd rfl (Or.inl rfl)) pgs_nil)))
      (pss_one (ps_for PassesOwn.never rfl (pi_enum rfl T.enumerate (pa_cons (pe_call GLW hr rfl mLW kLW bLW .nil pass0 (pa_cons (pv 5) pa_nil)) pa_nil)) (pgT K (n := 2) rfl (pgs_cons (pg_name (i := 6) scTab.nd rfl (Or.inl rfl)) (pgs_cons (pg_name (i := 7) scTab.nd rfl (Or.inl rfl)) pgs_nil)))
      (pss_cons (ps_set (i := 8) scTab.nd rfl (Or.inl rfl) (pe_dget2 (hu_of hr) (pv 1) (pv 4) pe_dnewK ⟨rfl, rfl, rfl, rfl⟩))
    (pss_cons (ps_dput (hu_of hr) (pv 1) (pv 4) (pv 8) rfl)
    (pss_cons (ps_set (i := 9) scTab.nd rfl (Or.inl rfl) (pe_dget2 (hu_of hr) (pv 8) (pv 7) pe_dnewK ⟨rfl, rfl, rfl, rfl⟩))
    (pss_cons (ps_dput (hu_of hr) (pv 8) (pv 7) (pv 9) rfl)
    (pss_one (ps_dput (hu_of hr) (pv 9) (pv 2) (pe_op op_cat (pe_dget2 (hu_of hr) (pv 9) (pv 2) (pe_lst pa_nil) ⟨rfl, rfl, rfl, rfl⟩) (pe_lst (pa_cons (pv 6) pa_nil))) rfl)))))))))))
    (pss_one (ps_ret (pv 1))))), ?_⟩
  simpa only [spBare, tDNewK, tDGet2, sDPut, rCat]
  intro b hb
  have hxl : xs.length = ms.length := by have := hD.length; rwa [List.length_map] at this
  have nab : a ≠ b := ne_of_none ha hb
  have t0 : TI H b [] (upd H b (.dK [])) := ⟨fun _ => 0, fun _ _ => 0, fup (fun _ => none) b (some []), same_new hb _, fun c hc => by
    by_cases e : c = b
    · rw [e]; exact ⟨hb, by rw [upd_same]; intro z; cases z⟩
    · rw [fup_ne e] at hc; exact absurd rfl hc, ⟨upd_same, fup_at⟩, fun f D h => (by cases h), fun f D w r h => (by cases h)⟩
  refine ⟨⟨xs, SqL.of (upd_at ha hb)⟩, forW_list xs (invTA H a b ms) ⟨_, _, _, _, _, _, _, _, rfl, t0, ⟨Nat.zero_le _, fun x hx => (by cases hx)⟩⟩ ?_ ?_ ?_⟩
  · rintro i σ L hi ⟨v2, v3, v4, v5, v6, v7, v8, v9, rfl, ti, _⟩
    exact SqL.of (ti.bs _ _ ha)
  · rintro i y σ L hy ⟨v2, v3, v4, v5, v6, v7, v8, v9, rfl, ti, hsz⟩
    obtain ⟨dv, h1, h2⟩ := hD.get hy
    rw [List.getElem?_map] at h1
    obtain ⟨m, hm, rfl⟩ := Option.map_eq_some_iff.mp h1
    obtain ⟨b', c, zs, rfl, hb', hc, hz⟩ := dvM_at h2
    have hmm : m ∈ ms := List.mem_of_getElem? hm
    have hil : i < ms.length := (List.getElem?_eq_some_iff.mp hm).1
    simpa only [and_self]
    refine ⟨_, SqT.of (ti.bs _ _ hb'), rfl, ?_⟩
    simpa only [and_self]
    refine ⟨⟨zs, SqL.of (ti.bs _ _ hc)⟩, forW_list zs (invTB H a b ms m (.ref c) i) ⟨_, _, _, _, _, _, rfl, ti, hsz⟩ ?_ ?_ ?_⟩
    · rintro j σ L hj ⟨v4, v5, v6, v7, v8, v9, rfl, tj, _⟩
      exact SqL.of (tj.bs _ _ hc)
    · rintro j y σ L hyj ⟨v4, v5, v6, v7, v8, v9, rfl, tj, hszj⟩
      obtain ⟨dv, h1, h2⟩ := hz.get hyj
      rw [List.getElem?_map] at h1
      obtain ⟨fl, hfj, rfl⟩ := Option.map_eq_some_iff.mp h1
      obtain ⟨t, rfl, ht⟩ := dvF_at h2
      have hfm : fl ∈ m.2 := List.mem_of_getElem? hfj
      have hjl : j < m.2.length := (List.getElem?_eq_some_iff.mp hfj).1
      obtain ⟨b1, b2, b3⟩ := (hfl m hmm).2 fl hfm
      have hm20 := (hfl m hmm).1
      have nd := (dw_rises (mw_at hmw hm).2.1).2
      have dok := docT_ok (tabT_ok (F := []) hmw (fun y hy => (by cases hy)) hm) nd j (by omega)
      have hfr : Free m.1 ((get (docT m.1 (tabT [] (ms.take i)) (m.2.take j)) fl.1).getD []) := by
        rw [List.drop_eq_getElem_cons hjl, (List.getElem?_eq_some_iff.mp hfj).2] at dok
        exact dok.at_.free
      simpa only [and_self]
      refine ⟨_, SqT.of (tj.bs _ _ ht), rfl, ?_⟩
      simpa only [spBare, tDNewK, tDGet2, sDPut, rCat]
      refine ⟨by omega, b3, fun wl L1 s1 hwl hwv => ?_⟩
      have hwn := wordsS_len b2
      have eF := docT_at (m := m.1) (F := tabT [] (ms.take i)) hfj
      unfold invTB
      rw [eF]
      have e20 : (20 * i + j) * 1000 + 1000 = (20 * i + (j + 1)) * 1000 := by omega
      generalize docT m.1 (tabT [] (ms.take i)) (m.2.take j) = F0 at tj hszj hfr ⊢
      generalize hws : wordsS fl.2 = ws at hwv hwn ⊢
      obtain ⟨da, ra, pa, tt⟩ := tj
      have hwlp : pa wl = none := Classical.byContradiction fun e => (tt.own wl e).2 hwl
      have gwl : H wl = none := tt.base.free hwl
      have hnl : (ws.map V.str).length = ws.length := List.length_map _
      refine ⟨⟨_, SqL.of hwv⟩, forW_enum (ws.map V.str) (invTC H a b wl m (.ref c) fl F0 ws) ⟨_, _, _, _, rfl, ⟨da, ra, pa, tt.same Rl_m s1, hwlp⟩, hwv, fun D w r ps g1 g2 g3 => ?_⟩ ?_ ?_ ?_⟩
      · rw [List.take_zero] at g1
        have g1' : get F0 fl.1 = some D := g1
        rw [g1'] at hfr
        have := hfr w r g2
        rw [g3] at this
        cases this
      · rintro k σ L hk ⟨v6, v7, v8, v9, rfl, _, hv, _⟩
        exact SqL.of hv
      · rintro k y T σ L hyk ⟨v6, v7, v8, v9, rfl, ⟨da, ra, pa, tk, hwp⟩, hv, hpb⟩ hT
        rw [List.getElem?_map] at hyk
        obtain ⟨wd, hwd, rfl⟩ := Option.map_eq_some_iff.mp hyk
        have hkl : k < ws.length := (List.getElem?_eq_some_iff.mp hwd).1
        have ek : occF m.1 fl.1 F0 0 (ws.take (k + 1)) = KT.mod (occF m.1 fl.1 F0 0 (ws.take k)) fl.1 fun o => occ m.1 (o.getD []) wd (k : Int) := by
          rw [List.take_add_one, hwd]
          show occF m.1 fl.1 F0 0 (ws.take k ++ [wd]) = _
          rw [occF_snoc, List.length_take, Nat.min_eq_left (by omega), Int.zero_add]
        have hsk : Sz ((20 * i + j) * 1000 + 1000) (occF m.1 fl.1 F0 0 (ws.take k)) := by
          rw [occF_addS hfr]
          exact addS_sz hszj (by rw [List.length_take]; omega)
        have hpb' := hpb.step (w := wd) (i := (k : Int))
        unfold invTC
        rw [ek]
        generalize occF m.1 fl.1 F0 0 (ws.take k) = F1 at tk hpb hpb' hsk ⊢
        have sT := same_new hT (.tup [.int k, .str wd])
        simpa only [and_self]
        refine ⟨_, SqT.of upd_same, rfl, ?_⟩
        simpa only [spBare, tDNewK, tDGet2, sDPut, rCat]
        have tT := tk.same Rl_m sT
        have hvT := sT _ _ hv
        generalize upd L T (.tup [.int k, .str wd]) = M at tT hvT ⊢
        refine ⟨.inl ⟨_, .inl tT.top.1⟩, fun p hp => ?_⟩
        have sp := same_new hp (.dK [])
        obtain ⟨da1, pa1, e1, t1, f1⟩ := tT.getF (f := fl.1) hp
        refine ⟨_, DGet.k (k := .inr fl.1) (sp _ _ tT.top.1), _, DPut.k (k := .inr fl.1) (sp _ _ tT.top.1) (by rw [kv_len]; have := hsk.1; omega), ?_⟩
        rw [e1] at t1 f1 ⊢
        obtain ⟨hv1, hp1⟩ := f1.at_ hvT gwl hwp
        generalize upd (upd M p (.dK [])) b (.dK (putK (kvF da F1) (.inr fl.1) (.ref (da1 fl.1)))) = M1 at t1 f1 hv1 ⊢
        have g1 : get (KT.mod F1 fl.1 fun o => o.getD []) fl.1 = some ((get F1 fl.1).getD []) := mod_get ..
        have hsF := hsk.at_ (f := fl.1)
        obtain ⟨hd1, hd2⟩ := t1.fld fl.1 _ g1
        refine ⟨_, rfl, .inl ⟨_, .inl hd1⟩, fun p2 hp2 => ?_⟩
        have sp2 := same_new hp2 (.dK [])
        obtain ⟨ra2, pa2, e2, t2, f2⟩ := t1.getW (w := wd) g1 hp2
        refine ⟨_, DGet.k (k := .inr wd) (sp2 _ _ hd1), _, rfl, _, DPut.k (k := .inr wd) (sp2 _ _ hd1) (by rw [kv_len]; have := hsF.1; omega), ?_⟩
        rw [e2] at t2 f2 ⊢
        obtain ⟨hv2, hp2'⟩ := f2.at_ hv1 gwl hp1
        generalize upd (upd M1 p2 (.dK [])) (da1 fl.1) (.dK (putK (kvF (ra fl.1) ((get F1 fl.1).getD [])) (.inr wd) (.ref (ra2 fl.1 wd)))) = M2 at t2 f2 hv2 ⊢
        have g2 : get (KT.mod (KT.mod F1 fl.1 fun o => o.getD []) fl.1 fun _ => KT.mod ((get F1 fl.1).getD []) wd fun o => o.getD []) fl.1 = some (KT.mod ((get F1 fl.1).getD []) wd fun o => o.getD []) := mod_get ..
        have g3 : get (KT.mod ((get F1 fl.1).getD []) wd fun o => o.getD []) wd = some ((get ((get F1 fl.1).getD []) wd).getD []) := mod_get ..
        obtain ⟨⟨o, hr1, kvs, rfl, hrl⟩, hr2⟩ := t2.row fl.1 _ wd _ g2 g3
        have hkl2 : kvs.length < sizeLine := by
          have e := congrArg List.length hrl.keys
          rw [List.length_map, List.length_map, List.length_map] at e
          cases eW : get ((get F1 fl.1).getD []) wd with
          | none => rw [eW] at e; rw [e]; show 0 < sizeLine; omega
          | some r => rw [eW] at e; have := hsF.2 _ (get_in eW); rw [e]; simp only [Option.getD_some]; simp only at this; omega
        refine ⟨_, rfl, .inl ⟨_, .inl hr1⟩, Nat.zero_le _, fun p3 hp3 => ?_⟩
        have sp3 := same_new hp3 (.lst [])
        refine ⟨_, DGet.k (k := .inl m.1) (sp3 _ _ hr1), by decide, fun p4 hp4 => ?_⟩
        have sp4 := sp3.trans (same_new hp4 (.lst [.int (k : Int)]))
        suffices key : ∃ (l : Addr) (ps : List Int), (valV kvs (.inl m.1)).getD (.ref p3) = .ref l ∧ (upd (upd M2 p3 (.lst [])) p4 (.lst [.int (k : Int)])) l = some (.lst (ps.map V.int)) ∧ ps = (get ((get ((get F1 fl.1).getD []) wd).getD []) m.1).getD [] ∧ ps.length ≤ k by
          obtain ⟨l, ps, k1, k2, k3, k4⟩ := key
          refine ⟨l, k1, _, k2, _, upd_same, by rw [List.length_map, List.length_singleton]; omega, fun p5 hp5 => ?_⟩
          have sp5 := sp4.trans (same_new hp5 (.lst (ps.map V.int ++ [.int (k : Int)])))
          refine ⟨_, rfl, _, DPut.k (k := .inl m.1) (sp5 _ _ hr1) hkl2, ?_, ?_, hpb'⟩
          · have t3 := t2.same Rl_m sp5
            have hp5' : pa2 p5 = none := Classical.byContradiction fun e => (t2.own p5 e).2 (sp4.free hp5)
            have g5 : H p5 = none := (t2.base.trans sp4).free hp5
            have hR : RlAt (hid H pa2 (upd (upd (upd M2 p3 (.lst [])) p4 (.lst [.int (k : Int)])) p5 (.lst (ps.map V.int ++ [.int (k : Int)])))) (putK kvs (.inl m.1) (.ref p5)) (KT.mod ((get ((get F1 fl.1).getD []) wd).getD []) m.1 fun _ => ps ++ [(k : Int)]) :=
              RlAt.put (hid_at (by rw [upd_same, List.map_append]; rfl) g5 hp5') (hrl.same (hid_same sp5))
            have t4 := t3.chg g2 g3 (o := .dK (putK kvs (.inl m.1) (.ref p5))) ⟨_, rfl, hR⟩
            refine ⟨da1, ra2, pa2, ?_, hp2'⟩
            rw [mod_mod, mod_mod, mod_mod] at t4
            have eE : (KT.mod F1 fl.1 fun o => occ m.1 (o.getD []) wd (k : Int)) = KT.mod F1 fl.1 fun _ => KT.mod ((get F1 fl.1).getD []) wd fun _ => KT.mod ((get ((get F1 fl.1).getD []) wd).getD []) m.1 fun _ => ps ++ [(k : Int)] := by
              apply mod_congr
              show occ m.1 ((get F1 fl.1).getD []) wd (k : Int) = _
              unfold occ
              apply mod_congr
              show KT.mod ((get ((get F1 fl.1).getD []) wd).getD []) m.1 _ = _
              apply mod_congr
              rw [k3]
            rw [eE]
            exact t4
          · have nw : wl ≠ ra2 fl.1 wd := ne_of hv2 hr1 (by intro z; cases z)
            rw [upd_ne nw]
            exact sp5 _ _ hv2
        rcases hrl.get (m := m.1) with ⟨z1, z2⟩ | ⟨l, ps, z1, z2, z3⟩
        · exact ⟨p3, [], by rw [z1]; rfl, (same_new hp4 _) _ _ upd_same, by rw [z2]; rfl, Nat.zero_le _⟩
        · refine ⟨l, ps, by rw [z1]; rfl, sp4 _ _ (hid_to z3).1, by rw [z2]; rfl, ?_⟩
          cases eW : get ((get F1 fl.1).getD []) wd with
          | none => rw [eW] at z2; cases z2
          | some r =>
            rw [eW] at z2
            cases eF1 : get F1 fl.1 with
            | none => rw [eF1] at eW; cases eW
            | some D => rw [eF1] at eW; exact hpb D wd r ps eF1 eW z2
      · rintro σ L ⟨v6, v7, v8, v9, rfl, ⟨da, ra, pa, tk, hwp⟩, hv, hpb⟩
        rw [hnl, List.take_length, occF_addS hfr] at tk
        exact ⟨_, _, _, _, _, _, rfl, ⟨da, ra, pa, tk⟩, by rw [← e20]; exact addS_sz hszj hwn⟩
    · rintro σ L ⟨v4, v5, v6, v7, v8, v9, rfl, tj, hszj⟩
      have hzl : zs.length = m.2.length := by have := hz.length; rwa [List.length_map] at this
      rw [hzl, List.take_length] at tj hszj
      have := (hfl m hmm).1
      have e1 := tabT_at (F := []) hm
      exact ⟨_, _, _, _, _, _, _, _, rfl, by rw [e1]; exact tj, by rw [e1]; exact hszj.mono (by omega)⟩
  · rintro σ L ⟨v2, v3, v4, v5, v6, v7, v8, v9, rfl, ⟨da, ra, pa, t⟩, _⟩
    rw [hxl, List.take_length] at t
    simpa only [and_self]
    exact q b da ra pa L t
end
theorem rising_pw : ∀ {l : List Str} {p : Str}, PyProof.Rows.risingS p l = true → (∀ y ∈ l, ¬ y.cps.toList < p.cps.toList) ∧ l.Pairwise fun a b => ¬ b.cps.toList < a.cps.toList
  | [], p, _ => ⟨fun y hy => (by cases hy), List.Pairwise.nil⟩
  | x :: r, p, h => by
    have h1 : (!PySem.Spec.ltCps x.cps.toList p.cps.toList && PyProof.Rows.risingS x r) = true := h
    rw [Bool.and_eq_true, PyProof.Rows.ltCps_eq] at h1
    obtain ⟨h2, h3⟩ := h1
    have h4 : ¬ x.cps.toList < p.cps.toList := by
      intro z
      rw [decide_eq_true z] at h2
      cases h2
    obtain ⟨i1, i2⟩ := rising_pw h3
    refine ⟨fun y hy => ?_, List.pairwise_cons.mpr ⟨i1, i2⟩⟩
    rcases List.mem_cons.mp hy with e | hy
    · rw [e]; exact h4
    · exact List.not_lt.mpr (List.le_trans (List.not_lt.mp h4) (List.not_lt.mp (i1 y hy)))
theorem sorted_pw {l : List Str} (h : PyProof.Rows.sortedS l = true) : l.Pairwise fun a b => ¬ b.cps.toList < a.cps.toList := by
  cases l with
  | nil => exact List.Pairwise.nil
  | cons x r =>
    obtain ⟨h1, h2⟩ := rising_pw (p := x) (l := r) h
    exact List.pairwise_cons.mpr ⟨h1, h2⟩
theorem sorted_one {l m k : List Str} (h : PyProof.Rows.sortedS l = true) (h' : PyProof.Rows.sortedS m = true) (p : l.Perm k) (p' : m.Perm k) : l = m := by
  refine List.Perm.eq_of_pairwise (fun a b _ _ h1 h2 => ?_) (sorted_pw h) (sorted_pw h') (p.trans p'.symm)
  have e : a.cps.toList = b.cps.toList := List.le_antisymm (List.not_lt.mp h1) (List.not_lt.mp h2)
  obtain ⟨as⟩ := a
  obtain ⟨bs⟩ := b
  exact congrArg Str.mk (Array.toList_inj.mp e)
theorem docT_sz {m : Int} : ∀ {d : List Fld} {n : Nat} {F : Fl}, (∀ y ∈ d, y.2.length ≤ 500) → Sz n F → Sz (n + 1000 * d.length) (docT m F d)
  | [], n, F, _, h => h
  | y :: d, n, F, hd, h => by
    have := docT_sz (m := m) (d := d) (fun z hz => hd z (List.mem_cons_of_mem _ hz)) (addS_sz (m := m) (f := y.1) h (wordsS_len (hd y List.mem_cons_self)))
    rw [List.length_cons]
    exact this.mono (by omega)
theorem tabT_sz : ∀ {ms : List Mk} {n : Nat} {F : Fl}, (∀ m ∈ ms, m.2.length ≤ 20 ∧ ∀ y ∈ m.2, y.1.length ≤ 1000 ∧ y.2.length ≤ 500 ∧ Asc y.2) → Sz n F → Sz (n + 20000 * ms.length) (tabT F ms)
  | [], n, F, _, h => h
  | m :: ms, n, F, hm, h => by
    have h1 := hm m List.mem_cons_self
    have := tabT_sz (ms := ms) (fun z hz => hm z (List.mem_cons_of_mem _ hz)) (docT_sz (m := m.1) (fun y hy => (h1.2 y hy).2.1) h)
    rw [List.length_cons]
    exact this.mono (by omega)
theorem tab_sz {ms : List Mk} (h : MkFit ms) : Sz 400000 (tabT [] ms) := (tabT_sz (F := []) (n := 0) h.2 ⟨Nat.zero_le _, fun x hx => (by cases hx)⟩).mono (by have := h.1; omega)
theorem plc_pl : ∀ {ws : List Str} {p : Pl Str} {i : Int} {n : Nat}, (∀ x ∈ p, x.2.length ≤ n) → ∀ x ∈ plc p i ws, x.2.length ≤ n + ws.length
  | [], p, i, n, h => h
  | w :: ws, p, i, n, h => fun x hx => by
    have := plc_pl (ws := ws) (i := i + 1) (add_len (w := w) (i := i) h) x hx
    rw [List.length_cons]
    omega
def AllR (S : Int × List Int → Prop) (D : Wt Str) : Prop := ∀ y ∈ D, ∀ q ∈ y.2, S q
theorem putAll_all {S : Int × List Int → Prop} {m : Int} : ∀ {p : Pl Str} {D : Wt Str}, (∀ x ∈ p, S (m, x.2)) → AllR S D → AllR S (putAll m D p)
  | [], D, _, h => h
  | x :: p, D, hp, h => putAll_all (p := p) (D := putW m D x) (fun z hz => hp z (List.mem_cons_of_mem _ hz)) fun y hy q hq => by
    rcases mod_mem hy with e | e
    · exact h y e q hq
    · subst e
      rcases List.mem_append.mp hq with hq | hq
      · cases eD : get D x.1 with
        | none => rw [eD] at hq; cases hq
        | some r => rw [eD] at hq; exact h _ (get_in eD) q hq
      · rw [List.mem_singleton.mp hq]; exact hp x List.mem_cons_self
theorem addS_all {S : Int × List Int → Prop} {m : Int} {F : Fl} {f : Str} {ws : List Str} (hp : ∀ x ∈ plc [] 0 ws, S (m, x.2)) (h : ∀ x ∈ F, AllR S x.2) : ∀ x ∈ addS m F f ws, AllR S x.2 := by
  unfold addS
  split
  · exact h
  · intro x hx
    rcases mod_mem hx with e | e
    · exact h x e
    · subst e
      refine putAll_all hp ?_
      cases eF : get F f with
      | none => intro y hy; cases hy
      | some D => exact h _ (get_in eF)
theorem docT_all {S : Int × List Int → Prop} {m : Int} : ∀ {d : List Fld} {F : Fl}, (∀ y ∈ d, ∀ x ∈ plc [] 0 (wordsS y.2), S (m, x.2)) → (∀ x ∈ F, AllR S x.2) → ∀ x ∈ docT m F d, AllR S x.2
  | [], F, _, h => h
  | y :: d, F, hp, h => docT_all (d := d) (F := addS m F y.1 (wordsS y.2)) (fun z hz => hp z (List.mem_cons_of_mem _ hz)) (addS_all (hp y List.mem_cons_self) h)
theorem tabT_all {S : Int × List Int → Prop} : ∀ {ms : List Mk} {F : Fl}, (∀ m ∈ ms, ∀ y ∈ m.2, ∀ x ∈ plc [] 0 (wordsS y.2), S (m.1, x.2)) → (∀ x ∈ F, AllR S x.2) → ∀ x ∈ tabT F ms, AllR S x.2
  | [], F, _, h => h
  | m :: ms, F, hp, h => tabT_all (ms := ms) (F := docT m.1 F m.2) (fun z hz => hp z (List.mem_cons_of_mem _ hz)) (docT_all (hp m List.mem_cons_self) h)
theorem sub_len : ∀ {ns l : List Int}, ns.Pairwise (· < ·) → (∀ n ∈ ns, n ∈ l) → ns.length ≤ l.length
  | [], l, _, _ => Nat.zero_le _
  | n :: ns, l, hp, hs => by
    rw [List.pairwise_cons] at hp
    have hn := hs n List.mem_cons_self
    have := sub_len (l := l.erase n) hp.2 fun k hk => (List.mem_erase_of_ne (by have := hp.1 k hk; omega)).mpr (hs k (List.mem_cons_of_mem _ hk))
    rw [List.length_erase_of_mem hn] at this
    have := List.length_pos_of_mem hn
    rw [List.length_cons]
    omega
structure RowOk (ms : List Mk) (r : Rw) : Prop where
  up : (r.map (·.1)).Pairwise (· < ·)
  few : r.length ≤ 20
  pl : ∀ q ∈ r, q.2.length ≤ 1000
theorem row_ok {ms : List Mk} (h : MkFit ms) (hm : mw (-1) ms) (fl wd : Str) : RowOk ms (rowOf ms fl wd) := by
  have hnil : RowOk ms [] := ⟨List.Pairwise.nil, Nat.zero_le _, fun q hq => (by cases hq)⟩
  unfold rowOf wdsOf
  cases e : get (tabT [] ms) fl with
  | none => exact hnil
  | some D =>
    rw [Option.getD_some]
    cases e2 : get D wd with
    | none => exact hnil
    | some r =>
      obtain ⟨M, hM⟩ := tabT_end (F := []) hm fun y hy => (by cases hy)
      have up : (r.map (·.1)).Pairwise (· < ·) := (hM _ (get_in e) _ (get_in e2)).1
      have al := tabT_all (S := fun q => q.1 ∈ ms.map (·.1) ∧ q.2.length ≤ 1000) (F := []) (ms := ms) (fun m hm y hy x hx => ⟨List.mem_map.mpr ⟨m, hm, rfl⟩, by
        have h1 := plc_pl (n := 0) (p := []) (fun x hx => (by cases hx)) x hx
        have h2 := wordsS_len ((h.2 m hm).2 y hy).2.1
        show x.2.length ≤ 1000
        omega⟩) (fun x hx => (by cases hx)) _ (get_in e) _ (get_in e2)
      refine ⟨up, ?_, fun q hq => (al q hq).2⟩
      have := sub_len up fun n hn => by
        obtain ⟨q, hq, rfl⟩ := List.mem_map.mp hn
        exact (al q hq).1
      rw [List.length_map, List.length_map] at this
      have := h.1
      exact Nat.le_trans (show r.length ≤ ms.length by assumption) this
theorem RlAt.at_ {h : Hp} : ∀ {kvs : List (Key × V)} {r : Rw} {i : Nat} {q : Int × List Int}, RlAt h kvs r → r[i]? = some q → ∃ l, valV kvs (.inl q.1) = some (.ref l) ∧ h l = some (.lst (q.2.map V.int))
  | kv :: r, x :: p, 0, q, ⟨⟨l, e, hl, n⟩, t⟩, hq => by
    simp at hq
    subst hq e
    exact ⟨l, valV_pos rfl, hl⟩
  | kv :: r, x :: p, i + 1, q, ⟨⟨l, e, hl, n⟩, t⟩, hq => by
    have hq' : p[i]? = some q := by simpa using hq
    have hx : ¬ x.1 = q.1 := fun z => by
      have := get_mem.mpr (List.mem_map.mpr ⟨q, List.mem_of_getElem? hq', rfl⟩)
      rw [← z, n] at this
      cases this
    subst e
    obtain ⟨l', h1, h2⟩ := t.at_ hq'
    exact ⟨l', by rw [valV_neg (fun e => hx (Sum.inl.inj e))]; exact h1, h2⟩
  | [], [], i, q, _, hq => by simp at hq
  | [], _ :: _, _, _, h, _ => h.elim
  | _ :: _, [], _, _, h, _ => h.elim
def RAt (L : Hp) (a : Addr) (r : Rw) : Prop := ∃ kvs, L a = some (.dK kvs) ∧ RlAt L kvs r
theorem RAt.same {L M : Hp} {a : Addr} {r : Rw} (h : RAt L a r) (s : Same L M) : RAt M a r := by
  obtain ⟨kvs, h1, h2⟩ := h
  exact ⟨kvs, s _ _ h1, h2.same s⟩
def WAt (L : Hp) (a : Addr) (D : Wt Str) : Prop := ∃ g : Str → Addr, L a = some (.dK (kvF g D)) ∧ ∀ w r, get D w = some r → RAt L (g w) r
theorem WAt.same {L M : Hp} {a : Addr} {D : Wt Str} (h : WAt L a D) (s : Same L M) : WAt M a D := by
  obtain ⟨g, h1, h2⟩ := h
  exact ⟨g, s _ _ h1, fun w r e => (h2 w r e).same s⟩
theorem WAt.nil {L : Hp} {a : Addr} (h : L a = some (.dK [])) : WAt L a [] := ⟨fun _ => 0, h, fun w r e => (by cases e)⟩
theorem TAt.wat {G L : Hp} {b : Addr} {da : Str → Addr} {ra : Str → Str → Addr} {pa : Pth} {F : Fl} (t : TAt Rl G L b da ra pa F) {f : Str} {D : Wt Str} (e : get F f = some D) : WAt L (da f) D :=
  ⟨ra f, (t.fld f D e).1, fun w r e2 => by
    obtain ⟨⟨o, h1, kvs, rfl, h2⟩, _⟩ := t.row f D w r e e2
    exact ⟨kvs, h1, h2.same fun a u h => (hid_to h).1⟩⟩
theorem doc_get {f : Str} : ∀ {d : List Fld}, valV (d.map fun x => ((.inr x.1 : Key), V.str x.2)) (.inr f) = (get d f).map V.str
  | [] => rfl
  | x :: d => by
    rw [List.map_cons]
    by_cases h : x.1 = f
    · rw [valV_pos (by rw [h]), KT.get, if_pos h]; rfl
    · rw [valV_neg (fun e => h (Sum.inr.inj e)), KT.get, if_neg h]; exact doc_get
theorem deps_strs (l : List Str) : deps (l.map DV.str) ≤ 0 := deps_le fun d hd => by
  obtain ⟨x, _, rfl⟩ := List.mem_map.mp hd
  simp [dep]
theorem dep_strs (l : List Str) : dep (.lst (l.map DV.str)) ≤ 60 := by rw [dep]; have := deps_strs l; omega
theorem dep_rows (r : Rw) : dep (.lst (r.map dvR)) ≤ 60 := by
  have : deps (r.map dvR) ≤ 2 := deps_le fun d hd => by
    obtain ⟨x, _, rfl⟩ := List.mem_map.mp hd
    rw [dvR, dep, deps, deps, deps, dep, deps_ints]
    simp [dep]
  rw [dep]
  omega
theorem strs_deep {H : Hp} : ∀ l : List Str, DeepTs H (l.map DV.str) (l.map V.str)
  | [] => DeepTs.nil
  | x :: l => by
    rw [List.map_cons, List.map_cons, DeepTs]
    exact ⟨_, _, rfl, by rw [DeepT], strs_deep l⟩
theorem lst_deep {H : Hp} {a : Addr} {ds : List DV} {xs : List V} (h : H a = some (.lst xs)) (d : DeepTs H ds xs) : DeepT H (.lst ds) (.ref a) := by
  rw [DeepT]
  exact ⟨a, xs, rfl, h, d⟩
def spTel (C : Addr) : Sp := fun vs H Q _ => ∃ (x a : Addr) (ms : List Mk) (xs : List V), vs = [.ref x, .ref a] ∧ PcAt C H x ms ∧ H a = some (.lst xs) ∧ DeepTs H (ms.map dvM) xs ∧ MkFit ms ∧ mw (-1) ms ∧ ∀ H', Same H H' → Q (.bl true) H'
theorem ty_dk {K : PySem.W.Frag} {H : Hp} {p : Addr} {kvs : List (Key × V)} (h : H p = some (.dK kvs)) : tyV K "dict" (.ref p) H := .inr (.inr (.inl ⟨rfl, .inl ⟨_, h⟩⟩))
theorem PcAt.ins {C x : Addr} {M : Hp} {ms : List Mk} (h : PcAt C M x ms) : ∃ dx fs, M x = some (.ins C dx fs) ∧ fs.lookup ("fields" : Str) = none ∧ fs.lookup ("words" : Str) = none ∧ fs.lookup ("postings" : Str) = none ∧ fs.lookup ("length" : Str) = none ∧ fs.lookup ("makes" : Str) = none := by
  obtain ⟨dx, om, B, N, da, ra, pa, h1, _⟩ := h
  exact ⟨dx, _, h1, rfl, rfl, rfl, rfl, rfl⟩
theorem app_nothing (ys : List Str) : ys.map V.str ++ [V.str "nothing"] = (ys ++ [("nothing" : Str)]).map V.str := by rw [List.map_append]; rfl
section
variable {P : Program} {w : World} {K : PySem.W.Frag} {mg : Str → Option Value} {base : Heap} {f : Addr} {fd : FuncData}
theorem scTel : FnScope ["_law_thing", "_law_makes_here", "_law_table_here", "_law_field", "_law_words_here", "_law_word", "_law_rows", "_law_told", "_law_make", "_law_places", "_law_document_here"] ["_law_thing", "_law_makes_here"] (defScope sTel) := ⟨rfl, rfl, rfl, by decide +kernel, rfl, by decide +kernel, by decide +kernel⟩
def invTF (H1 : Hp) (x a b : Addr) (_ : Nat) (σ : St) (L : Hp) : Prop := ∃ v3 v4 v5 v6 v7 v8 v9 v10 : Option V, σ = [some (.ref x), some (.ref a), some (.ref b), v3, v4, v5, v6, v7, v8, v9, v10] ∧ Same H1 L
def invTW (H1 : Hp) (x a b wh : Addr) (fl : Str) (_ : Nat) (σ : St) (L : Hp) : Prop := ∃ v5 v6 v7 v8 v9 v10 : Option V, σ = [some (.ref x), some (.ref a), some (.ref b), some (.str fl), some (.ref wh), v5, v6, v7, v8, v9, v10] ∧ Same H1 L
def invTT (H1 : Hp) (x a b wh : Addr) (fl : Str) (v5 v6 v7 : Option V) (_ : Nat) (σ : St) (L : Hp) : Prop := ∃ v8 v9 v10 : Option V, σ = [some (.ref x), some (.ref a), some (.ref b), some (.str fl), some (.ref wh), v5, v6, v7, v8, v9, v10] ∧ Same H1 L
def invTR (H1 : Hp) (rh : Addr) (r : Rw) (i : Nat) (ys : List V) (σ : St) (L : Hp) : Prop := ∃ v0 : Option V, σ = [v0, some (.ref rh)] ∧ Same H1 L ∧ DeepTs L ((r.take i).map dvR) ys
def invT0 (H1 : Hp) (_ : Nat) (ys : List V) (σ : St) (L : Hp) : Prop := ∃ v0 : Option V, σ = [v0] ∧ Same H1 L ∧ ys = []
theorem ok_tel {C gf gw gp gl gt gx : Addr} {df dw' dp dl dt dx' : FuncData} (F : Fun K "_law_tells" "_law_tells" sTel f fd) (T : Txt mg) (cl : Cls K C)
    (mPF : Meth K C "fields" gf) (GPF : FnOk P w K mg base CX0 1 gf df ["self"] (spPF C)) (bPF : Binds K df ["self"] [])
    (mPW : Meth K C "words" gw) (GPW : FnOk P w K mg base CX0 1 gw dw' ["self", "field"] (spPW C)) (bPW : Binds K dw' ["self", "field"] [])
    (mPP : Meth K C "postings" gp) (GPP : FnOk P w K mg base CX0 1 gp dp ["self", "field", "word"] (spPP C)) (bPP : Binds K dp ["self", "field", "word"] [])
    (mPL : Meth K C "length" gl) (GPL : FnOk P w K mg base CX0 1 gl dl ["self", "make", "field"] (spPL C)) (bPL : Binds K dl ["self", "make", "field"] [])
    (GTa : FnOk P w K mg base CX0 2 gt dt ["_law_makes_here"] spTab) (bTa : Binds K dt ["_law_makes_here"] []) (kTa : PySem.W.keepIn K (.ref gt) = true) (mTa : mg "_law_table" = some (.ref gt))
    (GLW : FnOk P w K mg base CX0 1 gx dx' ["_law_text_here"] spBare) (bLW : Binds K dx' ["_law_text_here"] []) (kLW : PySem.W.keepIn K (.ref gx) = true) (mLW : mg "_law_words" = some (.ref gx)) : FnOk P w K mg base CX0 3 f fd ["_law_thing", "_law_makes_here"] (spTel C) := by
  refine F.ok scTel (fun vs H Q E h => ?_) (fun cdv A outer s H vs Q E hr h => ?_)
  · obtain ⟨x, a, ms, xs, rfl, _⟩ := h
    rfl
  obtain ⟨x, a, ms, xs, rfl, hpc, ha, hD, hfit, hmw, q⟩ := h
  have hr1 : Room 1 _ := hr.mono (by decide)
  have szl := sizeLine_eq
  have hsz := tab_sz hfit
  refine ⟨_, (pss_cons (ps_set (i := 2) scTel.nd rfl (Or.inl rfl) (pe_call GTa hr rfl mTa kTa bTa .nil pass0 (pa_cons (pv 1) pa_nil)))
    (pss_cons (ps_if (pt_cmpR (op_neDK K hr1) (pe_meth0 (pv 0) cl mPF GPF hr1 bPF .nil pass0) (pe_callB (call_sortedKM) rfl T.sorted (by decide +kernel) (pa_cons (bm0K K PySem.F.plainAttrs_dict PySem.F.slot_dict_keys PySem.F.type_dict_keys mt_keys (pv 2)) pa_nil)) (nomark _)) (pss_one (ps_ret pe_bl)) pss_nil)
    (pss_cons (ps_for PassesOwn.never rfl (pi_listK K (pe_op op_cat (pe_callB (call_sortedKM) rfl T.sorted (by decide +kernel) (pa_cons (bm0K K PySem.F.plainAttrs_dict PySem.F.slot_dict_keys PySem.F.type_dict_keys mt_keys (pv 2)) pa_nil)) (pe_lst (pa_cons pe_str pa_nil)))) (pg_name (i := 3) scTel.nd rfl (Or.inl rfl))
      (pss_cons (ps_set (i := 4) scTel.nd rfl (Or.inl rfl) (pe_dget2 (hu_of hr) (pv 2) (pv 3) pe_dnewK ⟨rfl, rfl, rfl, rfl⟩))
    (pss_cons (ps_if (pt_cmpR (op_neDK K hr1) (pe_meth (pv 0) cl mPW GPW hr1 bPW .nil pass0 (pa_cons (pv 3) pa_nil)) (pe_callB (call_sortedKM) rfl T.sorted (by decide +kernel) (pa_cons (bm0K K PySem.F.plainAttrs_dict PySem.F.slot_dict_keys PySem.F.type_dict_keys mt_keys (pv 4)) pa_nil)) (nomark _)) (pss_one (ps_ret pe_bl)) pss_nil)
    (pss_cons (ps_for PassesOwn.never rfl (pi_listK K (pe_op op_cat (pe_callB (call_sortedKM) rfl T.sorted (by decide +kernel) (pa_cons (bm0K K PySem.F.plainAttrs_dict PySem.F.slot_dict_keys PySem.F.type_dict_keys mt_keys (pv 4)) pa_nil)) (pe_lst (pa_cons pe_str pa_nil)))) (pg_name (i := 5) scTel.nd rfl (Or.inl rfl))
      (pss_cons (ps_set (i := 6) scTel.nd rfl (Or.inr rfl) (pe_dget2 (hu_of hr) (pv 4) (pv 5) pe_dnewK ⟨rfl, rfl, rfl, rfl⟩))
    (pss_cons (ps_set (i := 7) scTel.nd rfl (Or.inl rfl) (pe_meth (pv 0) cl mPP GPP hr1 bPP .nil pass0 (pa_cons (pv 3) (pa_cons (pv 5) pa_nil))))
    (pss_cons (ps_if (pt_cmpR (op_neDK K hr1) (pv 7) (pe_comp (N := ["_law_make", "_law_rows"]) (pick := [none, some 6]) (NX := ["_law_thing", "_law_makes_here", "_law_table_here", "_law_field", "_law_words_here", "_law_word", "_law_rows", "_law_told", "_law_make", "_law_places", "_law_document_here"]) (sX := defScope sTel) (by decide +kernel) rfl rfl rfl (pi_listK K (pe_callB (call_sortedKI) rfl T.sorted (by decide +kernel) (pa_cons (bm0K K PySem.F.plainAttrs_dict PySem.F.slot_dict_keys PySem.F.type_dict_keys mt_keys (pv 6)) pa_nil)))
        (fun _ _ _ _ => (pg_name (i := 0) (by decide +kernel : (["_law_make", "_law_rows"] : List Str).Nodup) rfl (Or.inl rfl))) (fun _ _ _ _ => pifs_nil) (fun _ _ _ _ => (pe_tup (pa_cons (pv 0) (pa_cons (pe_dget (hu_of hr) (pv 1) (pv 0) (fun _ _ => rfl)) pa_nil))))) (nomark _)) (pss_one (ps_ret pe_bl)) pss_nil)
    (pss_one (ps_for PassesOwn.never rfl (pi_listK K (pv 7)) (pgT K (n := 2) rfl (pgs_cons (pg_name (i := 8) scTel.nd rfl (Or.inl rfl)) (pgs_cons (pg_name (i := 9) scTel.nd rfl (Or.inl rfl)) pgs_nil)))
      (pss_one (ps_if (pt_cmpR (op_neE K hr1) (pe_comp (N := ["_law_one"]) (pick := [none]) (NX := ["_law_thing", "_law_makes_here", "_law_table_here", "_law_field", "_law_words_here", "_law_word", "_law_rows", "_law_told", "_law_make", "_law_places", "_law_document_here"]) (sX := defScope sTel) (by decide +kernel) rfl rfl rfl (pi_listK K (pe_op op_cat (pe_lst (pa_cons (pv 8) pa_nil)) (pv 9)))
        (fun _ _ _ _ => (pg_name (i := 0) (by decide +kernel : (["_law_one"] : List Str).Nodup) rfl (Or.inl rfl))) (fun _ _ _ _ => (pifs_one (pt_val (pe_callB (call_isi K) rfl T.isinstance (by decide +kernel) (pa_cons (pv 0) (pa_cons (pe_bltn (v := .ty "bool") rfl T.bool (by decide +kernel) rfl) pa_nil)))))) (fun _ _ _ _ => (pv 0))) (pe_lst pa_nil) (nomark _)) (pss_one (ps_ret pe_bl)) pss_nil))))))))
    (pss_one (ps_for PassesOwn.never rfl (pi_listK K (pv 1)) (pgT K (n := 2) rfl (pgs_cons (pg_name (i := 8) scTel.nd rfl (Or.inl rfl)) (pgs_cons (pg_name (i := 10) scTel.nd rfl (Or.inl rfl)) pgs_nil)))
      (pss_one (ps_if (pt_cmpR op_ne (pe_meth (pv 0) cl mPL GPL hr1 bPL .nil pass0 (pa_cons (pv 8) (pa_cons (pv 3) pa_nil))) (pe_callB (lenK K) rfl T.len PySem.boot_len (pa_cons (pe_call GLW hr1 rfl mLW kLW bLW .nil pass0 (pa_cons (pe_dget2 (hu_of hr) (pe_callTy (call_dictP K) rfl T.dict (by decide +kernel) (pa_cons (pv 10) pa_nil)) (pv 3) pe_str ⟨rfl, rfl, rfl, rfl⟩) pa_nil)) pa_nil)) (nomark _)) (pss_one (ps_ret pe_bl)) pss_nil))))))))
    (pss_one (ps_ret pe_bl))))), ?_⟩
  simpa only [spTab, spPF, tDNewK, tDGet2, rCat, rKeys, tMeth]
  refine ⟨ms, xs, ha, hD, hfit, hmw, fun b da ra pa H1 t1 => ?_⟩
  obtain ⟨dx, fs, hx, lk1, lk2, lk3, lk4, lk5⟩ := hpc.ins
  have s1 := t1.base
  refine ⟨dx, fs, s1 _ _ hx, lk1, ms, hpc.same s1, Nat.le_trans hsz.1 (by decide), fun r1 ys1 H2 s2 hr1' p1 o1 hv1 => ?_⟩
  have t2 := t1.same Rl_m s2
  refine ⟨ty_dk t2.top.1, _, t2.top.1, fun r2 hr2 => ?_⟩
  have s3 := same_new hr2 (KVo r2 b)
  refine ⟨b, upd_same, _, s3 _ _ t2.top.1, _, kv_keys', (by rw [List.length_map]; exact Nat.le_trans hsz.1 (by decide)), fun r3 ys3 hr3 p3 o3 => ?_⟩
  have e3 : ys1 = ys3 := sorted_one o1 o3 p1 p3
  subst e3
  have s4 := s3.trans (same_new hr3 (.lst (ys1.map V.str)))
  refine ⟨_, dep_strs ys1, DeepT.deep _ _ (lst_deep (s4 _ _ hv1) (strs_deep ys1)), DeepT.deep _ _ (lst_deep upd_same (strs_deep ys1)), ?_⟩
  have s14 := s2.trans s4
  generalize upd (upd H2 r2 (KVo r2 b)) r3 (.lst (ys1.map V.str)) = H3 at s14 ⊢
  have t3 := t1.same Rl_m s14
  refine ⟨ty_dk t3.top.1, _, t3.top.1, fun r4 hr4 => ?_⟩
  have s5 := same_new hr4 (KVo r4 b)
  refine ⟨b, upd_same, _, s5 _ _ t3.top.1, _, kv_keys', (by rw [List.length_map]; exact Nat.le_trans hsz.1 (by decide)), fun r5 ys hr5 p5 o5 => ⟨(by decide), fun p6 hp6 => ?_⟩⟩
  have hyl : ys.length ≤ 400000 := by have := p5.length_eq; rw [List.length_map] at this; have := hsz.1; omega
  have s6 := (s5.trans (same_new hr5 (.lst (ys.map V.str)))).trans (same_new hp6 (.lst [V.str "nothing"]))
  refine ⟨_, upd_at upd_same hp6, _, upd_same, (by rw [List.length_map, List.length_singleton]; omega), fun p7 hp7 => ?_⟩
  rw [app_nothing]
  generalize ys ++ [("nothing" : Str)] = ks
  have s7 := s14.trans (s6.trans (same_new hp7 (.lst (ks.map V.str))))
  have hk7 : (upd (upd (upd (upd H3 r4 (KVo r4 b)) r5 (.lst (ys.map V.str))) p6 (.lst [V.str "nothing"])) p7 (.lst (ks.map V.str))) p7 = _ := upd_same
  generalize upd (upd (upd (upd H3 r4 (KVo r4 b)) r5 (.lst (ys.map V.str))) p6 (.lst [V.str "nothing"])) p7 (.lst (ks.map V.str)) = H4 at s7 hk7 ⊢
  refine ⟨⟨_, SqL.of hk7⟩, forW_list (ks.map V.str) (invTF H4 x a b) ⟨_, _, _, _, _, _, _, _, rfl, Same.refl _⟩ ?_ ?_ ?_⟩
  · rintro i σ L hi ⟨v3, v4, v5, v6, v7, v8, v9, v10, rfl, sL⟩
    exact SqL.of (sL _ _ hk7)
  · rintro i y σ L hy ⟨v3, v4, v5, v6, v7, v8, v9, v10, rfl, sL⟩
    rw [List.getElem?_map] at hy
    obtain ⟨fl, _, rfl⟩ := Option.map_eq_some_iff.mp hy
    have tL := t1.same Rl_m (s7.trans sL)
    simpa only [spPW, tDNewK, tDGet2, rCat, rKeys, tMeth]
    refine ⟨.inl ⟨_, .inl tL.top.1⟩, fun p hp => ?_⟩
    have sp := same_new hp (.dK [])
    refine ⟨_, DGet.k (k := .inr fl) (sp _ _ tL.top.1), ?_⟩
    rw [kv_get]
    obtain ⟨wh, ew, hw⟩ : ∃ wh, ((get (tabT [] ms) fl).map fun _ => V.ref (da fl)).getD (.ref p) = .ref wh ∧ WAt (upd L p (.dK [])) wh (wdsOf ms fl) := by
      unfold wdsOf
      cases e : get (tabT [] ms) fl with
      | none => exact ⟨p, rfl, WAt.nil upd_same⟩
      | some D => exact ⟨da fl, rfl, (tL.wat e).same sp⟩
    rw [ew]
    have sM := sL.trans sp
    generalize upd L p (.dK []) = M at sM hw ⊢
    have hzw : (wdsOf ms fl).length ≤ 400000 := (hsz.at_ (f := fl)).1
    have sHM := s1.trans (s7.trans sM)
    refine ⟨dx, fs, sHM _ _ hx, lk2, ms, hpc.same sHM, by omega, fun r1 ys1 M2 s2 hr1' p1 o1 hv1 => ?_⟩
    obtain ⟨g, hw1, hw2⟩ := hw
    refine ⟨ty_dk (s2 _ _ hw1), _, rfl, _, s2 _ _ hw1, fun r2 hr2 => ?_⟩
    have s3 := same_new hr2 (KVo r2 wh)
    refine ⟨wh, upd_same, _, s3 _ _ (s2 _ _ hw1), _, kv_keys', (by rw [List.length_map]; omega), fun r3 ys3 hr3 p3 o3 => ?_⟩
    have e3 : ys1 = ys3 := sorted_one o1 o3 p1 p3
    subst e3
    have s4 := s3.trans (same_new hr3 (.lst (ys1.map V.str)))
    refine ⟨_, dep_strs ys1, DeepT.deep _ _ (lst_deep (s4 _ _ hv1) (strs_deep ys1)), DeepT.deep _ _ (lst_deep upd_same (strs_deep ys1)), ?_⟩
    have s14 := s2.trans s4
    generalize upd (upd M2 r2 (KVo r2 wh)) r3 (.lst (ys1.map V.str)) = M3 at s14 ⊢
    refine ⟨ty_dk (s14 _ _ hw1), _, rfl, _, s14 _ _ hw1, fun r4 hr4 => ?_⟩
    have s5 := same_new hr4 (KVo r4 wh)
    refine ⟨wh, upd_same, _, s5 _ _ (s14 _ _ hw1), _, kv_keys', (by rw [List.length_map]; omega), fun r5 ys hr5 p5 o5 => ⟨(by decide), fun p6 hp6 => ?_⟩⟩
    have hyl : ys.length ≤ 400000 := by have := p5.length_eq; rw [List.length_map] at this; omega
    have s6 := (s5.trans (same_new hr5 (.lst (ys.map V.str)))).trans (same_new hp6 (.lst [V.str "nothing"]))
    refine ⟨_, upd_at upd_same hp6, _, upd_same, (by rw [List.length_map, List.length_singleton]; omega), fun p7 hp7 => ?_⟩
    rw [app_nothing]
    generalize ys ++ [("nothing" : Str)] = wks
    have s8 := s14.trans (s6.trans (same_new hp7 (.lst (wks.map V.str))))
    have hk8 : (upd (upd (upd (upd M3 r4 (KVo r4 wh)) r5 (.lst (ys.map V.str))) p6 (.lst [V.str "nothing"])) p7 (.lst (wks.map V.str))) p7 = _ := upd_same
    generalize upd (upd (upd (upd M3 r4 (KVo r4 wh)) r5 (.lst (ys.map V.str))) p6 (.lst [V.str "nothing"])) p7 (.lst (wks.map V.str)) = M4 at s8 hk8 ⊢
    have s84 := sM.trans s8
    have hH4 := s1.trans (s7.trans s84)
    refine ⟨⟨_, SqL.of hk8⟩, forW_list (wks.map V.str) (invTW M4 x a b wh fl) ⟨_, _, _, _, _, _, rfl, Same.refl _⟩ ?_ ?_ ?_⟩
    · rintro i σ L hi ⟨v5, v6, v7, v8, v9, v10, rfl, sL⟩
      exact SqL.of (sL _ _ hk8)
    · rintro i y σ L hy ⟨v5, v6, v7, v8, v9, v10, rfl, sL⟩
      rw [List.getElem?_map] at hy
      obtain ⟨wd, _, rfl⟩ := Option.map_eq_some_iff.mp hy
      simpa only [spPP, tDNewK, tDGet2, rCat, rKeys, tMeth]
      have hwL := sL _ _ (s8 _ _ hw1)
      refine ⟨.inl ⟨_, .inl hwL⟩, fun p hp => ?_⟩
      have sp := same_new hp (.dK [])
      refine ⟨_, DGet.k (k := .inr wd) (sp _ _ hwL), ?_⟩
      rw [kv_get]
      obtain ⟨rh, er, hrh⟩ : ∃ rh, ((get (wdsOf ms fl) wd).map fun _ => V.ref (g wd)).getD (.ref p) = .ref rh ∧ RAt (upd L p (.dK [])) rh (rowOf ms fl wd) := by
        unfold rowOf
        cases e : get (wdsOf ms fl) wd with
        | none => exact ⟨p, rfl, [], upd_same, trivial⟩
        | some r => exact ⟨g wd, rfl, (hw2 wd r e).same ((s8.trans sL).trans sp)⟩
      rw [er]
      have sN := sL.trans sp
      have hro := row_ok hfit hmw fl wd
      generalize upd L p (.dK []) = N at sN hrh ⊢
      have sHN := hH4.trans sN
      refine ⟨dx, fs, sHN _ _ hx, lk3, ms, hpc.same sHN, (by have := hro.few; omega), fun told txs N2 s2' hto hvt hdt => ?_⟩
      have hdt2 : DeepTs N2 ((rowOf ms fl wd).map dvR) txs := DeepTs.same (fun a u h => nw_same _ _ (hide_same _ _ _ _ h)) _ _ hdt
      obtain ⟨kvs, hk1, hk2⟩ := hrh.same s2'
      have sN2 := sN.trans s2'
      generalize rowOf ms fl wd = row at hro hdt2 hk2
      refine ⟨ty_dk hk1, _, rfl, _, hk1, fun r6 hr6 => ?_⟩
      have s9 := same_new hr6 (KVo r6 rh)
      refine ⟨rh, upd_same, _, s9 _ _ hk1, row.map (·.1), hk2.keys, (by rw [List.length_map]; have := hro.few; omega), hro.up, fun r7 hr7 => ?_⟩
      have s10 := s9.trans (same_new hr7 (.lst ((row.map (·.1)).map V.int)))
      have hr7' : (upd (upd N2 r6 (KVo r6 rh)) r7 (.lst ((row.map (·.1)).map V.int))) r7 = _ := upd_same
      generalize upd (upd N2 r6 (KVo r6 rh)) r7 (.lst ((row.map (·.1)).map V.int)) = N3 at s10 hr7' ⊢
      have hnl : ((row.map (·.1)).map V.int).length = row.length := by rw [List.length_map, List.length_map]
      refine ⟨⟨_, SqL.of hr7'⟩, compW_list ((row.map (·.1)).map V.int) (invTR N3 rh row) ⟨none, rfl, Same.refl _, DeepTs.nil⟩ ?_ ?_ ?_⟩
      · rintro j zs σ L hj ⟨v0, rfl, sL, hz⟩
        refine ⟨SqL.of (sL _ _ hr7'), ?_⟩
        have := hz.length
        rw [List.length_map, List.length_take] at this
        have := hro.few
        omega
      · rintro j z zs σ L hz ⟨v0, rfl, sL, hzs⟩
        rw [List.getElem?_map, List.getElem?_map] at hz
        obtain ⟨n, hn, rfl⟩ := Option.map_eq_some_iff.mp hz
        obtain ⟨qq, hq, rfl⟩ := Option.map_eq_some_iff.mp hn
        simpa only [tDGet]
        obtain ⟨l, hl1, hl2⟩ := hk2.at_ hq
        have sNL := s10.trans sL
        refine ⟨_, .inl ⟨_, .inl qq.1, .inl (sNL _ _ hk1), rfl, hl1.symm⟩, (by decide), fun p8 hp8 => ⟨_, rfl, sL.trans (same_new hp8 _), ?_⟩⟩
        rw [List.take_add_one, hq, List.map_append]
        exact (DeepTs.same (same_new hp8 _) _ _ hzs).app (DeepTs.one (dvR_of (m := qq.1) (ps := qq.2) upd_same (upd_at (sNL _ _ hl2) hp8)))
      · rintro zs σ L ⟨v0, rfl, sL, hzs⟩ p9 hp9
        rw [hnl, List.take_length] at hzs
        have s11 := (s10.trans sL).trans (same_new hp9 (.lst zs))
        refine ⟨_, dep_rows row, DeepT.deep _ _ (lst_deep (s11 _ _ hvt) (DeepTs.same s11 _ _ hdt2)), DeepT.deep _ _ (lst_deep upd_same (DeepTs.same (same_new hp9 _) _ _ hzs)), ?_⟩
        generalize upd L p9 (.lst zs) = N4 at s11 ⊢
        refine ⟨⟨_, SqL.of (s11 _ _ hvt)⟩, forW_list txs (invTT N4 x a b wh fl _ _ _) ⟨_, _, _, rfl, Same.refl _⟩ ?_ ?_ ?_⟩
        · rintro j σ L hj ⟨v8, v9, v10, rfl, sL⟩
          exact SqL.of (sL _ _ (s11 _ _ hvt))
        · rintro j y σ L hy ⟨v8, v9, v10, rfl, sL⟩
          obtain ⟨dv, g1, g2⟩ := hdt2.get hy
          rw [List.getElem?_map] at g1
          obtain ⟨qq, hq, rfl⟩ := Option.map_eq_some_iff.mp g1
          obtain ⟨ta, tb, rfl, hta, htb⟩ := dvR_at g2
          have sNL := s11.trans sL
          have hpl := hro.pl qq (List.mem_of_getElem? hq)
          simpa only [rCat]
          refine ⟨_, SqT.of (sNL _ _ hta), rfl, ?_⟩
          simpa only [rCat]
          refine ⟨(by decide), fun p10 hp10 => ?_⟩
          have s12 := same_new hp10 (.lst [V.int qq.1])
          refine ⟨_, upd_same, _, s12 _ _ (sNL _ _ htb), (by rw [List.length_map, List.length_singleton]; omega), fun p11 hp11 => ?_⟩
          have e11 : [V.int qq.1] ++ qq.2.map V.int = (qq.1 :: qq.2).map V.int := rfl
          rw [e11]
          have s13 := s12.trans (same_new hp11 (.lst ((qq.1 :: qq.2).map V.int)))
          have h11 : (upd (upd L p10 (.lst [V.int qq.1])) p11 (.lst ((qq.1 :: qq.2).map V.int))) p11 = _ := upd_same
          generalize upd (upd L p10 (.lst [V.int qq.1])) p11 (.lst ((qq.1 :: qq.2).map V.int)) = N5 at s13 h11 ⊢
          refine ⟨⟨_, SqL.of h11⟩, compW_list ((qq.1 :: qq.2).map V.int) (invT0 N5) ⟨none, rfl, Same.refl _, rfl⟩ ?_ ?_ ?_⟩
          · rintro j zs σ L hj ⟨v0, rfl, sL, rfl⟩
            exact ⟨SqL.of (sL _ _ h11), Nat.zero_le _⟩
          · rintro j z zs σ L hz ⟨v0, rfl, sL, rfl⟩
            rw [List.getElem?_map] at hz
            obtain ⟨n, hn, rfl⟩ := Option.map_eq_some_iff.mp hz
            simpa only [V.ty.injEq]
            exact ⟨_, .int n, false, rfl, iteF ⟨_, rfl, sL, rfl⟩⟩
          · rintro zs σ L5 ⟨v0, rfl, sL5, rfl⟩ p12 hp12
            simpa only [and_self]
            exact ⟨Nat.zero_le _, fun p13 hp13 => ⟨_, SqL.of (upd_at upd_same hp13), SqL.of upd_same, iteF ⟨_, _, _, rfl, ((sL.trans s13).trans sL5).trans ((same_new hp12 _).trans (same_new hp13 _))⟩⟩⟩
        · rintro σ L ⟨v8, v9, v10, rfl, sL⟩
          exact ⟨_, _, _, _, _, _, rfl, (sN2.trans s11).trans sL⟩
    · rintro σ L ⟨v5, v6, v7, v8, v9, v10, rfl, sL⟩
      simpa only [and_self]
      have sHL := hH4.trans sL
      refine ⟨⟨xs, SqL.of (sHL _ _ ha)⟩, forW_list xs (invTT L x a b wh fl v5 v6 v7) ⟨_, _, _, rfl, Same.refl _⟩ ?_ ?_ ?_⟩
      · rintro j σ L6 hj ⟨v8, v9, v10, rfl, sL6⟩
        exact SqL.of (sL6 _ _ (sHL _ _ ha))
      · rintro j y σ L6 hy ⟨v8, v9, v10, rfl, sL6⟩
        obtain ⟨dv, g1, g2⟩ := hD.get hy
        rw [List.getElem?_map] at g1
        obtain ⟨m, hm, rfl⟩ := Option.map_eq_some_iff.mp g1
        obtain ⟨b', c, zs, rfl, hb', hc, hz⟩ := dvM_at g2
        have hmm : m ∈ ms := List.mem_of_getElem? hm
        have nd := (dw_rises (mw_at hmw hm).2.1).2
        have sH6 := sHL.trans sL6
        have hzl : zs.length = m.2.length := by have := hz.length; rwa [List.length_map] at this
        have hm20 := (hfit.2 m hmm).1
        simpa only [and_self]
        refine ⟨_, SqT.of (sH6 _ _ hb'), rfl, ?_⟩
        simpa only [spPL, spBare, tDGet2, tMeth, rNe]
        refine ⟨dx, fs, sH6 _ _ hx, lk4, ms, hpc.same sH6, fun L7 sL7 => ?_⟩
        have sH7 := sH6.trans sL7
        rw [lenT_eq (x := m) (f := fl) (T := []) (mw_rises hmw).2 nd hmm rfl]
        refine ⟨zs, SqL.of (sH7 _ _ hc), m.2, hzl, by omega, nd, fun i y hy => ?_, fun r8 hr8 => ?_⟩
        · obtain ⟨dv, g1, g2⟩ := hz.get hy
          rw [List.getElem?_map] at g1
          obtain ⟨fx, hfx, rfl⟩ := Option.map_eq_some_iff.mp g1
          obtain ⟨t, rfl, ht⟩ := dvF_at g2
          exact ⟨t, rfl, fx, hfx, sH7 _ _ ht⟩
        · have s9 := same_new hr8 (.dK (m.2.map fun x => ((.inr x.1 : Key), V.str x.2)))
          refine ⟨.inl ⟨_, .inl upd_same⟩, _, DGet.k (k := .inr fl) upd_same, ?_⟩
          rw [doc_get]
          obtain ⟨z, hz1, hz2, hz3, hz4⟩ : ∃ z, ((get m.2 fl).map V.str).getD (V.str "") = V.str z ∧ z.length ≤ 500 ∧ Asc z ∧ dlen m.2 fl = (wordsS z).length := by
            unfold dlen
            cases e : get m.2 fl with
            | none => exact ⟨"", rfl, by decide, fun c hc => (by cases hc), rfl⟩
            | some z =>
              have := (hfit.2 m hmm).2 _ (get_in e)
              exact ⟨z, rfl, this.2.1, this.2.2, rfl⟩
          refine ⟨z, hz1, hz2, hz3, fun r9 L9 s9' _ hr9 => ⟨_, .inl (SqL.of hr9), rfl, ?_⟩⟩
          rw [hz4, List.length_map, if_neg (by rw [decide_eq_true rfl]; decide)]
          exact ⟨_, _, _, rfl, ((sL6.trans sL7).trans s9).trans s9'⟩
      · rintro σ L6 ⟨v8, v9, v10, rfl, sL6⟩
        exact ⟨_, _, _, _, _, _, _, _, rfl, (s84.trans sL).trans sL6⟩
  · rintro σ L ⟨v3, v4, v5, v6, v7, v8, v9, v10, rfl, sL⟩
    simpa only [and_self]
    exact q _ (s1.trans (s7.trans sL))
end
def spSpo (C : Addr) : Sp := fun vs H Q _ => ∃ (x a : Addr) (ms : List Mk), vs = [.ref x, .ref a] ∧ PcAt C H x ms ∧ MkFit ms ∧ mw (-1) ms ∧ ∀ H', Same H H' → Q .non H'
def TL (N : Hp) (told : Addr) (txs : List V) (n : Nat) (L : Hp) : Prop := Same N L ∧ L told = some (.lst txs) ∧ ∀ v ∈ txs, ∃ (a b : Addr) (m : Int) (ps : List V), v = .ref a ∧ L a = some (.tup [.int m, .ref b]) ∧ N b = none ∧ b ≠ told ∧ L b = some (.lst ps) ∧ ps.length ≤ n
theorem TL.step {N L : Hp} {told b : Addr} {txs ps : List V} {n : Nat} (h : TL N told txs n L) (hN : N b = none) (ht : b ≠ told) (hb : L b = some (.lst ps)) (hl : ps.length ≤ n) (v : V) : TL N told txs (n + 1) (upd L b (.lst (ps ++ [v]))) := by
  refine ⟨h.1.newer hN _, by rw [upd_ne ht.symm]; exact h.2.1, fun w hw => ?_⟩
  obtain ⟨a', b', m, ps', rfl, h1, h2, h3, h4, h5⟩ := h.2.2 w hw
  have hab : a' ≠ b := ne_of h1 hb (by intro z; cases z)
  by_cases e : b' = b
  · exact ⟨a', b', m, ps ++ [v], rfl, by rw [upd_ne hab]; exact h1, h2, h3, by rw [e, upd_same], by rw [List.length_append, List.length_singleton]; omega⟩
  · exact ⟨a', b', m, ps', rfl, by rw [upd_ne hab]; exact h1, h2, h3, by rw [upd_ne e]; exact h4, by omega⟩
section
variable {P : Program} {w : World} {K : PySem.W.Frag} {mg : Str → Option Value} {base : Heap} {f : Addr} {fd : FuncData}
theorem scSpo : FnScope ["_law_piece", "_law_makes_here", "_law_field", "_law_word", "_law_told", "_law_make", "_law_places"] ["_law_piece", "_law_makes_here"] (defScope sSpo) := ⟨rfl, rfl, rfl, by decide +kernel, rfl, by decide +kernel, by decide +kernel⟩
def invSF (H1 : Hp) (x a : Addr) (_ : Nat) (σ : St) (L : Hp) : Prop := ∃ v2 v3 v4 v5 v6 : Option V, σ = [some (.ref x), some (.ref a), v2, v3, v4, v5, v6] ∧ Same H1 L
def invSW (H1 : Hp) (x a : Addr) (fl : Str) (_ : Nat) (σ : St) (L : Hp) : Prop := ∃ v3 v4 v5 v6 : Option V, σ = [some (.ref x), some (.ref a), some (.str fl), v3, v4, v5, v6] ∧ Same H1 L
def invST (N : Hp) (x a told : Addr) (fl wd : Str) (txs : List V) (i : Nat) (σ : St) (L : Hp) : Prop := ∃ v5 v6 : Option V, σ = [some (.ref x), some (.ref a), some (.str fl), some (.str wd), some (.ref told), v5, v6] ∧ TL N told txs (1000 + i) L
theorem ok_spo {C gm gf gw gp : Addr} {dm df dw' dp : FuncData} (F : Fun K "_law_spoil" "_law_spoil" sSpo f fd) (T : Txt mg) (cl : Cls K C)
    (mPM : Meth K C "makes" gm) (GPM : FnOk P w K mg base CX0 1 gm dm ["self"] (spPM C)) (bPM : Binds K dm ["self"] [])
    (mPF : Meth K C "fields" gf) (GPF : FnOk P w K mg base CX0 1 gf df ["self"] (spPF C)) (bPF : Binds K df ["self"] [])
    (mPW : Meth K C "words" gw) (GPW : FnOk P w K mg base CX0 1 gw dw' ["self", "field"] (spPW C)) (bPW : Binds K dw' ["self", "field"] [])
    (mPP : Meth K C "postings" gp) (GPP : FnOk P w K mg base CX0 1 gp dp ["self", "field", "word"] (spPP C)) (bPP : Binds K dp ["self", "field", "word"] []) : FnOk P w K mg base CX0 2 f fd ["_law_piece", "_law_makes_here"] (spSpo C) := by
  refine F.ok scSpo (fun vs H Q E h => ?_) (fun cdv A outer s H vs Q E hr h => ?_)
  · obtain ⟨x, a, ms, rfl, _⟩ := h
    rfl
  obtain ⟨x, a, ms, rfl, hpc, hfit, hmw, q⟩ := h
  have hr1 : Room 1 _ := hr
  have szl := sizeLine_eq
  have hsz := tab_sz hfit
  refine ⟨_, (pss_cons (ps_expr (bmK K PySem.F.plainAttrs_list PySem.F.slot_list_append PySem.F.type_list_append mt_append (pe_meth0 (pv 0) cl mPM GPM hr1 bPM .nil pass0) (pa_cons pe_int pa_nil)))
    (pss_cons (ps_expr (bmK K PySem.F.plainAttrs_list PySem.F.slot_list_append PySem.F.type_list_append mt_append (pe_meth0 (pv 0) cl mPF GPF hr1 bPF .nil pass0) (pa_cons pe_str pa_nil)))
    (pss_one (ps_for PassesOwn.never rfl (pi_listK K (pe_meth0 (pv 0) cl mPF GPF hr1 bPF .nil pass0)) (pg_name (i := 2) scSpo.nd rfl (Or.inl rfl))
      (pss_cons (ps_expr (bmK K PySem.F.plainAttrs_list PySem.F.slot_list_append PySem.F.type_list_append mt_append (pe_meth (pv 0) cl mPW GPW hr1 bPW .nil pass0 (pa_cons (pv 2) pa_nil)) (pa_cons pe_str pa_nil)))
    (pss_one (ps_for PassesOwn.never rfl (pi_listK K (pe_meth (pv 0) cl mPW GPW hr1 bPW .nil pass0 (pa_cons (pv 2) pa_nil))) (pg_name (i := 3) scSpo.nd rfl (Or.inl rfl))
      (pss_cons (ps_set (i := 4) scSpo.nd rfl (Or.inl rfl) (pe_meth (pv 0) cl mPP GPP hr1 bPP .nil pass0 (pa_cons (pv 2) (pa_cons (pv 3) pa_nil))))
    (pss_cons (ps_for PassesOwn.never rfl (pi_listK K (pv 4)) (pgT K (n := 2) rfl (pgs_cons (pg_name (i := 5) scSpo.nd rfl (Or.inl rfl)) (pgs_cons (pg_name (i := 6) scSpo.nd rfl (Or.inl rfl)) pgs_nil)))
      (pss_one (ps_expr (bmK K PySem.F.plainAttrs_list PySem.F.slot_list_append PySem.F.type_list_append mt_append (pv 6) (pa_cons pe_int pa_nil)))))
    (pss_one (ps_expr (bm0K K PySem.F.plainAttrs_list PySem.F.slot_list_clear PySem.F.type_list_clear mt_clear (pv 4))))))))))))), ?_⟩
  simpa only [spPM, spPF, tMeth]
  obtain ⟨dx, fs, hx, lk1, lk2, lk3, lk4, lk5⟩ := hpc.ins
  refine ⟨dx, fs, hx, lk5, ms, hpc, fun r1 H1 s1 hr1' hv1 => ?_⟩
  have hms := hfit.1
  have sA := s1.newer hr1' (.lst ((ms.map fun m => V.int m.1) ++ [.int 7]))
  refine ⟨.inl ⟨rfl, _, SqL.of hv1⟩, _, hv1, (by rw [List.length_map]; omega), dx, fs, sA _ _ hx, lk1, ms, hpc.same sA, Nat.le_trans hsz.1 (by decide), fun r2 ys2 H2 s2 hr2 p2 o2 hv2 => ?_⟩
  have hl2 : ys2.length ≤ 400000 := by have := p2.length_eq; rw [List.length_map] at this; have := hsz.1; omega
  have sC := (sA.trans s2).newer (sA.free hr2) (.lst (ys2.map V.str ++ [.str "odd"]))
  refine ⟨.inl ⟨rfl, _, SqL.of hv2⟩, _, hv2, (by rw [List.length_map]; omega), dx, fs, sC _ _ hx, lk1, ms, hpc.same sC, Nat.le_trans hsz.1 (by decide), fun r3 ys3 H3 s3 hr3 p3 o3 hv3 => ?_⟩
  have sH3 := sC.trans s3
  refine ⟨⟨_, SqL.of hv3⟩, forW_list (ys3.map V.str) (invSF H3 x a) ⟨_, _, _, _, _, rfl, Same.refl _⟩ ?_ ?_ ?_⟩
  · rintro i σ L hi ⟨v2, v3, v4, v5, v6, rfl, sL⟩
    exact SqL.of (sL _ _ hv3)
  · rintro i y σ L hy ⟨v2, v3, v4, v5, v6, rfl, sL⟩
    rw [List.getElem?_map] at hy
    obtain ⟨fl, _, rfl⟩ := Option.map_eq_some_iff.mp hy
    have sHL := sH3.trans sL
    have hzw : (wdsOf ms fl).length ≤ 400000 := (hsz.at_ (f := fl)).1
    simpa only [spPW, tMeth]
    refine ⟨dx, fs, sHL _ _ hx, lk2, ms, hpc.same sHL, by omega, fun r4 ys4 H4 s4 hr4 p4 o4 hv4 => ?_⟩
    have hl4 : ys4.length ≤ 400000 := by have := p4.length_eq; rw [List.length_map] at this; omega
    have sD := s4.newer hr4 (.lst (ys4.map V.str ++ [.str "odd"]))
    refine ⟨.inl ⟨rfl, _, SqL.of hv4⟩, _, hv4, (by rw [List.length_map]; omega), dx, fs, (sHL.trans sD) _ _ hx, lk2, ms, hpc.same (sHL.trans sD), by omega, fun r5 ys5 H5 s5 hr5 p5 o5 hv5 => ?_⟩
    have sL5 := sD.trans s5
    refine ⟨⟨_, SqL.of hv5⟩, forW_list (ys5.map V.str) (invSW H5 x a fl) ⟨_, _, _, _, rfl, Same.refl _⟩ ?_ ?_ ?_⟩
    · rintro j σ L6 hj ⟨v3, v4, v5, v6, rfl, sL6⟩
      exact SqL.of (sL6 _ _ hv5)
    · rintro j y σ L6 hy ⟨v3, v4, v5, v6, rfl, sL6⟩
      rw [List.getElem?_map] at hy
      obtain ⟨wd, _, rfl⟩ := Option.map_eq_some_iff.mp hy
      have sH6 := sHL.trans (sL5.trans sL6)
      have hro := row_ok hfit hmw fl wd
      simpa only [spPP, tMeth, rClear]
      refine ⟨dx, fs, sH6 _ _ hx, lk3, ms, hpc.same sH6, (by have := hro.few; omega), fun told txs N s6 hto hvt hdt => ?_⟩
      have htl : txs.length = (rowOf ms fl wd).length := by have := hdt.length; rwa [List.length_map] at this
      have tl0 : TL L6 told txs (1000 + 0) N := by
        refine ⟨s6, hvt, fun v hv => ?_⟩
        obtain ⟨k, hk⟩ := List.mem_iff_getElem?.mp hv
        obtain ⟨dv, g1, g2⟩ := hdt.get hk
        rw [List.getElem?_map] at g1
        obtain ⟨qq, hq, rfl⟩ := Option.map_eq_some_iff.mp g1
        obtain ⟨a', b', rfl, ha', hb'⟩ := dvR_at g2
        have hpl := hro.pl qq (List.mem_of_getElem? hq)
        have nt : b' ≠ told := fun e => by rw [e] at hb'; unfold hide at hb'; rw [if_pos rfl] at hb'; cases hb'
        have hb2 := hide_same _ _ _ _ hb'
        refine ⟨a', b', qq.1, _, rfl, nw_same _ _ (hide_same _ _ _ _ ha'), Classical.byContradiction fun e => ?_, nt, nw_same _ _ hb2, by rw [List.length_map]; exact hpl⟩
        rw [nw_off e] at hb2
        cases hb2
      refine ⟨⟨_, SqL.of hvt⟩, forW_list txs (invST L6 x a told fl wd txs) ⟨_, _, rfl, tl0⟩ ?_ ?_ ?_⟩
      · rintro k σ L7 hk ⟨v5, v6, rfl, tl⟩
        exact SqL.of tl.2.1
      · rintro k y σ L7 hy ⟨v5, v6, rfl, tl⟩
        obtain ⟨a', b', m, ps, rfl, h1, h2, h3, h4, h5⟩ := tl.2.2 y (List.mem_of_getElem? hy)
        have hkl := (List.getElem?_eq_some_iff.mp hy).1
        have := hro.few
        simpa only [and_self]
        refine ⟨_, SqT.of h1, rfl, ?_⟩
        simpa only [and_self]
        exact ⟨.inl ⟨rfl, _, SqL.of h4⟩, _, h4, by omega, _, _, rfl, tl.step h2 h3 h4 h5 _⟩
      · rintro σ L7 ⟨v5, v6, rfl, tl⟩
        simpa only [rClear]
        exact ⟨.inl ⟨rfl, _, SqL.of tl.2.1⟩, _, tl.2.1, _, _, _, _, rfl, (sL6.trans tl.1).newer (sL6.free hto) _⟩
    · rintro σ L6 ⟨v3, v4, v5, v6, rfl, sL6⟩
      exact ⟨_, _, _, _, _, rfl, sL.trans (sL5.trans sL6)⟩
  · rintro σ L ⟨v2, v3, v4, v5, v6, rfl, sL⟩
    exact q _ (sH3.trans sL)
end
def both (G M : Hp) : Hp := fun a => if G a = none then M a else G a
theorem both_same {G M L : Hp} (s : Same G L) (s' : Same M L) : Same (both G M) L := fun a u h => by
  unfold both at h
  by_cases g : G a = none
  · rw [if_pos g] at h; exact s' _ _ h
  · rw [if_neg g] at h; exact s _ _ h
theorem both_l {G M : Hp} : Same G (both G M) := fun a u h => by
  unfold both
  rw [if_neg (by rw [h]; intro z; cases z)]
  exact h
theorem both_r {G M : Hp} (d : ∀ a, G a ≠ none → M a = none) : Same M (both G M) := fun a u h => by
  unfold both
  by_cases g : G a = none
  · rw [if_pos g]; exact h
  · rw [d a g] at h; cases h
theorem both_none {G M : Hp} {a : Addr} (h : G a = none) (h' : M a = none) : both G M a = none := by unfold both; rw [if_pos h]; exact h'
theorem TL.same {N L L' : Hp} {told : Addr} {txs : List V} {n : Nat} (h : TL N told txs n L) (s : Same L L') : TL N told txs n L' :=
  ⟨h.1.trans s, s _ _ h.2.1, fun v hv => by
    obtain ⟨a, b, m, ps, e, h1, h2, h3, h4, h5⟩ := h.2.2 v hv
    exact ⟨a, b, m, ps, e, s _ _ h1, h2, h3, s _ _ h4, h5⟩⟩
theorem dep_fs (d : List Fld) : deps (d.map dvF) ≤ 1 := deps_le fun x hx => by
  obtain ⟨y, _, rfl⟩ := List.mem_map.mp hx
  simp [dvF, dep, deps]
theorem dep_ms (ms : List Mk) : dep (.lst (ms.map dvM)) ≤ 60 := by
  have : deps (ms.map dvM) ≤ 3 := deps_le fun x hx => by
    obtain ⟨y, _, rfl⟩ := List.mem_map.mp hx
    have := dep_fs y.2
    rw [dvM, dep, deps, deps, deps, dep]
    simp [dep]
    omega
  rw [dep]
  omega
theorem dep_is (ns : List Int) : dep (.lst (ns.map DV.int)) ≤ 60 := by rw [dep, deps_ints]; decide
theorem Fits.mk {ms : List Mk} (h : Fits ms) : MkFit ms := ⟨by have := h.1; omega, fun m hm => ⟨by have := (h.2 m hm).2.1; omega, fun y hy => ⟨by have := ((h.2 m hm).2.2 y hy).1.1; omega, by have := ((h.2 m hm).2.2 y hy).2.1; omega, ((h.2 m hm).2.2 y hy).2.2⟩⟩⟩
theorem docT_miss {m : Int} {f : Str} : ∀ {d : List Fld} {F : Fl}, (∀ y ∈ d, y.1 ≠ f) → get F f = none → get (docT m F d) f = none
  | [], F, _, h => h
  | y :: d, F, hd, h => docT_miss (d := d) (F := addS m F y.1 (wordsS y.2)) (fun z hz => hd z (List.mem_cons_of_mem _ hz)) (by
    unfold addS
    split
    · exact h
    · rw [mod_other _ _ (fun e => hd y List.mem_cons_self e.symm)]; exact h)
theorem tabT_miss {f : Str} : ∀ {ms : List Mk} {F : Fl}, (∀ m ∈ ms, ∀ y ∈ m.2, y.1 ≠ f) → get F f = none → get (tabT F ms) f = none
  | [], F, _, h => h
  | m :: ms, F, hm, h => tabT_miss (ms := ms) (F := docT m.1 F m.2) (fun z hz => hm z (List.mem_cons_of_mem _ hz)) (docT_miss (hm m List.mem_cons_self) h)
def spLaw (K : PySem.W.Frag) : Sp := fun vs H Q _ => ∃ (a : Addr) (ns : List Int), vs = [.ref a] ∧ SqL K H a (ns.map V.int) ∧ ns.length ≤ 63 ∧ ∀ H', Q (.bl true) H'
section
variable {P : Program} {w : World} {K : PySem.W.Frag} {mg : Str → Option Value} {base : Heap} {f : Addr} {fd : FuncData}
theorem scL : FnScope ["_law_script", "_law_makes_here", "_law_handed", "_law_piece", "_law_make", "_law_document_here"] ["_law_script"] (defScope sLaw) := ⟨rfl, rfl, rfl, by decide +kernel, rfl, by decide +kernel, by decide +kernel⟩
def HT (H1 L : Hp) (ys : List V) : Prop := ∀ v ∈ ys, ∃ (t d : Addr) (m : Int) (zs : List V), v = .ref t ∧ L t = some (.tup [.int m, .ref d]) ∧ H1 d = none ∧ L d = some (.lst zs) ∧ zs.length ≤ 100
theorem HT.tl {H1 L : Hp} {ys : List V} {h : Addr} (t : HT H1 L ys) (s : Same H1 L) (hh : L h = none) : TL H1 h ys 100 (upd L h (.lst ys)) :=
  ⟨s.trans (same_new hh _), upd_same, fun v hv => by
    obtain ⟨t, d, m, zs, e, h1, h2, h3, h4⟩ := t v hv
    exact ⟨t, d, m, zs, e, upd_at h1 hh, h2, ne_of_none h3 hh, upd_at h3 hh, h4⟩⟩
theorem TL.both {H1 G M L : Hp} {h : Addr} {ys : List V} {n : Nat} (t : TL H1 h ys n G) (s : Same G L) (s' : Same M L) (dj : ∀ a, G a ≠ none → M a = none) : TL (both H1 M) h ys n L :=
  ⟨both_same (t.1.trans s) s', s _ _ t.2.1, fun v hv => by
    obtain ⟨a, b, m, ps, e, h1, h2, h3, h4, h5⟩ := t.2.2 v hv
    exact ⟨a, b, m, ps, e, s _ _ h1, both_none h2 (dj b (by rw [h4]; intro z; cases z)), h3, s _ _ h4, h5⟩⟩
def invHd (H1 : Hp) (ms : List Mk) (i : Nat) (ys : List V) (σ : St) (L : Hp) : Prop := ∃ v0 v1 : Option V, σ = [v0, v1] ∧ Same H1 L ∧ DeepTs L ((ms.take i).map dvM) ys ∧ HT H1 L ys
def invMn (ms : List Mk) (L0 : Hp) (i : Nat) (ys : List V) (σ : St) (L : Hp) : Prop := ∃ v0 v1 : Option V, σ = [v0, v1] ∧ L = L0 ∧ ys = (ms.take i).map fun m => .int m.1
def invAp (N : Hp) (a c h x : Addr) (hxs : List V) (i : Nat) (σ : St) (L : Hp) : Prop := ∃ v4 v5 : Option V, σ = [some (.ref a), some (.ref c), some (.ref h), some (.ref x), v4, v5] ∧ TL N h hxs (100 + i) L
theorem ok_law {C gi gm gw gp gl gt gs gk : Addr} {di dm dw' dp dl dt ds dk : FuncData} (F : Fun K "law" "law" sLaw f fd) (T : Txt mg) (cl : Cls K C) (mkP : L2.Mk K C gi) (mPc : mg "Piece" = some (.ref C))
    (GIn : FnOk P w K mg base CX0 6 gi di ["self", "makes"] (spInit C)) (bIn : Binds K di ["self", "makes"] [])
    (mPM : Meth K C "makes" gm) (GPM : FnOk P w K mg base CX0 1 gm dm ["self"] (spPM C)) (bPM : Binds K dm ["self"] [])
    (mPW : Meth K C "words" gw) (GPW : FnOk P w K mg base CX0 1 gw dw' ["self", "field"] (spPW C)) (bPW : Binds K dw' ["self", "field"] [])
    (mPP : Meth K C "postings" gp) (GPP : FnOk P w K mg base CX0 1 gp dp ["self", "field", "word"] (spPP C)) (bPP : Binds K dp ["self", "field", "word"] [])
    (mPL : Meth K C "length" gl) (GPL : FnOk P w K mg base CX0 1 gl dl ["self", "make", "field"] (spPL C)) (bPL : Binds K dl ["self", "make", "field"] [])
    (GTe : FnOk P w K mg base CX0 3 gt dt ["_law_thing", "_law_makes_here"] (spTel C)) (bTe : Binds K dt ["_law_thing", "_law_makes_here"] []) (kTe : PySem.W.keepIn K (.ref gt) = true) (mTe : mg "_law_tells" = some (.ref gt))
    (GSp : FnOk P w K mg base CX0 2 gs ds ["_law_piece", "_law_makes_here"] (spSpo C)) (bSp : Binds K ds ["_law_piece", "_law_makes_here"] []) (kSp : PySem.W.keepIn K (.ref gs) = true) (mSp : mg "_law_spoil" = some (.ref gs))
    (GMk : FnOkT P w K mg base 4 gk dk ["_law_script"] (spMks K)) (bMk : Binds K dk ["_law_script"] []) (kMk : PySem.W.keepIn K (.ref gk) = true) (mMk : mg "_law_makes" = some (.ref gk)) : FnOkL P w K mg base CX0 8 f fd ["_law_script"] (spLaw K) := by
  refine F.okL scL (fun vs H Q E h => ?_) (fun cdv A outer s H vs Q E hr h => ?_)
  · obtain ⟨a, ns, rfl, _⟩ := h
    rfl
  obtain ⟨a, ns, rfl, hS, hlen, q⟩ := h
  have hr1 : Room 1 _ := hr.mono (by decide)
  have hr2 : Room 2 _ := hr.mono (by decide)
  have hr3 : Room 3 _ := hr.mono (by decide)
  have hr4 : Room 4 _ := hr.mono (by decide)
  have szl := sizeLine_eq
  refine ⟨_, (pssW_cons (psW_callT (E := E0) (i := 1) (iy := 0) GMk hr4 rfl mMk kMk bMk scL.nd rfl (Or.inl rfl) rfl rfl)
    (pss_cons (ps_setC (i := 2) scL.nd rfl rfl (N := ["_law_make", "_law_document_here"]) (pick := [none, none]) (NX := ["_law_script", "_law_makes_here", "_law_handed", "_law_piece", "_law_make", "_law_document_here"]) (sX := defScope sLaw) (by decide +kernel) rfl rfl rfl (pi_listK K (pv 1))
        (fun _ _ _ _ => (pgT K (n := 2) rfl (pgs_cons (pg_name (i := 0) (by decide +kernel : (["_law_make", "_law_document_here"] : List Str).Nodup) rfl (Or.inl rfl)) (pgs_cons (pg_name (i := 1) (by decide +kernel : (["_law_make", "_law_document_here"] : List Str).Nodup) rfl (Or.inl rfl)) pgs_nil)))) (fun _ _ _ _ => pifs_nil) (fun _ _ _ _ => (pe_tup (pa_cons (pv 0) (pa_cons (pe_callTy (lstK K) rfl T.list PyProof.Rows.boot_list (pa_cons (pv 1) pa_nil)) pa_nil)))))
    (pss_cons (ps_set (i := 3) scL.nd rfl (Or.inl rfl) (pe_make mkP GIn hr rfl mPc bIn .nil pass0 (pa_cons (pv 2) pa_nil)))
    (pss_cons (ps_if (PW.pt (pw_or (pt_cmpR (op_neDK K hr1) (pv 2) (pv 1) (nomark _)) (pw_or (pt_cmpR (op_neDK K hr1) (pe_meth0 (pv 3) cl mPM GPM hr1 bPM .nil pass0) (pe_comp (N := ["_law_make", "_law_document_here"]) (pick := [none, none]) (NX := ["_law_script", "_law_makes_here", "_law_handed", "_law_piece", "_law_make", "_law_document_here"]) (sX := defScope sLaw) (by decide +kernel) rfl rfl rfl (pi_listK K (pv 1))
        (fun _ _ _ _ => (pgT K (n := 2) rfl (pgs_cons (pg_name (i := 0) (by decide +kernel : (["_law_make", "_law_document_here"] : List Str).Nodup) rfl (Or.inl rfl)) (pgs_cons (pg_name (i := 1) (by decide +kernel : (["_law_make", "_law_document_here"] : List Str).Nodup) rfl (Or.inl rfl)) pgs_nil)))) (fun _ _ _ _ => pifs_nil) (fun _ _ _ _ => (pv 0))) (nomark _)) (pw_or1 (pt_not (pt_val (pe_call GTe hr3 rfl mTe kTe bTe .nil pass0 (pa_cons (pv 3) (pa_cons (pv 1) pa_nil))))))))) (pss_one (ps_ret pe_bl)) pss_nil)
    (pss_cons (ps_for PassesOwn.never rfl (pi_listK K (pv 2)) (pgT K (n := 2) rfl (pgs_cons (pg_name (i := 4) scL.nd rfl (Or.inl rfl)) (pgs_cons (pg_name (i := 5) scL.nd rfl (Or.inl rfl)) pgs_nil)))
      (pss_one (ps_expr (bmK K PySem.F.plainAttrs_list PySem.F.slot_list_append PySem.F.type_list_append mt_append (pv 5) (pa_cons (pe_tup (pa_cons pe_str (pa_cons pe_str pa_nil))) pa_nil)))))
    (pss_cons (ps_expr (bm0K K PySem.F.plainAttrs_list PySem.F.slot_list_clear PySem.F.type_list_clear mt_clear (pv 2)))
    (pss_cons (ps_expr (pe_call GSp hr2 rfl mSp kSp bSp .nil pass0 (pa_cons (pv 3) (pa_cons (pv 1) pa_nil))))
    (pss_cons (ps_if (PW.pt (pw_or (pt_cmpR op_ne (pe_meth (pv 3) cl mPL GPL hr1 bPL .nil pass0 (pa_cons (pe_op op_pow pe_int pe_int) (pa_cons pe_str pa_nil))) pe_int (nomark _)) (pw_or (pt_cmpR (op_neE K hr1) (pe_meth (pv 3) cl mPP GPP hr1 bPP .nil pass0 (pa_cons pe_str (pa_cons pe_str pa_nil))) (pe_lst pa_nil) (nomark _)) (pw_or1 (pt_cmpR (op_neE K hr1) (pe_meth (pv 3) cl mPW GPW hr1 bPW .nil pass0 (pa_cons pe_str pa_nil)) (pe_lst pa_nil) (nomark _)))))) (pss_one (ps_ret pe_bl)) pss_nil)
    (pss_one (ps_ret (pe_and (pe_cmpR (op_eqDK K hr1) (pe_meth0 (pv 3) cl mPM GPM hr1 bPM .nil pass0) (pe_comp (N := ["_law_make", "_law_document_here"]) (pick := [none, none]) (NX := ["_law_script", "_law_makes_here", "_law_handed", "_law_piece", "_law_make", "_law_document_here"]) (sX := defScope sLaw) (by decide +kernel) rfl rfl rfl (pi_listK K (pv 1))
        (fun _ _ _ _ => (pgT K (n := 2) rfl (pgs_cons (pg_name (i := 0) (by decide +kernel : (["_law_make", "_law_document_here"] : List Str).Nodup) rfl (Or.inl rfl)) (pgs_cons (pg_name (i := 1) (by decide +kernel : (["_law_make", "_law_document_here"] : List Str).Nodup) rfl (Or.inl rfl)) pgs_nil)))) (fun _ _ _ _ => pifs_nil) (fun _ _ _ _ => (pv 0))) (nomark _)) (pe_one (pe_call GTe hr3 rfl mTe kTe bTe .nil pass0 (pa_cons (pv 3) (pa_cons (pv 1) pa_nil))))))))))))))), ?_⟩
  simpa only [spMks, spInit, tMake, tMeth, spPM, spTel, spSpo, spPL, spPP, spPW, rClear]
  refine ⟨ns, hS, hlen, fun ms c cxs H1 hmw hF s1 hc0 hc hcD => ?_⟩
  have hfit := hF.mk
  have hcl : cxs.length = ms.length := by have := hcD.length; rwa [List.length_map] at this
  have hm10 := hF.1
  have cm : ∀ {L : Hp} {Q' : VK} {σ0 : St}, Same H1 L → (∀ p, L p = none → Q' (.ref p) (upd L p (.lst (ms.map fun m => .int m.1)))) → CompW [none, none] (gTup K 2 (gCons (gName 0) (gCons (gName 1) gNil))) tYes (tVar 0) Q' σ0 (Itl K c) L := by
    intro L Q' σ0 sL hq
    refine compW_list cxs (invMn ms L) ⟨none, none, rfl, rfl, rfl⟩ ?_ ?_ ?_
    · rintro i ys σ L hi ⟨v0, v1, rfl, rfl, rfl⟩
      exact ⟨SqL.of (sL _ _ hc), by rw [List.length_map, List.length_take]; omega⟩
    · rintro i y ys σ L hy ⟨v0, v1, rfl, rfl, rfl⟩
      obtain ⟨dv, h1, h2⟩ := hcD.get hy
      rw [List.getElem?_map] at h1
      obtain ⟨m, hm, rfl⟩ := Option.map_eq_some_iff.mp h1
      obtain ⟨b, d, zs, rfl, hb, hd, hz⟩ := dvM_at h2
      simpa only [and_self]
      refine ⟨_, SqT.of (sL _ _ hb), rfl, ?_⟩
      simpa only [and_self]
      exact ⟨_, _, rfl, rfl, by rw [List.take_add_one, hm, List.map_append]; rfl⟩
    · rintro ys σ L ⟨v0, v1, rfl, rfl, rfl⟩ p hp
      rw [hcl, List.take_length]
      exact hq p hp
  have eI : (ms.map fun m => V.int m.1) = (ms.map (·.1)).map V.int := by rw [List.map_map]; rfl
  refine ⟨⟨_, SqL.of hc⟩, compW_list cxs (invHd H1 ms) ⟨none, none, rfl, Same.refl _, DeepTs.nil, fun v hv => (by cases hv)⟩ ?_ ?_ ?_⟩
  · rintro i ys σ L hi ⟨v0, v1, rfl, sL, hys, hT⟩
    refine ⟨SqL.of (sL _ _ hc), ?_⟩
    have := hys.length
    rw [List.length_map, List.length_take] at this
    omega
  · rintro i y ys σ L hy ⟨v0, v1, rfl, sL, hys, hT⟩
    obtain ⟨dv, h1, h2⟩ := hcD.get hy
    rw [List.getElem?_map] at h1
    obtain ⟨m, hm, rfl⟩ := Option.map_eq_some_iff.mp h1
    obtain ⟨b, d, zs, rfl, hb, hd, hz⟩ := dvM_at h2
    have hzl : zs.length = m.2.length := by have := hz.length; rwa [List.length_map] at this
    have hm9 := (hF.2 m (List.mem_of_getElem? hm)).2.1
    simpa only [and_self]
    refine ⟨_, SqT.of (sL _ _ hb), rfl, ?_⟩
    simpa only [and_self]
    refine ⟨_, .inl (SqL.of (sL _ _ hd)), fun l hl => ⟨by decide, fun p hp => ?_⟩⟩
    have s2 := (same_new hl (.lst zs)).trans (same_new hp (.tup [.int m.1, .ref l]))
    refine ⟨_, _, rfl, sL.trans s2, ?_, fun v hv => ?_⟩
    · rw [List.take_add_one, hm, List.map_append]
      exact (DeepTs.same s2 _ _ hys).app (DeepTs.one (dvM_of (m := m) (a := l) (xs := zs) upd_same (upd_at upd_same hp) (DeepTs.same (sL.trans s2) _ _ hz)))
    · rcases List.mem_append.mp hv with hv | hv
      · obtain ⟨t, d', m', zs', e, g1, g2, g3, g4⟩ := hT v hv
        exact ⟨t, d', m', zs', e, s2 _ _ g1, g2, s2 _ _ g3, g4⟩
      · rw [List.mem_singleton.mp hv]
        exact ⟨p, l, m.1, zs, rfl, upd_same, sL.free hl, upd_at upd_same hp, by omega⟩
  · rintro hxs σ L ⟨v0, v1, rfl, sL, hD, hT⟩ h hh x dx0 hx0 hdx0 hne
    rw [hcl, List.take_length] at hD
    have hhl : hxs.length = ms.length := by have := hD.length; rwa [List.length_map] at this
    have tl0 := hT.tl sL hh
    have hGD := DeepTs.same (same_new hh (.lst hxs)) _ _ hD
    have hh1 : H1 h = none := sL.free hh
    generalize upd L h (.lst hxs) = G at hx0 hdx0 tl0 hGD ⊢
    refine ⟨G, dx0, h, rfl, ((Same.refl G).newer hdx0 _).newer hx0 _, hx0, upd_same, ms, hxs, tl0.2.1, hGD, hfit, hmw, fun M H2 hpc sM dj sG2 => ?_⟩
    have s12 := tl0.1.trans sG2
    obtain ⟨dx, fs, hx, lk1, lk2, lk3, lk4, lk5⟩ := hpc.ins
    refine ⟨_, dep_ms ms, DeepT.deep _ _ (lst_deep (sG2 _ _ tl0.2.1) (DeepTs.same sG2 _ _ hGD)), DeepT.deep _ _ (lst_deep (s12 _ _ hc) (DeepTs.same s12 _ _ hcD)), ?_⟩
    refine ⟨dx, fs, sM _ _ hx, lk5, ms, hpc.same sM, fun r3 H3 s3 hr3 hv3 => ⟨⟨_, SqL.of (s3 _ _ (s12 _ _ hc))⟩, cm (s12.trans s3) fun p4 hp4 => ?_⟩⟩
    have s4 := s3.trans (same_new hp4 (.lst (ms.map fun m => .int m.1)))
    rw [eI] at hv3
    refine ⟨_, dep_is (ms.map (·.1)), DeepT.deep _ _ (lst_deep (same_new hp4 _ _ _ hv3) (DeepTs.ints _)), DeepT.deep _ _ (lst_deep (by rw [upd_same, eI]) (DeepTs.ints _)), ?_⟩
    generalize upd H3 p4 (.lst (ms.map fun m => .int m.1)) = H4 at s4 ⊢
    have s14 := s12.trans s4
    refine ⟨ms, hpc.same (sM.trans s4), cxs, s14 _ _ hc, DeepTs.same s14 _ _ hcD, hfit, hmw, fun H5 s5 => iteF ⟨h, rfl, ?_⟩⟩
    have tl5 := tl0.both ((sG2.trans s4).trans s5) ((sM.trans s4).trans s5) dj
    have dj1 : ∀ a, H1 a ≠ none → M a = none := fun a ha => dj a fun e => ha (tl0.1.free e)
    have nhN : both H1 M h = none := both_none hh1 (dj h (by rw [tl0.2.1]; intro z; cases z))
    refine ⟨⟨_, SqL.of tl5.2.1⟩, forW_list hxs (invAp (both H1 M) a c h x hxs) ⟨_, _, rfl, tl5⟩ ?_ ?_ ?_⟩
    · rintro i σ L6 hi ⟨v4, v5, rfl, tl⟩
      exact SqL.of tl.2.1
    · rintro i y σ L6 hy ⟨v4, v5, rfl, tl⟩
      obtain ⟨t, d, m, ps, rfl, h1, h2, h3, h4, h5⟩ := tl.2.2 y (List.mem_of_getElem? hy)
      have hil := (List.getElem?_eq_some_iff.mp hy).1
      simpa only [and_self]
      refine ⟨_, SqT.of h1, rfl, ?_⟩
      simpa only [and_self]
      exact ⟨.inl ⟨rfl, _, SqL.of h4⟩, by decide, fun p hp => ⟨_, upd_at h4 hp, by omega, _, _, rfl, (tl.same (same_new hp _)).step h2 h3 (upd_at h4 hp) h5 _⟩⟩
    · rintro σ L6 ⟨v4, v5, rfl, tl⟩
      simpa only [tMeth, spPM, spTel, spSpo, spPL, spPP, spPW, rClear, rNe]
      have sN7 := tl.1.newer nhN (.lst [])
      have sM7 := (both_r dj1).trans sN7
      have s17 := both_l.trans sN7
      refine ⟨.inl ⟨rfl, _, SqL.of tl.2.1⟩, _, tl.2.1, ms, hpc.same sM7, hfit, hmw, fun L8 s8 => ?_⟩
      have sM8 := sM7.trans s8
      have s18 := s17.trans s8
      have eW : wdsOf ms "odd" = [] := by
        unfold wdsOf
        rw [tabT_miss (fun m hm y hy => ((hF.2 m hm).2.2 y hy).1.2) rfl]
        rfl
      have eR : rowOf ms "odd" "odd" = [] := by
        unfold rowOf
        rw [eW]
        rfl
      have eL : LV (lenT [] ms) (10 ^ Int.toNat 50) "a" = .int 0 := lenT_ne (T := []) fun z => by
        obtain ⟨m, hm, e⟩ := List.mem_map.mp z
        have h1 := (hF.2 m hm).1
        rw [e, show Int.toNat 50 = 50 from rfl] at h1
        exact Int.lt_irrefl _ h1
      refine ⟨dx, fs, sM8 _ _ hx, lk4, ⟨by decide, by decide, by decide⟩, ms, hpc.same sM8, fun L9 s9 => ?_⟩
      rw [eL]
      refine ⟨rfl, ?_⟩
      rw [if_neg (by rw [decide_eq_true rfl]; decide)]
      have sM9 := sM8.trans s9
      have s19 := s18.trans s9
      refine ⟨dx, fs, sM9 _ _ hx, lk3, ms, hpc.same sM9, (by rw [eR]; exact Nat.zero_le _), fun r10 xs10 L10 s10 hr10 hv10 hd10 => ⟨Nat.zero_le _, fun p11 hp11 => ?_⟩⟩
      rw [eR] at hd10
      have e10 : xs10 = [] := List.eq_nil_of_length_eq_zero hd10.length
      subst e10
      refine ⟨[], SqL.of (upd_at hv10 hp11), SqL.of upd_same, iteF ?_⟩
      have s11 := s10.trans (same_new hp11 (.lst []))
      have sM11 := sM9.trans s11
      have s111 := s19.trans s11
      generalize upd L10 p11 (.lst []) = L11 at sM11 s111 ⊢
      refine ⟨dx, fs, sM11 _ _ hx, lk2, ms, hpc.same sM11, (by rw [eW]; exact Nat.zero_le _), fun r12 ys12 L12 s12' hr12 p12 o12 hv12 => ⟨Nat.zero_le _, fun p13 hp13 => ?_⟩⟩
      rw [eW] at p12
      have e12 : ys12 = [] := p12.eq_nil
      subst e12
      refine ⟨[], SqL.of (upd_at hv12 hp13), SqL.of upd_same, iteF ?_⟩
      have s13 := s12'.trans (same_new hp13 (.lst []))
      have sM13 := sM11.trans s13
      have s113 := s111.trans s13
      generalize upd L12 p13 (.lst []) = L13 at sM13 s113 ⊢
      refine ⟨dx, fs, sM13 _ _ hx, lk5, ms, hpc.same sM13, fun r14 L14 s14' hr14 hv14 => ⟨⟨_, SqL.of (s14' _ _ (s113 _ _ hc))⟩, cm (s113.trans s14') fun p15 hp15 => ?_⟩⟩
      have s15 := s14'.trans (same_new hp15 (.lst (ms.map fun m => .int m.1)))
      rw [eI] at hv14
      refine ⟨_, _, .inl rfl, dep_is (ms.map (·.1)), DeepT.deep _ _ (lst_deep (same_new hp15 _ _ _ hv14) (DeepTs.ints _)), DeepT.deep _ _ (lst_deep (by rw [upd_same, eI]) (DeepTs.ints _)), ?_⟩
      have s115 := s113.trans s15
      exact ⟨ms, hpc.same (sM13.trans s15), cxs, s115 _ _ hc, DeepTs.same s115 _ _ hcD, hfit, hmw, fun H' _ => q H'⟩
end
theorem all_mk {l : PySem.W.OpenLaw} {w : World} {K : PySem.W.Frag} {h : Heap} {mg : Str → Option Value} {fa f1 f2 f3 f4 f5 f6 f7 f8 f9 f10 f11 f12 f13 f14 f15 f16 f17 f18 f19 f20 f21 fsInit fsPM fsPF fsPW fsPP fsPL PC  : Addr} (X : K.In h) (G : h.Ns mainGlobals mg) (hfa : mg "law" = some (.ref fa))
    {od1 an1 od2 an2 od3 an3 od4 an4 od5 an5 od6 an6 od7 an7 od8 an8 od9 an9 od10 an10 od11 an11 od12 an12 od13 an13 od14 an14 od15 an15 od16 an16 od17 an17 od18 an18 od19 an19 od20 an20 od21 an21 odsInit ansInit odsPM ansPM odsPF ansPF odsPW ansPW odsPP ansPP odsPL ansPL : Option Addr} {sl1 sl2 sl3 sl4 sl5 sl6 sl7 sl8 sl9 sl10 sl11 sl12 sl13 sl14 sl15 sl16 sl17 sl18 sl19 sl20 sl21 slsInit slsPM slsPF slsPW slsPP slsPL : Array (Option Value)} {oc1 kV1 dc1 pm1 ct1 cd1 oc2 kV2 dc2 pm2 ct2 cd2 oc3 kV3 dc3 pm3 ct3 cd3 oc4 kV4 dc4 pm4 ct4 cd4 oc5 kV5 dc5 pm5 ct5 cd5 oc6 kV6 dc6 pm6 ct6 cd6 oc7 kV7 dc7 pm7 ct7 cd7 oc8 kV8 dc8 pm8 ct8 cd8 oc9 kV9 dc9 pm9 ct9 cd9 oc10 kV10 dc10 pm10 ct10 cd10 oc11 kV11 dc11 pm11 ct11 cd11 oc12 kV12 dc12 pm12 ct12 cd12 oc13 kV13 dc13 pm13 ct13 cd13 oc14 kV14 dc14 pm14 ct14 cd14 oc15 kV15 dc15 pm15 ct15 cd15 oc16 kV16 dc16 pm16 ct16 cd16 oc17 kV17 dc17 pm17 ct17 cd17 oc18 kV18 dc18 pm18 ct18 cd18 oc19 kV19 dc19 pm19 ct19 cd19 oc20 kV20 dc20 pm20 ct20 cd20 oc21 kV21 dc21 pm21 ct21 cd21 ocsInit kVsInit dcsInit pmsInit ctsInit cdsInit ocsPM kVsPM dcsPM pmsPM ctsPM cdsPM ocsPF kVsPF dcsPF pmsPF ctsPF cdsPF ocsPW kVsPW dcsPW pmsPW ctsPW cdsPW ocsPP kVsPP dcsPP pmsPP ctsPP cdsPP ocsPL kVsPL dcsPL pmsPL ctsPL cdsPL : Value} {tk0 tk1 : Tok}
    (a1 : PySem.W.nsIn K mainGlobals "is_small_letter" = some (some (.ref f1)))
    (l1 : K.lookup f1 = some ⟨oc1, od1, .func (PySem.W.fnOf "is_small_letter" "is_small_letter" (defArgs sSmall) (defBody sSmall) (defScope sSmall) .none kV1 dc1 pm1 an1 cd1 ct1), sl1⟩)
    (c1 : PySem.W.codeIn K cd1 "is_small_letter" = true)
    (k1 : PySem.W.keepIn K (.ref f1) = true)
    (a2 : PySem.W.nsIn K mainGlobals "is_figure" = some (some (.ref f2)))
    (l2 : K.lookup f2 = some ⟨oc2, od2, .func (PySem.W.fnOf "is_figure" "is_figure" (defArgs sFig) (defBody sFig) (defScope sFig) .none kV2 dc2 pm2 an2 cd2 ct2), sl2⟩)
    (c2 : PySem.W.codeIn K cd2 "is_figure" = true)
    (k2 : PySem.W.keepIn K (.ref f2) = true)
    (a3 : PySem.W.nsIn K mainGlobals "is_word_sign" = some (some (.ref f3)))
    (l3 : K.lookup f3 = some ⟨oc3, od3, .func (PySem.W.fnOf "is_word_sign" "is_word_sign" (defArgs sSign) (defBody sSign) (defScope sSign) .none kV3 dc3 pm3 an3 cd3 ct3), sl3⟩)
    (c3 : PySem.W.codeIn K cd3 "is_word_sign" = true)
    (k3 : PySem.W.keepIn K (.ref f3) = true)
    (a4 : PySem.W.nsIn K mainGlobals "is_name" = some (some (.ref f4)))
    (l4 : K.lookup f4 = some ⟨oc4, od4, .func (PySem.W.fnOf "is_name" "is_name" (defArgs sName) (defBody sName) (defScope sName) .none kV4 dc4 pm4 an4 cd4 ct4), sl4⟩)
    (c4 : PySem.W.codeIn K cd4 "is_name" = true)
    (k4 : PySem.W.keepIn K (.ref f4) = true)
    (a5 : PySem.W.nsIn K mainGlobals "look_at_document" = some (some (.ref f5)))
    (l5 : K.lookup f5 = some ⟨oc5, od5, .func (PySem.W.fnOf "look_at_document" "look_at_document" (defArgs sLook) (defBody sLook) (defScope sLook) .none kV5 dc5 pm5 an5 cd5 ct5), sl5⟩)
    (c5 : PySem.W.codeIn K cd5 "look_at_document" = true)
    (k5 : PySem.W.keepIn K (.ref f5) = true)
    (a6 : PySem.W.nsIn K mainGlobals "end_of_word" = some (some (.ref f6)))
    (l6 : K.lookup f6 = some ⟨oc6, od6, .func (PySem.W.fnOf "end_of_word" "end_of_word" (defArgs sEnd) (defBody sEnd) (defScope sEnd) .none kV6 dc6 pm6 an6 cd6 ct6), sl6⟩)
    (c6 : PySem.W.codeIn K cd6 "end_of_word" = true)
    (k6 : PySem.W.keepIn K (.ref f6) = true)
    (a7 : PySem.W.nsIn K mainGlobals "words_of" = some (some (.ref f7)))
    (l7 : K.lookup f7 = some ⟨oc7, od7, .func (PySem.W.fnOf "words_of" "words_of" (defArgs sWords) (defBody sWords) (defScope sWords) .none kV7 dc7 pm7 an7 cd7 ct7), sl7⟩)
    (c7 : PySem.W.codeIn K cd7 "words_of" = true)
    (k7 : PySem.W.keepIn K (.ref f7) = true)
    (a8 : PySem.W.nsIn K mainGlobals "bare_words" = some (some (.ref f8)))
    (l8 : K.lookup f8 = some ⟨oc8, od8, .func (PySem.W.fnOf "bare_words" "bare_words" (defArgs sBare) (defBody sBare) (defScope sBare) .none kV8 dc8 pm8 an8 cd8 ct8), sl8⟩)
    (c8 : PySem.W.codeIn K cd8 "bare_words" = true)
    (k8 : PySem.W.keepIn K (.ref f8) = true)
    (a9 : PySem.W.nsIn K mainGlobals "places_by_word" = some (some (.ref f9)))
    (l9 : K.lookup f9 = some ⟨oc9, od9, .func (PySem.W.fnOf "places_by_word" "places_by_word" (defArgs sPlaces) (defBody sPlaces) (defScope sPlaces) .none kV9 dc9 pm9 an9 cd9 ct9), sl9⟩)
    (c9 : PySem.W.codeIn K cd9 "places_by_word" = true)
    (k9 : PySem.W.keepIn K (.ref f9) = true)
    (a10 : PySem.W.nsIn K mainGlobals "is_whole_number" = some (some (.ref f10)))
    (l10 : K.lookup f10 = some ⟨oc10, od10, .func (PySem.W.fnOf "is_whole_number" "is_whole_number" (defArgs sWhole) (defBody sWhole) (defScope sWhole) .none kV10 dc10 pm10 an10 cd10 ct10), sl10⟩)
    (c10 : PySem.W.codeIn K cd10 "is_whole_number" = true)
    (k10 : PySem.W.keepIn K (.ref f10) = true)
    (a11 : PySem.W.nsIn K mainGlobals "look_at_makes" = some (some (.ref f11)))
    (l11 : K.lookup f11 = some ⟨oc11, od11, .func (PySem.W.fnOf "look_at_makes" "look_at_makes" (defArgs sMakes) (defBody sMakes) (defScope sMakes) .none kV11 dc11 pm11 an11 cd11 ct11), sl11⟩)
    (c11 : PySem.W.codeIn K cd11 "look_at_makes" = true)
    (k11 : PySem.W.keepIn K (.ref f11) = true)
    (a12 : PySem.W.nsIn K mainGlobals "add_postings" = some (some (.ref f12)))
    (l12 : K.lookup f12 = some ⟨oc12, od12, .func (PySem.W.fnOf "add_postings" "add_postings" (defArgs sAdd) (defBody sAdd) (defScope sAdd) .none kV12 dc12 pm12 an12 cd12 ct12), sl12⟩)
    (c12 : PySem.W.codeIn K cd12 "add_postings" = true)
    (k12 : PySem.W.keepIn K (.ref f12) = true)
    (a13 : PySem.W.nsIn K mainGlobals "_law_draws" = some (some (.ref f13)))
    (l13 : K.lookup f13 = some ⟨oc13, od13, .func (PySem.W.fnOf "_law_draws" "_law_draws" (defArgs sDraws) (defBody sDraws) (defScope sDraws) .none kV13 dc13 pm13 an13 cd13 ct13), sl13⟩)
    (c13 : PySem.W.codeIn K cd13 "_law_draws" = true)
    (k13 : PySem.W.keepIn K (.ref f13) = true)
    (a14 : PySem.W.nsIn K mainGlobals "_law_text" = some (some (.ref f14)))
    (l14 : K.lookup f14 = some ⟨oc14, od14, .func (PySem.W.fnOf "_law_text" "_law_text" (defArgs sText) (defBody sText) (defScope sText) .none kV14 dc14 pm14 an14 cd14 ct14), sl14⟩)
    (c14 : PySem.W.codeIn K cd14 "_law_text" = true)
    (k14 : PySem.W.keepIn K (.ref f14) = true)
    (a15 : PySem.W.nsIn K mainGlobals "_law_document" = some (some (.ref f15)))
    (l15 : K.lookup f15 = some ⟨oc15, od15, .func (PySem.W.fnOf "_law_document" "_law_document" (defArgs sDoc) (defBody sDoc) (defScope sDoc) .none kV15 dc15 pm15 an15 cd15 ct15), sl15⟩)
    (c15 : PySem.W.codeIn K cd15 "_law_document" = true)
    (k15 : PySem.W.keepIn K (.ref f15) = true)
    (a16 : PySem.W.nsIn K mainGlobals "_law_words" = some (some (.ref f16)))
    (l16 : K.lookup f16 = some ⟨oc16, od16, .func (PySem.W.fnOf "_law_words" "_law_words" (defArgs sLW) (defBody sLW) (defScope sLW) .none kV16 dc16 pm16 an16 cd16 ct16), sl16⟩)
    (c16 : PySem.W.codeIn K cd16 "_law_words" = true)
    (k16 : PySem.W.keepIn K (.ref f16) = true)
    (a17 : PySem.W.nsIn K mainGlobals "_law_table" = some (some (.ref f17)))
    (l17 : K.lookup f17 = some ⟨oc17, od17, .func (PySem.W.fnOf "_law_table" "_law_table" (defArgs sTab) (defBody sTab) (defScope sTab) .none kV17 dc17 pm17 an17 cd17 ct17), sl17⟩)
    (c17 : PySem.W.codeIn K cd17 "_law_table" = true)
    (k17 : PySem.W.keepIn K (.ref f17) = true)
    (a18 : PySem.W.nsIn K mainGlobals "_law_tells" = some (some (.ref f18)))
    (l18 : K.lookup f18 = some ⟨oc18, od18, .func (PySem.W.fnOf "_law_tells" "_law_tells" (defArgs sTel) (defBody sTel) (defScope sTel) .none kV18 dc18 pm18 an18 cd18 ct18), sl18⟩)
    (c18 : PySem.W.codeIn K cd18 "_law_tells" = true)
    (k18 : PySem.W.keepIn K (.ref f18) = true)
    (a19 : PySem.W.nsIn K mainGlobals "_law_makes" = some (some (.ref f19)))
    (l19 : K.lookup f19 = some ⟨oc19, od19, .func (PySem.W.fnOf "_law_makes" "_law_makes" (defArgs sMks) (defBody sMks) (defScope sMks) .none kV19 dc19 pm19 an19 cd19 ct19), sl19⟩)
    (c19 : PySem.W.codeIn K cd19 "_law_makes" = true)
    (k19 : PySem.W.keepIn K (.ref f19) = true)
    (a20 : PySem.W.nsIn K mainGlobals "_law_spoil" = some (some (.ref f20)))
    (l20 : K.lookup f20 = some ⟨oc20, od20, .func (PySem.W.fnOf "_law_spoil" "_law_spoil" (defArgs sSpo) (defBody sSpo) (defScope sSpo) .none kV20 dc20 pm20 an20 cd20 ct20), sl20⟩)
    (c20 : PySem.W.codeIn K cd20 "_law_spoil" = true)
    (k20 : PySem.W.keepIn K (.ref f20) = true)
    (a21 : PySem.W.nsIn K mainGlobals "law" = some (some (.ref f21)))
    (l21 : K.lookup f21 = some ⟨oc21, od21, .func (PySem.W.fnOf "law" "law" (defArgs sLaw) (defBody sLaw) (defScope sLaw) .none kV21 dc21 pm21 an21 cd21 ct21), sl21⟩)
    (c21 : PySem.W.codeIn K cd21 "law" = true)
    (k21 : PySem.W.keepIn K (.ref f21) = true)
    (nPC : PySem.W.nsIn K mainGlobals "Piece" = some (some (.ref PC)))
    (isInit : PySem.W.findIn K (.ref PC) "__init__" = some (some (.ref fsInit)))
    (jsInit : PySem.W.isFn K (.ref fsInit) = true)
    (lsInit : K.lookup fsInit = some ⟨ocsInit, odsInit, .func (PySem.W.fnOf "__init__" "Piece.__init__" (defArgs sInit) (defBody sInit) (defScope sInit) .none kVsInit dcsInit pmsInit ansInit cdsInit ctsInit), slsInit⟩)
    (csInit : PySem.W.codeIn K cdsInit "Piece.__init__" = true)
    (ksInit : PySem.W.keepIn K (.ref fsInit) = true)
    (isPM : PySem.W.findIn K (.ref PC) "makes" = some (some (.ref fsPM)))
    (jsPM : PySem.W.isFn K (.ref fsPM) = true)
    (lsPM : K.lookup fsPM = some ⟨ocsPM, odsPM, .func (PySem.W.fnOf "makes" "Piece.makes" (defArgs sPM) (defBody sPM) (defScope sPM) .none kVsPM dcsPM pmsPM ansPM cdsPM ctsPM), slsPM⟩)
    (csPM : PySem.W.codeIn K cdsPM "Piece.makes" = true)
    (ksPM : PySem.W.keepIn K (.ref fsPM) = true)
    (isPF : PySem.W.findIn K (.ref PC) "fields" = some (some (.ref fsPF)))
    (jsPF : PySem.W.isFn K (.ref fsPF) = true)
    (lsPF : K.lookup fsPF = some ⟨ocsPF, odsPF, .func (PySem.W.fnOf "fields" "Piece.fields" (defArgs sPF) (defBody sPF) (defScope sPF) .none kVsPF dcsPF pmsPF ansPF cdsPF ctsPF), slsPF⟩)
    (csPF : PySem.W.codeIn K cdsPF "Piece.fields" = true)
    (ksPF : PySem.W.keepIn K (.ref fsPF) = true)
    (isPW : PySem.W.findIn K (.ref PC) "words" = some (some (.ref fsPW)))
    (jsPW : PySem.W.isFn K (.ref fsPW) = true)
    (lsPW : K.lookup fsPW = some ⟨ocsPW, odsPW, .func (PySem.W.fnOf "words" "Piece.words" (defArgs sPW) (defBody sPW) (defScope sPW) .none kVsPW dcsPW pmsPW ansPW cdsPW ctsPW), slsPW⟩)
    (csPW : PySem.W.codeIn K cdsPW "Piece.words" = true)
    (ksPW : PySem.W.keepIn K (.ref fsPW) = true)
    (isPP : PySem.W.findIn K (.ref PC) "postings" = some (some (.ref fsPP)))
    (jsPP : PySem.W.isFn K (.ref fsPP) = true)
    (lsPP : K.lookup fsPP = some ⟨ocsPP, odsPP, .func (PySem.W.fnOf "postings" "Piece.postings" (defArgs sPP) (defBody sPP) (defScope sPP) .none kVsPP dcsPP pmsPP ansPP cdsPP ctsPP), slsPP⟩)
    (csPP : PySem.W.codeIn K cdsPP "Piece.postings" = true)
    (ksPP : PySem.W.keepIn K (.ref fsPP) = true)
    (isPL : PySem.W.findIn K (.ref PC) "length" = some (some (.ref fsPL)))
    (jsPL : PySem.W.isFn K (.ref fsPL) = true)
    (lsPL : K.lookup fsPL = some ⟨ocsPL, odsPL, .func (PySem.W.fnOf "length" "Piece.length" (defArgs sPL) (defBody sPL) (defScope sPL) .none kVsPL dcsPL pmsPL ansPL cdsPL ctsPL), slsPL⟩)
    (csPL : PySem.W.codeIn K cdsPL "Piece.length" = true)
    (ksPL : PySem.W.keepIn K (.ref fsPL) = true)
    (p1 : PySem.W.plainGet K PC Str.empty = true)
    (p2 : PySem.W.hasDictIn K PC = true)
    (p3 : PySem.W.plainOver K PC = true)
    (p4 : PySem.W.findIn K (.ref PC) "__setattr__" = some (some (.builtin "object.__setattr__")))
    (p5 : PySem.W.makesIn K PC = true)
    (p6 : PySem.W.keepIn K (.ref PC) = true)
    (q1 : PySem.W.findIn K (.ref PC) "own_makes" = some none)
    (q2 : PySem.W.findIn K (.ref PC) "by_field" = some none)
    (q3 : PySem.W.findIn K (.ref PC) "lengths" = some none)
    (s1 : PySem.W.nsIn K mainGlobals "MOST_NAME_SIGNS" = some (some (.int 12 tk1)))
    (z1 : PySem.W.nsIn K mainGlobals "len" = some none)
    (z2 : PySem.W.nsIn K mainGlobals "range" = some none)
    (z3 : PySem.W.nsIn K mainGlobals "isinstance" = some none)
    (z4 : PySem.W.nsIn K mainGlobals "int" = some none)
    (z5 : PySem.W.nsIn K mainGlobals "bool" = some none)
    (z6 : PySem.W.nsIn K mainGlobals "list" = some none)
    (z7 : PySem.W.nsIn K mainGlobals "dict" = some none)
    (z8 : PySem.W.nsIn K mainGlobals "abs" = some none)
    (z9 : PySem.W.nsIn K mainGlobals "min" = some none)
    (z10 : PySem.W.nsIn K mainGlobals "sorted" = some none)
    (z11 : PySem.W.nsIn K mainGlobals "all" = some none)
    (z12 : PySem.W.nsIn K mainGlobals "enumerate" = some none)
    : ∃ fd : FuncData, (∀ (s : Shared) (v : Value), BindsTo s fd ⟨[v], []⟩ [("_law_script", v)]) ∧ ∀ base : Heap, K.In base → base.Ns mainGlobals mg → FnOkL l.prog w K mg base CX0 8 fa fd ["_law_script"] (spLaw K) := by
  have e := hfa.symm.trans (PySem.W.mg_of X G a21)
  cases e
  have t1 := PySem.W.mg_none_of X G z1
  have t2 := PySem.W.mg_none_of X G z2
  have t3 := PySem.W.mg_none_of X G z3
  have t4 := PySem.W.mg_none_of X G z4
  have t5 := PySem.W.mg_none_of X G z5
  have t6 := PySem.W.mg_none_of X G z6
  have t7 := PySem.W.mg_none_of X G z7
  have t8 := PySem.W.mg_none_of X G z8
  have t9 := PySem.W.mg_none_of X G z9
  have t10 := PySem.W.mg_none_of X G z10
  have t11 := PySem.W.mg_none_of X G z11
  have t12 := PySem.W.mg_none_of X G z12
  have u1 := PySem.W.mg_of X G s1
  have mPC := PySem.W.mg_of X G nPC
  have T : Txt mg := { len := t1, range := t2, isinstance := t3, int := t4, bool := t5, list := t6, dict := t7, abs := t8, min := t9, sorted := t10, all := t11, enumerate := t12, most := ⟨_, u1⟩ }
  have F1 := fun_mk (st := sSmall) l1 c1 k1
  have m1 := PySem.W.mg_of X G a1
  have b1 := F1.binds (ps := ["sign"]) fun _ _ _ _ _ _ us hl => match us, hl with | [_], _ => rfl
  have F2 := fun_mk (st := sFig) l2 c2 k2
  have m2 := PySem.W.mg_of X G a2
  have b2 := F2.binds (ps := ["sign"]) fun _ _ _ _ _ _ us hl => match us, hl with | [_], _ => rfl
  have F3 := fun_mk (st := sSign) l3 c3 k3
  have m3 := PySem.W.mg_of X G a3
  have b3 := F3.binds (ps := ["sign"]) fun _ _ _ _ _ _ us hl => match us, hl with | [_], _ => rfl
  have F4 := fun_mk (st := sName) l4 c4 k4
  have m4 := PySem.W.mg_of X G a4
  have b4 := F4.binds (ps := ["text"]) fun _ _ _ _ _ _ us hl => match us, hl with | [_], _ => rfl
  have F5 := fun_mk (st := sLook) l5 c5 k5
  have m5 := PySem.W.mg_of X G a5
  have b5 := F5.binds (ps := ["document"]) fun _ _ _ _ _ _ us hl => match us, hl with | [_], _ => rfl
  have F6 := fun_mk (st := sEnd) l6 c6 k6
  have m6 := PySem.W.mg_of X G a6
  have b6 := F6.binds (ps := ["text", "begin"]) fun _ _ _ _ _ _ us hl => match us, hl with | [_, _], _ => rfl
  have F7 := fun_mk (st := sWords) l7 c7 k7
  have m7 := PySem.W.mg_of X G a7
  have b7 := F7.binds (ps := ["text"]) fun _ _ _ _ _ _ us hl => match us, hl with | [_], _ => rfl
  have F8 := fun_mk (st := sBare) l8 c8 k8
  have m8 := PySem.W.mg_of X G a8
  have b8 := F8.binds (ps := ["text"]) fun _ _ _ _ _ _ us hl => match us, hl with | [_], _ => rfl
  have F9 := fun_mk (st := sPlaces) l9 c9 k9
  have m9 := PySem.W.mg_of X G a9
  have b9 := F9.binds (ps := ["words"]) fun _ _ _ _ _ _ us hl => match us, hl with | [_], _ => rfl
  have F10 := fun_mk (st := sWhole) l10 c10 k10
  have m10 := PySem.W.mg_of X G a10
  have b10 := F10.binds (ps := ["value"]) fun _ _ _ _ _ _ us hl => match us, hl with | [_], _ => rfl
  have F11 := fun_mk (st := sMakes) l11 c11 k11
  have m11 := PySem.W.mg_of X G a11
  have b11 := F11.binds (ps := ["makes"]) fun _ _ _ _ _ _ us hl => match us, hl with | [_], _ => rfl
  have F12 := fun_mk (st := sAdd) l12 c12 k12
  have m12 := PySem.W.mg_of X G a12
  have b12 := F12.binds (ps := ["by_word", "make", "words"]) fun _ _ _ _ _ _ us hl => match us, hl with | [_, _, _], _ => rfl
  have F13 := fun_mk (st := sDraws) l13 c13 k13
  have m13 := PySem.W.mg_of X G a13
  have b13 := F13.binds (ps := ["_law_cell", "_law_many", "_law_base", "_law_free"]) fun _ _ _ _ _ _ us hl => match us, hl with | [_, _, _, _], _ => rfl
  have F14 := fun_mk (st := sText) l14 c14 k14
  have m14 := PySem.W.mg_of X G a14
  have b14 := F14.binds (ps := ["_law_cell"]) fun _ _ _ _ _ _ us hl => match us, hl with | [_], _ => rfl
  have F15 := fun_mk (st := sDoc) l15 c15 k15
  have m15 := PySem.W.mg_of X G a15
  have b15 := F15.binds (ps := ["_law_cell", "_law_more"]) fun _ _ _ _ _ _ us hl => match us, hl with | [_, _], _ => rfl
  have F16 := fun_mk (st := sLW) l16 c16 k16
  have m16 := PySem.W.mg_of X G a16
  have b16 := F16.binds (ps := ["_law_text_here"]) fun _ _ _ _ _ _ us hl => match us, hl with | [_], _ => rfl
  have F17 := fun_mk (st := sTab) l17 c17 k17
  have m17 := PySem.W.mg_of X G a17
  have b17 := F17.binds (ps := ["_law_makes_here"]) fun _ _ _ _ _ _ us hl => match us, hl with | [_], _ => rfl
  have F18 := fun_mk (st := sTel) l18 c18 k18
  have m18 := PySem.W.mg_of X G a18
  have b18 := F18.binds (ps := ["_law_thing", "_law_makes_here"]) fun _ _ _ _ _ _ us hl => match us, hl with | [_, _], _ => rfl
  have F19 := fun_mk (st := sMks) l19 c19 k19
  have m19 := PySem.W.mg_of X G a19
  have b19 := F19.binds (ps := ["_law_script"]) fun _ _ _ _ _ _ us hl => match us, hl with | [_], _ => rfl
  have F20 := fun_mk (st := sSpo) l20 c20 k20
  have m20 := PySem.W.mg_of X G a20
  have b20 := F20.binds (ps := ["_law_piece", "_law_makes_here"]) fun _ _ _ _ _ _ us hl => match us, hl with | [_, _], _ => rfl
  have F21 := fun_mk (st := sLaw) l21 c21 k21
  have m21 := PySem.W.mg_of X G a21
  have FsInit := fun_mk (st := sInit) lsInit csInit ksInit
  have bsInit := FsInit.binds (ps := ["self", "makes"]) fun _ _ _ _ _ _ us hl => match us, hl with | [_, _], _ => rfl
  have FsPM := fun_mk (st := sPM) lsPM csPM ksPM
  have bsPM := FsPM.binds (ps := ["self"]) fun _ _ _ _ _ _ us hl => match us, hl with | [_], _ => rfl
  have FsPF := fun_mk (st := sPF) lsPF csPF ksPF
  have bsPF := FsPF.binds (ps := ["self"]) fun _ _ _ _ _ _ us hl => match us, hl with | [_], _ => rfl
  have FsPW := fun_mk (st := sPW) lsPW csPW ksPW
  have bsPW := FsPW.binds (ps := ["self", "field"]) fun _ _ _ _ _ _ us hl => match us, hl with | [_, _], _ => rfl
  have FsPP := fun_mk (st := sPP) lsPP csPP ksPP
  have bsPP := FsPP.binds (ps := ["self", "field", "word"]) fun _ _ _ _ _ _ us hl => match us, hl with | [_, _, _], _ => rfl
  have FsPL := fun_mk (st := sPL) lsPL csPL ksPL
  have bsPL := FsPL.binds (ps := ["self", "make", "field"]) fun _ _ _ _ _ _ us hl => match us, hl with | [_, _, _], _ => rfl
  have cl : Cls K PC := ⟨p1, p2, p3, p4⟩
  refine ⟨PySem.W.fnOf "law" "law" (defArgs sLaw) (defBody sLaw) (defScope sLaw) .none kV21 dc21 pm21 an21 cd21 ct21, fun s v => .of_eq rfl, fun base _ _ => ?_⟩
  have oS := ok_small (P := l.prog) (w := w) (mg := mg) (base := base) F1
  have oFg := ok_fig (P := l.prog) (w := w) (mg := mg) (base := base) F2
  have oSg := ok_sign (P := l.prog) (w := w) (mg := mg) (base := base) F3 oS b1 k1 m1 oFg b2 k2 m2
  have oE := ok_end (P := l.prog) (w := w) (mg := mg) (base := base) F6 T oSg b3 k3 m3
  have oWo := ok_words (P := l.prog) (w := w) (mg := mg) (base := base) F7 T oE b6 k6 m6
  have oBw := ok_bare (P := l.prog) (w := w) (mg := mg) (base := base) F8 T oWo b7 k7 m7
  have oN := ok_name (P := l.prog) (w := w) (mg := mg) (base := base) F4 T oS b1 k1 m1
  have oLk := ok_look (P := l.prog) (w := w) (mg := mg) (base := base) F5 T oN b4 k4 m4
  have oWh := ok_whole (P := l.prog) (w := w) (mg := mg) (base := base) F10 T
  have oLm := ok_makes (P := l.prog) (w := w) (mg := mg) (base := base) F11 T oWh b10 k10 m10 oLk b5 k5 m5
  have oPb := ok_places (P := l.prog) (w := w) (mg := mg) (base := base) F9 T
  have oAd := ok_add (P := l.prog) (w := w) (mg := mg) (base := base) F12 T oPb b9 k9 m9
  have oIn := ok_init (P := l.prog) (w := w) (mg := mg) (base := base) FsInit T cl q1 q2 q3 oLm b11 k11 m11 oBw b8 k8 m8 oAd b12 k12 m12
  have oPM := ok_pm (P := l.prog) (w := w) (mg := mg) (base := base) FsPM T cl q1
  have oPF := ok_pf (P := l.prog) (w := w) (mg := mg) (base := base) FsPF T cl q2
  have oPW := ok_pw (P := l.prog) (w := w) (mg := mg) (base := base) FsPW T cl q2
  have oPP := ok_pp (P := l.prog) (w := w) (mg := mg) (base := base) FsPP T cl q2
  have oPL := ok_pl (P := l.prog) (w := w) (mg := mg) (base := base) FsPL T cl q3
  have oD := ok_draws (P := l.prog) (w := w) (mg := mg) (base := base) F13 T
  have oT := ok_text (P := l.prog) (w := w) (mg := mg) (base := base) F14 T oD b13 k13 m13
  have oDc := ok_doc (P := l.prog) (w := w) (mg := mg) (base := base) F15 T oD b13 k13 m13 oT b14 k14 m14
  have oMk := ok_mks (P := l.prog) (w := w) (mg := mg) (base := base) F19 T oDc b15 k15 m15
  have oLw := ok_lw (P := l.prog) (w := w) (mg := mg) (base := base) F16 T
  have oTa := ok_tab (P := l.prog) (w := w) (mg := mg) (base := base) F17 T oLw b16 k16 m16
  have oTe := ok_tel (P := l.prog) (w := w) (mg := mg) (base := base) F18 T cl ⟨isPF, jsPF, ksPF⟩ oPF bsPF ⟨isPW, jsPW, ksPW⟩ oPW bsPW ⟨isPP, jsPP, ksPP⟩ oPP bsPP ⟨isPL, jsPL, ksPL⟩ oPL bsPL oTa b17 k17 m17 oLw b16 k16 m16
  have oSp := ok_spo (P := l.prog) (w := w) (mg := mg) (base := base) F20 T cl ⟨isPM, jsPM, ksPM⟩ oPM bsPM ⟨isPF, jsPF, ksPF⟩ oPF bsPF ⟨isPW, jsPW, ksPW⟩ oPW bsPW ⟨isPP, jsPP, ksPP⟩ oPP bsPP
  exact ok_law F21 T cl ⟨p5, isInit, jsInit, p6⟩ mPC oIn bsInit ⟨isPM, jsPM, ksPM⟩ oPM bsPM ⟨isPW, jsPW, ksPW⟩ oPW bsPW ⟨isPP, jsPP, ksPP⟩ oPP bsPP ⟨isPL, jsPL, ksPL⟩ oPL bsPL oTe b18 k18 m18 oSp b20 k20 m20 oMk b19 k19 m19
theorem walk {l : PySem.W.OpenLaw} {q : Program} {loose : List Str} {XP : (Str → Option Value) → Heap → Prop} {YP : World → Heap → Prop} {d : DefRec} {K : Params → PySem.W.Frag} (hn : l.most = some 63) (hdf : d.params.defaults = [])
    (hY : ∀ (w : World) (h : Heap), YP w h → (K w.params).In h)
    (F : ∀ (w : World) (mg : Str → Option Value) (fa : Addr) (h : Heap), (K w.params).In h → h.Ns mainGlobals mg → mg d.name = some (.ref fa) →
      ∃ fd : FuncData, (∀ (s : Shared) (u : Value), BindsTo s fd ⟨[u], []⟩ [("_law_script", u)]) ∧ ∀ base : Heap, (K w.params).In base → base.Ns mainGlobals mg → FnOkL l.prog w (K w.params) mg base CX0 8 fa fd ["_law_script"] (spLaw (K w.params))) :
    PySem.W.WalkO q loose XP YP l.row.toRowW d [] (fun f vs => PySem.call f vs) :=
  L2.walk_of (n := 63) (k := 8) (x := "_law_script") (CX := fun _ => CX0) (sp := fun w => spLaw (K w.params)) hn (by decide) hdf ⟨rfl, by decide, by decide⟩ hY F (fun _ _ a ns hl _ hS => ⟨a, ns, rfl, hS, hl, fun _ => rfl⟩) fun _ _ _ _ _ z => z
end K6
open PySem PySem.W PyProof.Rows
local macro_rules
  | `(tactic| nofun) => `(tactic| first | k_is | kernel_rfl)
namespace PySem.W.Fast
def tw7020466170861348248:=0
def tw1686406432662472661:=0
def tw16902444634935341682:=0
def tw5395914407955418429:=0
def tw17146106449476357249:=0
def tw14611146847542751745:=0
def tw15055779311703242389:=0
def tw93848064157323444:=0
def tw9227818184320274716:=0
def tw11990623288474854328:=0
def tw5063048125263756596:=0
def tw8002344782682610119:=0
def tw1240419663093146011:=0
def tw16706124684965179806:=0
def tw8695451200150079979:=0
def tw13041725083757700696:=0
def tw8517022038958961615:=0
def tw12185320444999114058:=0
def tw15513681999139009397:=0
def tw4646878457656114251:=0
def tw6604874731912719418:=0
def tw13556406849541123887:=0
def tw17341819722726024275:=0
def tw6205658871896508648:=0
def tw8742938407283572542:=0
def tw15915607336878506108:=0
def tw7827675740944224087:=0
def tw16251589000996305991:=0
def tw9730613368939532894:=0
def tw7712686152076743651:=0
def tw11099802808046487513:=0
def tw15520856359117215389:=0
def tw12271042746010065590:=0
def tw10515965274658817289:=0
def tw4132017225523569853:=0
def tw15539104544250184148:=0
def tw7878438512801794423:=0
def tw15730067625092970515:=0
def tw16034576195221869761:=0
def tw6879294925301849884:=0
def tw3983210809742139223:=0
def tw14068124644457641497:=0
def tw7096174344796178017:=0
def tw16912934412387218200:=0
def tw4192061932736584405:=0
def tw16340930013670708039:=0
def tw12926668422333672943:=0
def tw8516638184915785219:=0
def tw18083188455214930545:=0
def tw8773581007224648277:=0
def tw3698944836827914276:=0
def tw5585773914013456236:=0
def tw15601893123330158842:=0
def tw3185399184677260128:=0
def tw17067927033657852066:=0
def tw17088923642854067213:=0
def tw16024881162281477184:=0
def tw11828013890847264393:=0
def tw7640815418395092725:=0
def tw1147602074290769923:=0
def tw2430406296830921239:=0
def tw5915356612236488757:=0
def tw10503228590866016944:=0
def tw8028366884245252055:=0
def tw5171700692495805744:=0
def tw4790352538812397584:=0
def tw13788303618026147332:=0
def tw12618868635215253183:=0
def tw11344902372631373068:=0
def tw5261828951719123805:=0
def tw12292500576535684560:=0
def tw10530704032097044937:=0
def tw8483135162579071628:=0
def tw2153050688657679795:=0
def tw15514250443839358268:=0
def tw13177962464450002789:=0
def tw14787206344730141712:=0
def tw2488042567978702885:=0
def tw4245588796614386378:=0
def tw6232669126098666990:=0
def tw8361073104309271780:=0
def tw18322523743211537926:=0
def tw16511013278906045173:=0
def tw14629704532782983042:=0
def tw17398281109774348672:=0
def tw12491051086326941116:=0
def tw15552081498992113819:=0
def tw7308084699793636938:=0
def tw4494238486810456990:=0
def tw13925918899111020931:=0
def tw17017782897317748373:=0
def tw7578275534412894808:=0
def tw8152408735070424077:=0
def tw13111828440829971343:=0
def tw3703593417979407970:=0
def tw8207255465050005207:=0
def tw14580743866574107199:=0
def tw15311717839180383910:=0
def tw13855529118576018581:=0
def tw3232670416326971092:=0
def tw11706649124525143343:=0
def tw5243109137213045405:=0
def tw5799840135745304810:=0
def tw11142866715292356490:=0
def tw6522487161190888734:=0
def tw8192350354374280039:=0
def tw5330484368181675949:=0
def tw1224759872213302938:=0
def tw550795295123214204:=0
def tw9850094063830213980:=0
def tw18282910145674053594:=0
def tw4324441240724954683:=0
def tw4463315203764399974:=0
def tw5232285206339000299:=0
def tw17987721049664873911:=0
def tw7839082409784912430:=0
def tw250894795325671089:=0
def tw6765064419575019760:=0
def tw13932299014586975625:=0
def tw14635881804201125261:=0
def tw15328227836806918260:=0
def tw2360096625876788683:=0
def tw8445280843824538229:=0
def tw4420014650779257693:=0
def tw15781583274001754409:=0
def tw18406344385718067678:=0
def tw11213779073403197266:=0
def tw6647003521806081168:=0
def tw5648908200949851304:=0
def tw4982309337219647067:=0
def tw2759187750136662836:=0
def tw5433179472601876986:=0
def tw15247951285514963044:=0
def tw12227933234068814713:=0
def tw3708630765844079076:=0
def tw7122920336901022863:=0
def tw16462668857377900227:=0
def tw317472270257714275:=0
def tw14568997226235394784:=0
def tw5651600353275328318:=0
def tw16216718160200789840:=0
def tw9997290885488237011:=0
def tw2359743537022501956:=0
def tw9307843210503233485:=0
def tw2457943233979691846:=0
def tw13555427486070527764:=0
def tw4931951805810111203:=0
def tw17364306503264165763:=0
def tw1684511690520250230:=0
def tw741576668119277848:=0
def tw1397816785748438469:=0
def tw14269202959109356732:=0
def tw18374235861090328857:=0
def tw15003776693569987871:=0
def tw183049802835961970:=0
def tw1435264740461452008:=0
def tw11437323472668174405:=0
def tw14554480363498897684:=0
def tw13561770556149843042:=0
def tw7211268853116237175:=0
def tw4028136468672101134:=0
def tw16086552522928282847:=0
def tw8452734877514849661:=0
def tw8062522805893818144:=0
def tw10510114792118505832:=0
def tw1826930543701118489:=0
def tw13355482926969260168:=0
def tw16458765868112443738:=0
def tw4146367657925830412:=0
def tw6398841063859509852:=0
def tw2422562873335334112:=0
def tw13685468865497408268:=0
def tw2914029530836323274:=0
def tw6678956075214793824:=0
def tw875475818570098645:=0
def tw12339152882838740140:=0
def tw14834255040344873693:=0
def tw7490934410293809030:=0
def tw400080401996378952:=0
def tw6291198651448274847:=0
def tw2802691891493464043:=0
def tw7300095279476075788:=0
def tw14770358278986340969:=0
def tw9636568073024531727:=0
def tw5768880489297441102:=0
def tw17668733741617921324:=0
def tw14015279406531614128:=0
def tw1815940203145292702:=0
def tw9278866437521499971:=0
def tw10517168378502456346:=0
def tw12831235854260154688:=0
def tw11920434142903486030:=0
def tw15547543928429990940:=0
def tw6910222769841360493:=0
def tw9117501506992956821:=0
def tw17794081665872038916:=0
def tw1750246075882063939:=0
def tw5096306614983546353:=0
def tw5760872138557695335:=0
def tw1309524222645964994:=0
def tw13442255717217541571:=0
def tw3295707472081345518:=0
def tw6949635554054318181:=0
def tw10685180808046896724:=0
def tw15010034596839382712:=0
def tw8158775767523549629:=0
def tw8806577971465041446:=0
def tw1922794183210240231:=0
def tw10942162526045038608:=0
def tw503004943032763090:=0
def tw10065435498669193180:=0
def tw7221295437391995334:=0
def tw4622183487715367486:=0
def tw3477265671154352211:=0
def tw4010173491922565586:=0
def tw15547297375151131396:=0
def tw5925622856201483346:=0
def tw14317825887681073750:=0
def tw9890648577215661282:=0
def tw3143993691408327983:=0
def tw6428214342521331398:=0
def tw17004779508383603734:=0
def tw14171956208789047294:=0
def tw15310984768526563818:=0
def tw3748456338421059433:=0
def tw8417501947311253195:=0
def tw307884667541914057:=0
def tw9339568894791512604:=0
def tw8876972394566835819:=0
def tw9296294572724820187:=0
def tw17412061343097577478:=0
def tw2661222508807153499:=0
def tw8038884060467899017:=0
def tw13305032653169399463:=0
def tw6365441301414813420:=0
def tw4155461115298069336:=0
def tw6986889230223157033:=0
def tw10272315686412066760:=0
def tw2177958416688172496:=0
def tw1722457674060610675:=0
def tw16202086712402218861:=0
def tw17891453485225917610:=0
end PySem.W.Fast
set_option maxRecDepth 100000 in
set_option maxHeartbeats 0 in
theorem PySem.Challenge.cw_findcourt_k06_pieces_holds : PySem.Challenge.rw_findcourt_k06_pieces.Holds := by
  w_on; o_law; k_head; (case hw => w_witness2)
  k_fill
  refine K6.walk (l := PySem.Challenge.rw_findcourt_k06_pieces) rfl rfl (fun w h Y => PySem.W.kIn_of Y) ?F
  case F =>
    intro w mg fa h KX G hmg
    refine' K6.all_mk (tk0 := 0) KX G hmg ?a1 ?l1 ?c1 ?k1 ?a2 ?l2 ?c2 ?k2 ?a3 ?l3 ?c3 ?k3 ?a4 ?l4 ?c4 ?k4 ?a5 ?l5 ?c5 ?k5 ?a6 ?l6 ?c6 ?k6 ?a7 ?l7 ?c7 ?k7 ?a8 ?l8 ?c8 ?k8 ?a9 ?l9 ?c9 ?k9 ?a10 ?l10 ?c10 ?k10 ?a11 ?l11 ?c11 ?k11 ?a12 ?l12 ?c12 ?k12 ?a13 ?l13 ?c13 ?k13 ?a14 ?l14 ?c14 ?k14 ?a15 ?l15 ?c15 ?k15 ?a16 ?l16 ?c16 ?k16 ?a17 ?l17 ?c17 ?k17 ?a18 ?l18 ?c18 ?k18 ?a19 ?l19 ?c19 ?k19 ?a20 ?l20 ?c20 ?k20 ?a21 ?l21 ?c21 ?k21 ?nPC ?isInit ?jsInit ?lsInit ?csInit ?ksInit ?isPM ?jsPM ?lsPM ?csPM ?ksPM ?isPF ?jsPF ?lsPF ?csPF ?ksPF ?isPW ?jsPW ?lsPW ?csPW ?ksPW ?isPP ?jsPP ?lsPP ?csPP ?ksPP ?isPL ?jsPL ?lsPL ?csPL ?ksPL ?p1 ?p2 ?p3 ?p4 ?p5 ?p6 ?q1 ?q2 ?q3 ?s1 ?z1 ?z2 ?z3 ?z4 ?z5 ?z6 ?z7 ?z8 ?z9 ?z10 ?z11 ?z12
    (case a1 => nofun)
    (case l1 => nofun)
    (case c1 => nofun)
    (case k1 => nofun)
    (case a2 => nofun)
    (case l2 => nofun)
    (case c2 => nofun)
    (case k2 => nofun)
    (case a3 => nofun)
    (case l3 => nofun)
    (case c3 => nofun)
    (case k3 => nofun)
    (case a4 => nofun)
    (case l4 => nofun)
    (case c4 => nofun)
    (case k4 => nofun)
    (case a5 => nofun)
    (case l5 => nofun)
    (case c5 => nofun)
    (case k5 => nofun)
    (case a6 => nofun)
    (case l6 => nofun)
    (case c6 => nofun)
    (case k6 => nofun)
    (case a7 => nofun)
    (case l7 => nofun)
    (case c7 => nofun)
    (case k7 => nofun)
    (case a8 => nofun)
    (case l8 => nofun)
    (case c8 => nofun)
    (case k8 => nofun)
    (case a9 => nofun)
    (case l9 => nofun)
    (case c9 => nofun)
    (case k9 => nofun)
    (case a10 => nofun)
    (case l10 => nofun)
    (case c10 => nofun)
    (case k10 => nofun)
    (case a11 => nofun)
    (case l11 => nofun)
    (case c11 => nofun)
    (case k11 => nofun)
    (case a12 => nofun)
    (case l12 => nofun)
    (case c12 => nofun)
    (case k12 => nofun)
    (case a13 => nofun)
    (case l13 => nofun)
    (case c13 => nofun)
    (case k13 => nofun)
    (case a14 => nofun)
    (case l14 => nofun)
    (case c14 => nofun)
    (case k14 => nofun)
    (case a15 => nofun)
    (case l15 => nofun)
    (case c15 => nofun)
    (case k15 => nofun)
    (case a16 => nofun)
    (case l16 => nofun)
    (case c16 => nofun)
    (case k16 => nofun)
    (case a17 => nofun)
    (case l17 => nofun)
    (case c17 => nofun)
    (case k17 => nofun)
    (case a18 => nofun)
    (case l18 => nofun)
    (case c18 => nofun)
    (case k18 => nofun)
    (case a19 => nofun)
    (case l19 => nofun)
    (case c19 => nofun)
    (case k19 => nofun)
    (case a20 => nofun)
    (case l20 => nofun)
    (case c20 => nofun)
    (case k20 => nofun)
    (case a21 => nofun)
    (case l21 => nofun)
    (case c21 => nofun)
    (case k21 => nofun)
    (case nPC => nofun)
    (case isInit => nofun)
    (case jsInit => nofun)
    (case lsInit => nofun)
    (case csInit => nofun)
    (case ksInit => nofun)
    (case isPM => nofun)
    (case jsPM => nofun)
    (case lsPM => nofun)
    (case csPM => nofun)
    (case ksPM => nofun)
    (case isPF => nofun)
    (case jsPF => nofun)
    (case lsPF => nofun)
    (case csPF => nofun)
    (case ksPF => nofun)
    (case isPW => nofun)
    (case jsPW => nofun)
    (case lsPW => nofun)
    (case csPW => nofun)
    (case ksPW => nofun)
    (case isPP => nofun)
    (case jsPP => nofun)
    (case lsPP => nofun)
    (case csPP => nofun)
    (case ksPP => nofun)
    (case isPL => nofun)
    (case jsPL => nofun)
    (case lsPL => nofun)
    (case csPL => nofun)
    (case ksPL => nofun)
    (case p1 => nofun)
    (case p2 => nofun)
    (case p3 => nofun)
    (case p4 => nofun)
    (case p5 => nofun)
    (case p6 => nofun)
    (case q1 => nofun)
    (case q2 => nofun)
    (case q3 => nofun)
    (case s1 => nofun)
    (case z1 => nofun)
    (case z2 => nofun)
    (case z3 => nofun)
    (case z4 => nofun)
    (case z5 => nofun)
    (case z6 => nofun)
    (case z7 => nofun)
    (case z8 => nofun)
    (case z9 => nofun)
    (case z10 => nofun)
    (case z11 => nofun)
    (case z12 => nofun)
