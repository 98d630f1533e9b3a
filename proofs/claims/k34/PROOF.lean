import PyProof.Rows.All
import Wide.All
import OpenK.AllK
import Wide.FinOn
import Lean
import PyProof.EqAt
import PyProof.EqKinds
import PyProof.TupleCall
import PyProof.EnumFor
import PyProof.EnumMake
import PyProof.EnumStmt
import PyProof.WalksEnum
import PyProof.NeKinds
import PyProof.CompFree
import PyProof.CompMap
import PyProof.Rows.Range3
import PyProof.Rows.ChunkEnd
import PyProof.Rows.StrCase
import PyProof.Rows.StrIndexOr
import PyProof.StrLawsIn
import PyProof.StrLawsIdx
import PyProof.SliceStr2
import PyProof.StrWalks
import PyProof.StationsW
import PyProof.ExcClass3
import PyProof.RulesAs
import PyProof.NsDelKeeps
import PyProof.ExcInit
import PyProof.ExcArgsOwn
import PyProof.InstStore
import PyProof.InstLoad
import PyProof.ExcBaseAll.ValueError
import PyProof.InstStoreFacts
import PyProof.ExcAttrAll.ValueError
import PyProof.Rows.StrJoinMade
import PyProof.ConsumeWalk
import PyProof.DictIter
import PyProof.DictWalks
import PyProof.Rows.SortStr
import PyProof.MeetsSeq
import PyProof.Rows.StrRev
import PyProof.StrOps2
import PyProof.Rows.RuleIs
import PyProof.ExcClass2
import PyProof.SumAny
import PyProof.Rows.FStrParts
import PyProof.Rows.StrNews2
import PyProof.Rows.StrWeight2
import PyProof.CallStr
import KE.KLam
import KE.KNestM
import PyProof.Conv_int_bool
import KE.KIntText
import PyProof.StrReplace2
import PyProof.Rows.StrSplitMax
import PyProof.ZipIter
import PyProof.Rows.MatchSeqLen
import KE.KDictList
import PyProof.StrLawsChain
import PyProof.StrLawsFrom
import KE.IntTextText
import PyProof.Rows.ReprOcc
import PySem.Challenge.RW_findcourt_k34_lines_of_deeds_looked_at
set_option Elab.async false
set_option linter.all false
set_option maxRecDepth 100000
namespace L2
open PySem
theorem runs_toks {M : Model} {Γ : Ctx} {p : Pos} {t : Sem Fin} {fs : List Frame} {s s' : Shared} {e : End} (h : Runs M Γ p t fs s e s') : s.toks ≤ s'.toks := by
  induction h <;> first
    | exact Nat.le_refl _
    | assumption
    | omega
    | (simp only [Shared.setGen] at *; omega)
theorem wakes_toks {M : Model} {Γ : Ctx} {p : Pos} {g : Nat} {r : Resume} {s s' : Shared} {res : GenResult} (h : Wakes M Γ p g r s res s') : s.toks ≤ s'.toks := by
  unfold Wakes at h
  split at h
  · exact h.elim
  · split at h
    · obtain ⟨e₁, s₁, h1, _, _, rfl⟩ := h
      exact (show (s.setGen g .running).toks ≤ s₁.toks from runs_toks h1)
    · obtain ⟨_, rfl⟩ := h; exact Nat.le_refl _
    · obtain ⟨_, rfl⟩ := h; exact Nat.le_refl _
  · obtain ⟨e₁, s₁, h1, _, _, rfl⟩ := h
    exact (show (s.setGen g .running).toks ≤ s₁.toks from runs_toks h1)
  · obtain ⟨_, rfl⟩ := h; exact Nat.le_refl _
  · obtain ⟨_, rfl⟩ := h; exact Nat.le_refl _
theorem wp_tok {α : Type} {M : Model} {Γ : Ctx} (n : Nat) (t : Sem α) {Q : α → Pos → Shared → Prop} {E : Value → Pos → Shared → Prop} : ∀ {p : Pos} {s : Shared}, n ≤ s.toks → Sem.wp M Γ t Q E p s →
    Sem.wp M Γ t (fun a p' s' => n ≤ s'.toks ∧ Q a p' s') (fun e p' s' => n ≤ s'.toks ∧ E e p' s') p s := by
  induction t with
  | pure a => intro p s z h; rw [Sem.wp] at h ⊢; exact ⟨z, h⟩
  | raise e => intro p s z h; rw [Sem.wp] at h ⊢; exact ⟨z, h⟩
  | load a _ k ih => intro p s z h; rw [Sem.wp] at h ⊢; obtain ⟨o, e, h⟩ := h; exact ⟨o, e, ih _ z h⟩
  | update a _ f k ih => intro p s z h; rw [Sem.wp] at h ⊢; exact ⟨h.1, ih _ (by exact z) h.2⟩
  | fresh k ih => intro p s z h; rw [Sem.wp] at h ⊢; exact ih _ (Nat.le_succ_of_le z) h
  | choose src m k ih => intro p s z h; rw [Sem.wp] at h ⊢; exact ⟨h.1, ih _ (by exact z) h.2⟩
  | call c hd g l k ih =>
    intro p s z h
    rw [Sem.wp] at h ⊢
    obtain ⟨r, s1, h1, h2⟩ := h
    exact ⟨r, s1, h1, ih _ (Nat.le_trans z (runs_toks h1)) h2⟩
  | genState g k ih => intro p s z h; rw [Sem.wp] at h ⊢; obtain ⟨st, e, h⟩ := h; exact ⟨st, e, ih _ z h⟩
  | resume g r l k ih =>
    intro p s z h
    rw [Sem.wp] at h ⊢
    obtain ⟨res, s1, h1, h2⟩ := h
    exact ⟨res, s1, h1, ih _ (Nat.le_trans z (wakes_toks h1)) h2⟩
  | _ => first
    | (intro p s z h; rw [Sem.wp] at h; exact h.elim)
    | (rename_i ih; intro p s z h; rw [Sem.wp] at h ⊢; exact ih _ (by exact z) h)
theorem wpAny_tok {α : Type} {M : Model} {A : Around} {t : Sem α} {Q : α → Shared → Prop} {E : Value → Shared → Prop} {s : Shared} (z : 0 < s.toks)
    (h : wpAny M A t (fun a s' => 0 < s'.toks → Q a s') (fun e s' => 0 < s'.toks → E e s') s) : wpAny M A t Q E s := fun Γ p hΓ =>
  Sem.wp_mono M Γ t (fun _ _ _ ⟨z', q⟩ => q z') (fun _ _ _ ⟨z', q⟩ => q z') p s (wp_tok 1 t z (h Γ p hΓ))
end L2

namespace L2
open PySem PySem.Spec PyProof.Rows

abbrev Key := Sum Int Str
def keyIs : Key → Value → Bool
  | .inl k, v => Value.isInt k v
  | .inr x, v => Value.isStrOf x v
def keyH (w : World) : Key → Int
  | .inl k => hashInt k
  | .inr x => hashStr w x
theorem keyIs_shape : ∀ {k : Key} {v : Value}, keyIs k v = true → (∃ i t, k = Sum.inl i ∧ v = Value.int i t) ∨ (∃ x t, k = Sum.inr x ∧ v = Value.str x t)
  | .inl i, v, h => by
    obtain ⟨t, e⟩ := Value.isInt_shape (k := i) (v := v) h
    exact .inl ⟨i, t, rfl, e⟩
  | .inr x, v, h => by
    obtain ⟨t, e⟩ := Value.isStrOf_shape (x := x) (v := v) h
    exact .inr ⟨x, t, rfl, e⟩
theorem keyIs_int (i : Int) (t : Tok) : keyIs (.inl i) (.int i t) = true := by simp [keyIs, Value.isInt]
theorem keyIs_str (x : Str) (t : Tok) : keyIs (.inr x) (.str x t) = true := by simp [keyIs, Value.isStrOf]
theorem key_ll (a b : Int) : decide ((Sum.inl a : Key) = Sum.inl b) = (a == b) := by
  by_cases e : a = b
  · subst e; simp
  · have h : ¬ (Sum.inl a : Key) = Sum.inl b := fun q => e (Sum.inl.inj q)
    rw [decide_eq_false h]
    exact (beq_eq_false_iff_ne.mpr e).symm
theorem key_rr (a b : Str) : decide ((Sum.inr a : Key) = Sum.inr b) = decide (a = b) := by
  by_cases e : a = b
  · subst e; simp
  · have h : ¬ (Sum.inr a : Key) = Sum.inr b := fun q => e (Sum.inr.inj q)
    rw [decide_eq_false h, decide_eq_false e]
theorem key_lr (a : Int) (b : Str) : decide ((Sum.inl a : Key) = Sum.inr b) = false := decide_eq_false (fun q => nomatch q)
theorem key_rl (a : Str) (b : Int) : decide ((Sum.inr a : Key) = Sum.inl b) = false := decide_eq_false (fun q => nomatch q)

def mixKind (prog : Program) (w : World) : PySem.KeyKind prog w Key where
  is := keyIs
  hash := keyH w
  inj := fun v a b ha hb => by
    rcases keyIs_shape ha with ⟨i, t, rfl, rfl⟩ | ⟨x, t, rfl, rfl⟩
    · rcases keyIs_shape hb with ⟨j, u, rfl, e⟩ | ⟨y, u, rfl, e⟩
      · injection e with e1 _; rw [e1]
      · exact nomatch e
    · rcases keyIs_shape hb with ⟨j, u, rfl, e⟩ | ⟨y, u, rfl, e⟩
      · exact nomatch e
      · injection e with e1 _; rw [e1]
  byValue := fun k v h => by
    rcases keyIs_shape h with ⟨i, t, rfl, rfl⟩ | ⟨x, t, rfl, rfl⟩ <;> rfl
  pyHash := fun hv h => by
    rcases keyIs_shape hv with ⟨i, t, rfl, rfl⟩ | ⟨x, t, rfl, rfl⟩
    · exact wpAny_pyHash_int h
    · exact wpAny_pyHash_str h
  eqBool := fun hu hv h => by
    rcases keyIs_shape hu with ⟨i, t, rfl, rfl⟩ | ⟨x, t, rfl, rfl⟩
    · rcases keyIs_shape hv with ⟨j, u, rfl, rfl⟩ | ⟨y, u, rfl, rfl⟩
      · rw [key_ll] at h; exact wpAny_eqBool_int h
      · rw [key_lr] at h; exact SeqAt.EqAt.int_str i t y u _ _ _ _ h
    · rcases keyIs_shape hv with ⟨j, u, rfl, rfl⟩ | ⟨y, u, rfl, rfl⟩
      · rw [key_rl] at h; exact SeqAt.EqAt.str_int x t j u _ _ _ _ h
      · rw [key_rr] at h; exact wpAny_eqBool_str h
  «strs» := fun k x t v h => by
    rcases keyIs_shape h with ⟨i, u, rfl, e⟩ | ⟨y, u, rfl, e⟩
    · exact nomatch e
    · injection e with e1 _
      subst e1
      cases v <;> rfl

theorem mixKind_is (prog : Program) (w : World) (k : Key) (v : Value) : (mixKind prog w).is k v = keyIs k v := rfl
theorem mixKind_int (prog : Program) (w : World) (i : Int) (t : Tok) : (mixKind prog w).is (.inl i) (.int i t) = true := keyIs_int i t
theorem mixKind_str (prog : Program) (w : World) (x : Str) (t : Tok) : (mixKind prog w).is (.inr x) (.str x t) = true := keyIs_str x t
end L2

namespace L2
open PySem PySem.Spec PyProof.Rows

inductive V where
  | non | bl (b : Bool) | int (i : Int) | str (x : Str) | byt (b : Array UInt8) | flt (b : UInt64) | ref (a : Addr) | ty (n : String)
  deriving DecidableEq

def RelV : V → Value → Prop
  | .non, u => u = Value.none
  | .bl b, u => u = Value.bool b
  | .int i, u => ∃ t, u = Value.int i t
  | .str x, u => ∃ t, u = Value.str x t
  | .byt b, u => ∃ t, u = Value.bytes b t
  | .flt b, u => ∃ t, u = Value.float b t
  | .ref a, u => u = Value.ref a
  | .ty n, u => u = Value.type n

abbrev Vals : List V → List Value → Prop := Paired RelV
theorem Vals.length {xs : List V} {us : List Value} (r : Vals xs us) : xs.length = us.length := Paired.length r
theorem Vals.get : ∀ {xs : List V} {us : List Value} {i : Nat} {x : V}, Vals xs us → xs[i]? = some x → ∃ u, us[i]? = some u ∧ RelV x u
  | _, _, _, _, .nil, e => by simp at e
  | _, _, 0, _, .cons r _, e => by simp at e; subst e; exact ⟨_, rfl, r⟩
  | _, _, i + 1, x, .cons _ t, e => by
    obtain ⟨u, h1, h2⟩ := Vals.get (i := i) (x := x) t (by simpa using e)
    exact ⟨u, by simpa using h1, h2⟩
theorem Vals.set {x : V} {u : Value} (r : RelV x u) : ∀ {xs : List V} {us : List Value} (i : Nat), Vals xs us → Vals (xs.set i x) (us.set i u)
  | _, _, _, .nil => .nil
  | _, _, 0, .cons _ t => .cons r t
  | _, _, i + 1, .cons q t => .cons q (Vals.set r i t)
theorem Vals.append : ∀ {xs ys : List V} {us ws : List Value}, Vals xs us → Vals ys ws → Vals (xs ++ ys) (us ++ ws)
  | _, _, _, _, .nil, s => s
  | _, _, _, _, .cons r t, s => .cons r (Vals.append t s)
theorem Vals.take : ∀ {xs : List V} {us : List Value} (n : Nat), Vals xs us → Vals (xs.take n) (us.take n)
  | _, _, 0, _ => .nil
  | _, _, _ + 1, .nil => .nil
  | _, _, n + 1, .cons r t => .cons r (Vals.take n t)
theorem Vals.drop : ∀ {xs : List V} {us : List Value} (n : Nat), Vals xs us → Vals (xs.drop n) (us.drop n)
  | _, _, 0, r => r
  | _, _, _ + 1, .nil => .nil
  | _, _, n + 1, .cons _ t => Vals.drop n t
theorem Vals.none_of : ∀ {xs : List V} {us : List Value} {i : Nat}, Vals xs us → xs[i]? = none → us[i]? = none := fun {xs us i} r e => by
  have h1 := r.length
  have h2 : xs.length ≤ i := List.getElem?_eq_none_iff.mp e
  exact List.getElem?_eq_none_iff.mpr (by omega)

def RelO : Option V → Option Value → Prop
  | some v, some u => RelV v u
  | none, none => True
  | _, _ => False
def KV {κ : Type} : List (κ × V) → List (κ × Value) → Prop := Paired fun (p : κ × V) (q : κ × Value) => p.1 = q.1 ∧ RelV p.2 q.2

def kV : Key → V
  | .inl i => .int i
  | .inr x => .str x

inductive HO where
  /-- a list -/
  | lst (xs : List V)
  /-- a tuple (never changes) -/
  | tup (xs : List V)
  /-- a dict whose keys are ints and texts; one whose keys are tuples of ints and texts (the empty one is both) -/
  | dK (kvs : List (Key × V)) | dT (kvs : List (List Key × V))
  /-- a set of ints: its members, its size -/
  | set (S : Int → Bool) (n : Nat)
  /-- an instance of the class at C, its dict at dx, its attributes -/
  | ins (C dx : Addr) (fs : List (Str × V))
  /-- the dict of the instance at x -/
  | own (x : Addr)
  /-- the dict of an exception -/
  | xd (fs : List (Str × V))
  /-- a bound method, f of x -/
  | met (f x : Addr)
  /-- a range object lo, lo + 1, .. below hi -/
  | rng (lo hi : Int)
  /-- a thing that is known to the object (the script; a dict while a loop walks it): read, never written while it is so -/
  | frz (o : Obj) (u : HO)
  /-- a code object's table -/
  | tbl (ps : Array Value)
  /-- any other thing, by what is true of its one object (a def of one's own: SetO a S n := HO.ext fun h => ..) -/
  | ext (φ : Heap → Prop)

abbrev Hp := Addr → Option HO
def upd (H : Hp) (a : Addr) (o : HO) : Hp := fun b => if b = a then some o else H b
theorem upd_same {H : Hp} {a : Addr} {o : HO} : upd H a o a = some o := by unfold upd; rw [if_pos rfl]
theorem upd_ne {H : Hp} {a b : Addr} {o : HO} (h : b ≠ a) : upd H a o b = H b := by unfold upd; rw [if_neg h]
theorem upd_upd {H : Hp} {a : Addr} {o u : HO} : upd (upd H a o) a u = upd H a u := by
  funext b; unfold upd; split <;> rfl
theorem ne_of {H : Hp} {a b : Addr} {o u : HO} (h : H a = some o) (h' : H b = some u) (d : o ≠ u) : a ≠ b := by
  intro e; subst e; rw [h] at h'; exact d (Option.some.inj h')
theorem ne_of_none {H : Hp} {a b : Addr} {o : HO} (h : H a = some o) (h' : H b = none) : a ≠ b := by
  intro e; subst e; rw [h] at h'; cases h'

section
variable (P : Program) (w : World)
def ObjOk (H : Hp) (h : Heap) (a : Addr) : HO → Prop
  | .lst xs => xs.length ≤ sizeLine ∧ ∃ (its : List Value) (n : Nat), Vals xs its ∧ h.get? a = some { cls := .type "list", data := .seq its.toArray n }
  | .tup xs => xs.length ≤ sizeLine ∧ ∃ its : List Value, Vals xs its ∧ IsTup h a its.toArray
  | .dK kvs => kvs.length ≤ sizeLine ∧ (a == sysModules) = false ∧ ∃ vs, KV kvs vs ∧ h.DictOf (mixKind P w) a vs
  | .dT kvs => kvs.length ≤ sizeLine ∧ (a == sysModules) = false ∧ ∃ xs : List (List Key × Addr × Value),
      Paired (fun (p : List Key × V) (q : List Key × Addr × Value) => p.1 = q.1 ∧ H q.2.1 = some (.tup (p.1.map kV)) ∧ RelV p.2 q.2.2) kvs xs ∧
      ∃ o es ep, h.get? a = some o ∧ o.ExactDict ∧ o.data = .dict es ep ∧ es.toList = xs.map (entryOfKey (tupleKind (mixKind P w))) ∧ (xs.map (·.1)).Nodup
  | .set S n => h.SetOf (intKind P w) a S n
  | .ins C dx fs => H dx = some (.own a) ∧ fs.length ≤ 1000 ∧ dx ≠ a ∧ h.get? a = some (PySem.W.instObj C dx) ∧
      ∃ mA, h.Ns1 dx mA ∧ (∀ f, RelO (fs.lookup f) (mA f)) ∧ PySem.Within mA (fs.map (·.1))
  | .own _ => ∃ o, h.get? a = some o
  | .xd fs => ∃ mA, h.Ns1 a mA ∧ ∀ f, RelO (fs.lookup f) (mA f)
  | .rng lo hi => ∃ t u v, h.get? a = some { cls := .type "range", data := .fields #[.int lo t, .int hi u, .int 1 v] }
  | .frz o u => h.get? a = some o ∧ ObjOk H h a u
  | .tbl ps => h.get? a = some { cls := .none, data := .fields ps }
  | .met f x => h.get? a = some (PySem.W.methodObj (.ref f) (.ref x))
  | .ext φ => φ h ∧ (∃ o, h.get? a = some o) ∧ ∀ h1 h2 : Heap, φ h1 → (∀ o, h1.get? a = some o → h2.get? a = some o) → φ h2
def HOk (H : Hp) (h : Heap) : Prop := ∀ a o, H a = some o → ObjOk P w H h a o
end

section
variable {P : Program} {w : World} {H H' : Hp} {h h' : Heap} {a : Addr} {o : HO}
theorem ObjOk.lt (x : ObjOk P w H h a o) : a < h.objs.size := by
  cases o with
  | lst xs => obtain ⟨_, _, _, _, e⟩ := x; exact Heap.lt_size e
  | tup xs => obtain ⟨_, _, _, p⟩ := x; exact p.lt
  | dK kvs => obtain ⟨_, _, _, _, o, _, _, e, _⟩ := x; exact Heap.lt_size e
  | dT kvs => obtain ⟨_, _, _, _, o, _, _, e, _⟩ := x; exact Heap.lt_size e
  | set S n => obtain ⟨o, _, _, _, e, _⟩ := x; exact Heap.lt_size e
  | ins C dx fs => obtain ⟨_, _, _, e, _⟩ := x; exact Heap.lt_size e
  | own y => obtain ⟨_, e⟩ := x; exact Heap.lt_size e
  | xd fs => obtain ⟨_, ⟨_, _, _, e, _⟩, _⟩ := x; exact Heap.lt_size e
  | rng lo hi => obtain ⟨_, _, _, e⟩ := x; exact Heap.lt_size e
  | frz ob u => obtain ⟨e, _⟩ := x; exact Heap.lt_size e
  | tbl ps => exact Heap.lt_size (show h.get? a = some _ from x)
  | met f y => exact Heap.lt_size (show h.get? a = some _ from x)
  | ext φ => obtain ⟨_, ⟨_, e⟩, _⟩ := x; exact Heap.lt_size e
theorem Paired.mapP {α β : Type} {F G : α → β → Prop} : ∀ {l₁ : List α} {l₂ : List β}, Paired F l₁ l₂ → (∀ a b, F a b → G a b) → Paired G l₁ l₂
  | _, _, .nil, _ => .nil
  | _, _, .cons r t, f => .cons (f _ _ r) (Paired.mapP t f)
theorem ObjOk.stay (x : ObjOk P w H h a o) (k : ∀ b u, (b = a ∨ H b = some (.own a)) → h.get? b = some u → h'.get? b = some u)
    (ho : ∀ b, H b = some (.own a) → H' b = some (.own a)) (ht : ∀ b xs, H b = some (.tup xs) → H' b = some (.tup xs)) : ObjOk P w H' h' a o := by
  induction o with
  | lst xs => obtain ⟨z, its, n, r, e⟩ := x; exact ⟨z, its, n, r, k _ _ (.inl rfl) e⟩
  | tup xs => obtain ⟨z, its, r, ob, e, c⟩ := x; exact ⟨z, its, r, ob, k _ _ (.inl rfl) e, c⟩
  | dK kvs => obtain ⟨z, y, vs, r, ob, es, ep, e, c⟩ := x; exact ⟨z, y, vs, r, ob, es, ep, k _ _ (.inl rfl) e, c⟩
  | dT kvs =>
    obtain ⟨z, y, xs, r, ob, es, ep, e, c⟩ := x
    exact ⟨z, y, xs, Paired.mapP r fun p q z => ⟨z.1, ht _ _ z.2.1, z.2.2⟩, ob, es, ep, k _ _ (.inl rfl) e, c⟩
  | set S n => obtain ⟨ob, es, ep, t, e, c⟩ := x; exact ⟨ob, es, ep, t, k _ _ (.inl rfl) e, c⟩
  | ins C dx fs =>
    obtain ⟨d, z, ne, e, mA, ⟨od, es, ep, e2, c⟩, r⟩ := x
    exact ⟨ho _ d, z, ne, k _ _ (.inl rfl) e, mA, ⟨od, es, ep, k _ _ (.inr d) e2, c⟩, r⟩
  | own y => obtain ⟨ob, e⟩ := x; exact ⟨ob, k _ _ (.inl rfl) e⟩
  | xd fs => obtain ⟨mA, ⟨od, es, ep, e, c⟩, r⟩ := x; exact ⟨mA, ⟨od, es, ep, k _ _ (.inl rfl) e, c⟩, r⟩
  | rng lo hi => obtain ⟨t, u, v, e⟩ := x; exact ⟨t, u, v, k _ _ (.inl rfl) e⟩
  | frz ob u ih => obtain ⟨e, q⟩ := x; exact ⟨k _ _ (.inl rfl) e, ih q⟩
  | tbl ps =>
    have e : h.get? a = some { cls := .none, data := .fields ps } := x
    show h'.get? a = some { cls := .none, data := .fields ps }
    exact k a _ (.inl rfl) e
  | met f y =>
    have e : h.get? a = some (PySem.W.methodObj (.ref f) (.ref y)) := x
    show h'.get? a = some (PySem.W.methodObj (.ref f) (.ref y))
    exact k a _ (.inl rfl) e
  | ext φ => obtain ⟨p, ⟨o, e⟩, st⟩ := x; exact ⟨st _ _ p fun o q => k _ _ (.inl rfl) q, ⟨o, k _ _ (.inl rfl) e⟩, st⟩
theorem HOk.lt (x : HOk P w H h) (e : H a = some o) : a < h.objs.size := (x a o e).lt
theorem HOk.fresh (x : HOk P w H h) (e : h.objs.size ≤ a) : H a = none := by
  cases q : H a with
  | none => rfl
  | some u => exact absurd (Nat.lt_of_lt_of_le (x.lt q) e) (Nat.lt_irrefl _)
theorem HOk.kept (x : HOk P w H h) (k : ∀ b u, h.get? b = some u → h'.get? b = some u) : HOk P w H h' := fun a o e =>
  (x a o e).stay (fun b u _ q => k b u q) (fun _ q => q) fun _ _ q => q
theorem HOk.laid (x : HOk P w H h) (k : ∀ b u, h.get? b = some u → h'.get? b = some u) (hp : h.objs.size ≤ a) (new : ObjOk P w (upd H a o) h' a o) : HOk P w (upd H a o) h' := fun b u e => by
  have hn := x.fresh hp
  by_cases hb : b = a
  · subst hb; rw [upd_same] at e; cases e; exact new
  · rw [upd_ne hb] at e
    exact (x b u e).stay (fun c v _ q => k c v q) (fun c q => by rw [upd_ne (ne_of_none q hn)]; exact q) fun c xs q => by rw [upd_ne (ne_of_none q hn)]; exact q
end

def Rd (H : Hp) (a : Addr) (u : HO) : Prop := H a = some u ∨ ∃ o, H a = some (.frz o u)
theorem Rd.of {H : Hp} {a : Addr} {u : HO} (h : H a = some u) : Rd H a u := .inl h
theorem Rd.ok {P : Program} {w : World} {H : Hp} {h : Heap} {a : Addr} {u : HO} (r : Rd H a u) (x : HOk P w H h) : ObjOk P w H h a u := by
  rcases r with r | ⟨o, r⟩
  · exact x a u r
  · obtain ⟨_, q⟩ := x a _ r
    exact q
def Mut : Option HO → Prop
  | some (.lst _) => True
  | some (.dK _) => True
  | some (.dT _) => True
  | some (.set _ _) => True
  | some (.ins _ _ _) => True
  | some (.ext _) => True
  | _ => False
section
variable {P : Program} {w : World} {H : Hp} {h h' : Heap} {x e : Addr} {o' : HO}
theorem HOk.write (ok : HOk P w H h) (mu : Mut (H x)) (he : e = x ∨ H e = some (.own x)) (k : ∀ b u, b ≠ e → h.get? b = some u → h'.get? b = some u) (heo : ∃ u, h'.get? e = some u)
    (new : ObjOk P w (upd H x o') h' x o') : HOk P w (upd H x o') h' := fun b u q => by
  have nown : ∀ c y, H c = some (.own y) → c ≠ x := fun c y r z => by subst z; rw [r] at mu; exact mu
  have ntup : ∀ c xs, H c = some (.tup xs) → c ≠ x := fun c xs r z => by subst z; rw [r] at mu; exact mu
  by_cases hb : b = x
  · subst hb; rw [upd_same] at q; cases q; exact new
  · rw [upd_ne hb] at q
    by_cases hbe : b = e
    · have q' : H b = some (.own x) := by
        rcases he with z | z
        · exact absurd (hbe.trans z) hb
        · rw [hbe]; exact z
      rw [q] at q'; cases q'
      obtain ⟨v, hv⟩ := heo
      exact ⟨v, by rw [hbe]; exact hv⟩
    · refine (ok b u q).stay (fun c v hc r => k c v ?_ r) (fun c r => by rw [upd_ne (nown c b r)]; exact r) fun c xs r => by rw [upd_ne (ntup c xs r)]; exact r
      rcases hc with rfl | hc
      · exact hbe
      · rintro rfl
        rcases he with z | z
        · exact nown c b hc z
        · rw [hc] at z; cases z; exact hb rfl
end

structure Un (fs ex : List Addr) (H H' : Hp) (h h' : Heap) : Prop where
  keep : ∀ b o, h.get? b = some o → H b = none → b ∉ fs → b ∉ ex → h'.get? b = some o
  slot : ∀ b o, h.get? b = some o → H b = none → b ∈ fs → b ∉ ex → ∃ sl, h'.get? b = some { o with slots := sl }
  free : ∀ b o, h.get? b = some o → H b = none → b ∉ ex → H' b = none
  there : ∀ b o, h.get? b = some o → b ∉ ex → ∃ o', h'.get? b = some o'
  tups : ∀ b xs, H b = some (.tup xs) → H' b = some (.tup xs)
  frzs : ∀ b o u, H b = some (.frz o u) → H' b = some (.frz o u)
  tbls : ∀ b ps, H b = some (.tbl ps) → ∃ more, H' b = some (.tbl (ps ++ more))
section
variable {fs fs' ex ex' : List Addr} {H H1 H2 : Hp} {h h1 h2 h' : Heap} {a x e : Addr} {o : HO}
theorem Un.any (u : Un fs ex H H1 h h1) {b : Addr} {ob : Obj} (q : h.get? b = some ob) (n : H b = none) (hx : b ∉ ex) : ∃ sl, h1.get? b = some { ob with slots := sl } := by
  by_cases hb : b ∈ fs
  · exact u.slot b ob q n hb hx
  · exact ⟨ob.slots, u.keep b ob q n hb hx⟩
theorem Un.trans (a : Un fs ex H H1 h h1) (b : Un fs ex H1 H2 h1 h2) : Un fs ex H H2 h h2 where
  keep := fun c ob q n hc hx => b.keep c ob (a.keep c ob q n hc hx) (a.free c ob q n hx) hc hx
  slot := fun c ob q n hc hx => by
    obtain ⟨sl, e1⟩ := a.slot c ob q n hc hx
    obtain ⟨sl', e2⟩ := b.slot c _ e1 (a.free c ob q n hx) hc hx
    exact ⟨sl', e2⟩
  free := fun c ob q n hx => by
    obtain ⟨o', e1⟩ := a.there c ob q hx
    exact b.free c o' e1 (a.free c ob q n hx) hx
  there := fun c ob q hx => by
    obtain ⟨o', e1⟩ := a.there c ob q hx
    exact b.there c o' e1 hx
  tups := fun c xs q => b.tups c xs (a.tups c xs q)
  frzs := fun c ob xs q => b.frzs c ob xs (a.frzs c ob xs q)
  tbls := fun c ps q => by
    obtain ⟨m1, e1⟩ := a.tbls c ps q
    obtain ⟨m2, e2⟩ := b.tbls c _ e1
    exact ⟨m1 ++ m2, by rw [e2, Array.append_assoc]⟩
theorem Un.kept (k : ∀ b u, h.get? b = some u → h'.get? b = some u) : Un fs ex H H h h' :=
  ⟨fun b ob q _ _ _ => k b ob q, fun b ob q _ _ _ => ⟨ob.slots, k b ob q⟩, fun _ _ _ n _ => n, fun b ob q _ => ⟨ob, k b ob q⟩, fun _ _ q => q, fun _ _ _ q => q, fun _ ps q => ⟨#[], by rw [q]; simp⟩⟩
theorem Un.refl : Un fs ex H H h h := Un.kept fun _ _ q => q
theorem Un.laid (k : ∀ b u, h.get? b = some u → h'.get? b = some u) (hp : h.objs.size ≤ a) (hn : H a = none) : Un fs ex H (upd H a o) h h' where
  keep := fun b u q _ _ _ => k b u q
  slot := fun b u q _ _ _ => ⟨u.slots, k b u q⟩
  free := fun b u q n _ => by rw [upd_ne (Nat.ne_of_lt (Nat.lt_of_lt_of_le (Heap.lt_size q) hp))]; exact n
  there := fun b u q _ => ⟨u, k b u q⟩
  tups := fun b xs q => by rw [upd_ne (ne_of_none q hn)]; exact q
  frzs := fun b u xs q => by rw [upd_ne (ne_of_none q hn)]; exact q
  tbls := fun b ps q => ⟨#[], by rw [upd_ne (ne_of_none q hn), q]; simp⟩
theorem Un.write (mu : Mut (H x)) (he : e = x ∨ H e = some (.own x)) (k : ∀ b u, b ≠ e → h.get? b = some u → h'.get? b = some u) (heo : ∃ u, h'.get? e = some u) : Un fs ex H (upd H x o) h h' := by
  have hx : ∀ b, H b = none → b ≠ x := fun b n z => by subst z; rw [n] at mu; exact mu
  have hb : ∀ b, H b = none → b ≠ e := fun b n z => by
    subst z
    rcases he with r | r
    · exact hx b n r
    · rw [n] at r; cases r
  have hm : ∀ b u, H b = some u → ¬ Mut (some u) → b ≠ x := fun b u q nm z => by subst z; rw [q] at mu; exact nm mu
  refine ⟨fun b u q n _ _ => k b u (hb b n) q, fun b u q n _ _ => ⟨u.slots, k b u (hb b n) q⟩, fun b u q n _ => by rw [upd_ne (hx b n)]; exact n, fun b u q _ => ?_,
    fun b xs q => by rw [upd_ne (hm b _ q fun z => z)]; exact q, fun b u xs q => by rw [upd_ne (hm b _ q fun z => z)]; exact q, fun b ps q => ⟨#[], by rw [upd_ne (hm b _ q fun z => z), q]; simp⟩⟩
  by_cases hbe : b = e
  · subst hbe; exact heo
  · exact ⟨u, k b u hbe q⟩
theorem Un.mono (u : Un fs ex H H1 h h1) (hs : ∀ b ∈ fs, b ∈ fs') (hx : ∀ b ∈ ex, b ∈ ex') : Un fs' ex' H H1 h h1 :=
  ⟨fun b ob q n hb he => u.keep b ob q n (fun z => hb (hs b z)) fun z => he (hx b z), fun _ _ q n _ he => u.any q n fun z => he (hx _ z), fun b ob q n he => u.free b ob q n fun z => he (hx b z), fun b ob q he => u.there b ob q fun z => he (hx b z), u.tups, u.frzs, u.tbls⟩
end

def trk (h : Heap) (H : Hp) : List Addr := (List.range h.objs.size).filter fun a => (H a).isSome
def hidT (h : Heap) (H : Hp) : Heap := PySem.W.hideAll h (trk h H)
theorem hidT_size (h : Heap) (H : Hp) : (hidT h H).objs.size = h.objs.size := PySem.W.hideAll_size _ _
theorem hidT_get {h : Heap} {H : Hp} {b : Addr} {o : Obj} (e : h.get? b = some o) (n : H b = none) : (hidT h H).get? b = some o :=
  PySem.W.hideAll_get _ e fun hm => by
    have q : (H b).isSome = true := (List.mem_filter.mp hm).2
    rw [n] at q; simp at q
theorem of_hidT {h : Heap} {H : Hp} {b : Addr} {o : Obj} (e : (hidT h H).get? b = some o) : h.get? b = some o ∧ H b = none := by
  have e' : h.get? b = some o := PySem.W.of_hideAll (trk h H) e
  refine ⟨e', ?_⟩
  cases q : H b with
  | none => rfl
  | some x =>
    have hm : b ∈ trk h H := List.mem_filter.mpr ⟨List.mem_range.mpr (Heap.lt_size e'), by simp [q]⟩
    have z : (hidT h H).get? b = none := PySem.W.hideAll_none (trk h H) hm
    rw [z] at e; cases e

def allNews (g h : Heap) (L : Addr) : List (Addr × Obj) := (List.range h.objs.size).filterMap fun a => if a = L ∨ (g.get? a).isSome = true then none else (h.get? a).map fun o => (a, o)
def rest (g h : Heap) (L d : Addr) : List (Addr × Obj) := (allNews g h L).filter fun p => decide (p.1 ≠ d)
end L2

namespace L2
open PySem PySem.Spec PyProof.Rows

structure Mod (K : PySem.W.Frag) (mg : Str → Option Value) (base : Heap) : Prop where
  kin : K.In base
  glob : base.Ns mainGlobals mg
  blt : ∃ mb, base.Ns builtinsNs mb ∧ ∀ x : Str, x ≠ "__name__" → mb x = bootBuiltins x
  nolimit : base.NoLimit

structure Cx where
  prog : Program
  w : World
  K : PySem.W.Frag
  mg : Str → Option Value
  base : Heap
  A : Around
  N : List Str
  s₀ : Shared
  H₀ : Hp
  env : Env
  outer : List Env
  stack : List Env
  ex : List Addr
  fn : Str → Bool
  calm : Bool
  pn : List (Addr × Obj)
  xe : Value → Shared → Prop
def frs (l : List Env) : List Addr := l.filterMap (·.frame)
abbrev Cx.fs (X : Cx) : List Addr := frs X.outer

def Vis (sc : Scope) (x : Str) : Prop := sc.names.lookup x = some .local ∨ sc.names.lookup x = some .cell ∨ sc.names.lookup x = some .free
def Loc (sc : Scope) (x : Str) : Prop := sc.names.lookup x = some .local ∨ sc.names.lookup x = some .cell
def Look (env : Env) (h : Heap) (m : Str → Option Value) (x : Str) (u : Value) : Prop :=
  (env.kindOf x = some .local ∧ m x = some u) ∨ ((env.kindOf x = some .cell ∨ env.kindOf x = some .free) ∧ ∃ c, env.cells.lookup x = some c ∧ h.IsCell c (some u))

structure Cx.Ok (X : Cx) : Prop where
  mod : Mod X.K X.mg X.base
  kind : X.env.scope.kind = .function
  glob : X.env.globals = mainGlobals
  blt : X.env.builtins = builtinsNs
  above : X.s₀.heap.objs.size ≤ X.env.locals
  inj : ∀ x y c, X.env.cells.lookup x = some c → X.env.cells.lookup y = some c → x = y
  has : ∀ x, (X.env.kindOf x = some .cell ∨ X.env.kindOf x = some .free) → ∃ c, X.env.cells.lookup x = some c
  cab : ∀ x c, X.fn x = true → X.env.cells.lookup x = some c → X.s₀.heap.objs.size ≤ c
  hd : X.calm = true → X.A.handled = none
  frames : X.A.frames = some X.stack
  stk : X.stack = X.outer ∨ (X.stack = X.env :: X.outer ∧ X.env.frame = some X.env.locals)
  exf : ∀ b ∈ X.ex, b ≠ X.env.locals ∧ ∀ x c, X.env.cells.lookup x = some c → c ≠ b
  bs : ∀ b o, X.base.get? b = some o → X.s₀.heap.get? b = some o ∧ X.H₀ b = none
  bsz : X.base.objs.size ≤ X.s₀.heap.objs.size
  noex : ∀ b o, X.base.get? b = some o → b ∉ X.ex
  exfs : ∀ b ∈ X.ex, b ∉ X.fs
  funs : X.s₀.heap.FunFrames X.base X.outer
  frf : ∀ b ∈ X.fs, X.H₀ b = none

structure Inw (X : Cx) (pins : List (Addr × Obj)) (σ : List (Option V)) (H : Hp) (s : Shared) : Prop where
  ok : X.Ok
  os : s.os = X.s₀.os
  bare : AllBare s.gens
  base : Un X.fs X.ex X.H₀ H X.s₀.heap s.heap
  loc : ∃ m, s.heap.Ns X.env.locals m ∧ ∀ (i : Nat) (x : Str) (v : V), X.N[i]? = some x → σ[i]? = some (some v) → Vis X.env.scope x → ∃ u, RelV v u ∧ Look X.env s.heap m x u
  cell : ∀ x c, X.env.cells.lookup x = some c → ∃ v, s.heap.IsCell c v
  free : H X.env.locals = none
  freeC : ∀ x c, X.env.cells.lookup x = some c → H c = none
  pin : ∀ p ∈ X.pn ++ pins, s.heap.get? p.1 = some p.2 ∧ H p.1 = none ∧ p.1 ≠ X.env.locals ∧ p.1 ∉ X.fs ∧ ∀ v, p.2.data ≠ .cell v
  hok : HOk X.prog X.w H s.heap
  len : σ.length = X.N.length

section
variable {X : Cx} {pins : List (Addr × Obj)} {σ : List (Option V)} {H H' : Hp} {s : Shared} {h' : Heap}

theorem Cx.Ok.nofr (ok : X.Ok) {b : Addr} {o : Obj} (e : X.base.get? b = some o) : b ∉ X.fs := fun hb => by
  have := (ok.funs.mem hb).1
  rw [e] at this; cases this
theorem Inw.bs (I : Inw X pins σ H s) : ∀ b o, X.base.get? b = some o → s.heap.get? b = some o ∧ H b = none := fun b o e =>
  ⟨I.base.keep b o (I.ok.bs b o e).1 (I.ok.bs b o e).2 (I.ok.nofr e) (I.ok.noex b o e), I.base.free b o (I.ok.bs b o e).1 (I.ok.bs b o e).2 (I.ok.noex b o e)⟩
theorem Inw.bk (I : Inw X pins σ H s) : ∀ b o, X.base.get? b = some o → s.heap.get? b = some o := fun b o e => (I.bs b o e).1
theorem Inw.mod (I : Inw X pins σ H s) : Mod X.K X.mg X.base := I.ok.mod
theorem Inw.kIn (I : Inw X pins σ H s) : X.K.In s.heap := I.ok.mod.kin.keeps I.bk
theorem Inw.nolimit (I : Inw X pins σ H s) : s.heap.NoLimit := I.ok.mod.nolimit.keeps I.bk
theorem Inw.fr (I : Inw X pins σ H s) : ∃ m, Fr X.base X.env.locals s.heap m :=
  let ⟨m, hn, _⟩ := I.loc
  ⟨m, hn, I.bk, Nat.le_trans I.ok.bsz I.ok.above⟩
theorem Inw.lt (I : Inw X pins σ H s) : X.env.locals < s.heap.objs.size := let ⟨_, hn, _⟩ := I.loc; hn.lt
theorem Inw.sz (I : Inw X pins σ H s) : X.s₀.heap.objs.size ≤ s.heap.objs.size := Nat.le_trans I.ok.above (Nat.le_of_lt I.lt)
theorem Inw.nofs (I : Inw X pins σ H s) {a : Addr} (h : s.heap.objs.size ≤ a) : a ∉ X.fs := fun hb => by
  obtain ⟨_, o, ho, _⟩ := I.ok.funs.mem hb
  exact absurd (Nat.lt_of_lt_of_le (Heap.lt_size ho) (Nat.le_trans I.sz h)) (Nat.lt_irrefl _)
theorem Inw.cne (I : Inw X pins σ H s) : ∀ x c, X.env.cells.lookup x = some c → c ≠ X.env.locals := fun x c e z => by
  obtain ⟨v, o, ho, hd⟩ := I.cell x c e
  obtain ⟨m, ⟨o', es, ep, ho', hd', _⟩, _⟩ := I.loc
  rw [z, ho'] at ho; cases ho; rw [hd'] at hd; cases hd
theorem Inw.funs (I : Inw X pins σ H s) : s.heap.FunFrames X.base X.outer := by
  have all : ∀ (l : List Env), (∀ b ∈ frs l, b ∈ X.fs) → X.s₀.heap.FunFrames X.base l → s.heap.FunFrames X.base l := by
    intro l
    induction l with
    | nil => intro _ _; trivial
    | cons env r ih =>
      intro hs hl
      obtain ⟨hk, ⟨L, o, hf, hn, ho, hd⟩, hr⟩ := hl
      have hL : L ∈ X.fs := hs L (by unfold frs; rw [List.filterMap_cons, hf]; exact List.mem_cons_self)
      obtain ⟨sl, e⟩ := I.base.slot L o ho (I.ok.frf L hL) hL fun z => I.ok.exfs L z hL
      exact ⟨hk, ⟨L, _, hf, hn, e, hd⟩, ih (fun b hb => hs b (by unfold frs; rw [List.filterMap_cons, hf]; exact List.mem_cons_of_mem _ hb)) hr⟩
  exact all X.outer (fun _ hb => hb) I.ok.funs

theorem Inw.stack (I : Inw X pins σ H s) : s.heap.FunFrames X.base X.stack := by
  rcases I.ok.stk with e | ⟨e, hf⟩
  · rw [e]; exact I.funs
  · rw [e]
    obtain ⟨m, hn, _⟩ := I.loc
    refine .cons (by rw [I.ok.kind]; decide) hf hn ?_ I.funs
    exact Heap.get?_none_of_le (Nat.le_trans I.ok.bsz I.ok.above)
theorem Inw.stkSub (I : Inw X pins σ H s) : ∀ b ∈ frs X.stack, b ∈ X.env.locals :: X.fs := fun b hb => by
  rcases I.ok.stk with e | ⟨e, hf⟩
  · rw [e] at hb; exact List.mem_cons_of_mem _ hb
  · rw [e] at hb
    unfold frs at hb
    rw [List.filterMap_cons, hf] at hb
    exact hb
theorem Inw.stkFree (I : Inw X pins σ H s) : ∀ b ∈ frs X.stack, H b = none := fun b hb => by
  rcases List.mem_cons.mp (I.stkSub b hb) with e | hb
  · rw [e]; exact I.free
  · obtain ⟨_, o, ho, _⟩ := I.ok.funs.mem hb
    exact I.base.free b o ho (I.ok.frf b hb) fun z => I.ok.exfs b z hb

theorem Inw.step {g' : Array GenState} {t' : Nat} {d' : Drawn} {ch : List Addr} (I : Inw X pins σ H s)
    (hch : ∀ b ∈ ch, (b ∈ X.ex ∨ X.s₀.heap.objs.size ≤ b) ∧ b ≠ X.env.locals ∧ (∀ x c, X.env.cells.lookup x = some c → c ≠ b) ∧ ∀ p ∈ X.pn ++ pins, p.1 ≠ b)
    (keep : ∀ b o, b ≠ X.env.locals → b ∉ X.fs → b ∉ ch → s.heap.get? b = some o → H b = none → h'.get? b = some o)
    (slot : ∀ b o, b ≠ X.env.locals → b ∈ X.fs → b ∉ ch → s.heap.get? b = some o → H b = none → ∃ sl, h'.get? b = some { o with slots := sl }) (free : ∀ b o, b ∉ ch → s.heap.get? b = some o → H b = none → H' b = none)
    (there : ∀ b o, b ∉ ch → s.heap.get? b = some o → ∃ o', h'.get? b = some o')
    (tups : ∀ b xs, H b = some (.tup xs) → H' b = some (.tup xs)) (frzs : ∀ b o u, H b = some (.frz o u) → H' b = some (.frz o u)) (tbls : ∀ b ps, H b = some (.tbl ps) → ∃ more, H' b = some (.tbl (ps ++ more)))
    (ns : ∀ m, s.heap.Ns X.env.locals m → h'.Ns X.env.locals m) (hok : HOk X.prog X.w H' h') (hg : AllBare g') :
    Inw X pins σ H' { s with heap := h', gens := g', drawn := d', toks := t' } := by
  have neL : ∀ b o, X.s₀.heap.get? b = some o → b ≠ X.env.locals := fun b o e => Nat.ne_of_lt (Nat.lt_of_lt_of_le (Heap.lt_size e) I.ok.above)
  have neC : ∀ b o, X.s₀.heap.get? b = some o → b ∉ X.ex → b ∉ ch := fun b o e hx hb => by
    rcases (hch b hb).1 with z | z
    · exact hx z
    · exact absurd (Nat.lt_of_lt_of_le (Heap.lt_size e) z) (Nat.lt_irrefl _)
  have cellK : ∀ x c, X.env.cells.lookup x = some c → ∀ v, s.heap.IsCell c v → h'.IsCell c v := fun x c e v ⟨o, ho, hd⟩ => by
    have nch : c ∉ ch := fun z => (hch c z).2.2.1 x c e rfl
    by_cases hc : c ∈ X.fs
    · obtain ⟨sl, q⟩ := slot c o (I.cne x c e) hc nch ho (I.freeC x c e)
      exact ⟨_, q, hd⟩
    · exact ⟨o, keep c o (I.cne x c e) hc nch ho (I.freeC x c e), hd⟩
  refine ⟨I.ok, I.os, hg, ⟨fun b o e n hb hx => ?_, fun b o e n hb hx => ?_, fun b o e n hx => ?_, fun b o e hx => ?_, fun b xs e => tups b xs (I.base.tups b xs e), fun b o xs e => frzs b o xs (I.base.frzs b o xs e), fun b ps e => ?_⟩, ?_, fun x c e => ?_, ?_, fun x c e => ?_, fun p hp => ?_, hok, I.len⟩
  · exact keep b o (neL b o e) hb (neC b o e hx) (I.base.keep b o e n hb hx) (I.base.free b o e n hx)
  · obtain ⟨sl, e1⟩ := I.base.slot b o e n hb hx
    obtain ⟨sl', e2⟩ := slot b _ (neL b o e) hb (neC b o e hx) e1 (I.base.free b o e n hx)
    exact ⟨sl', e2⟩
  · obtain ⟨o', e1⟩ := I.base.there b o e hx
    exact free b o' (neC b o e hx) e1 (I.base.free b o e n hx)
  · obtain ⟨o', e1⟩ := I.base.there b o e hx
    exact there b o' (neC b o e hx) e1
  · obtain ⟨m1, e1⟩ := I.base.tbls b ps e
    obtain ⟨m2, e2⟩ := tbls b _ e1
    exact ⟨m1 ++ m2, by rw [e2, Array.append_assoc]⟩
  · obtain ⟨m, hn, hl⟩ := I.loc
    refine ⟨m, ns m hn, fun i x v e1 e2 e3 => ?_⟩
    obtain ⟨u, r, l⟩ := hl i x v e1 e2 e3
    refine ⟨u, r, ?_⟩
    rcases l with l | ⟨k, c, e, z⟩
    · exact .inl l
    · exact .inr ⟨k, c, e, cellK x c e _ z⟩
  · obtain ⟨v, z⟩ := I.cell x c e
    exact ⟨v, cellK x c e v z⟩
  · obtain ⟨m, ⟨o, _, _, ho, _⟩, _⟩ := I.loc
    exact free _ o (fun z => (hch _ z).2.1 rfl) ho I.free
  · obtain ⟨v, o, ho, hd⟩ := I.cell x c e
    exact free c o (fun z => (hch c z).2.2.1 x c e rfl) ho (I.freeC x c e)
  · obtain ⟨e, n, ne, nf, d⟩ := I.pin p hp
    have nch : p.1 ∉ ch := fun z => (hch p.1 z).2.2.2 p hp rfl
    exact ⟨keep p.1 p.2 ne nf nch e n, free p.1 p.2 nch e n, ne, nf, d⟩
theorem Inw.un {t' : Nat} (I : Inw X pins σ H s) (u : Un X.fs [] H H' s.heap h') (hok : HOk X.prog X.w H' h') : Inw X pins σ H' { s with heap := h', toks := t' } := by
  obtain ⟨m, ⟨o, es, ep, ho, r⟩, _⟩ := id I.loc
  obtain ⟨sl, hL⟩ := u.any ho I.free (by simp)
  exact I.step (g' := s.gens) (d' := s.drawn) (ch := []) (fun _ z => nomatch z) (fun b o _ hb _ e n => u.keep b o e n hb (by simp)) (fun b o _ hb _ e n => u.slot b o e n hb (by simp)) (fun b o _ e n => u.free b o e n (by simp)) (fun b o _ e => u.there b o e (by simp)) u.tups u.frzs u.tbls (fun m' hm => by
    obtain ⟨o', es', ep', ho', r'⟩ := hm
    rw [ho] at ho'; cases ho'
    exact ⟨_, es', ep', hL, r'⟩) hok I.bare
theorem Inw.call {g' : Array GenState} {t' : Nat} {d' : Drawn} {ch : List Addr} (I : Inw X pins σ H s) (u : Un (frs X.stack) ch H H' s.heap h') (hok : HOk X.prog X.w H' h') (hg : AllBare g')
    (hch : ∀ b ∈ ch, (b ∈ X.ex ∨ X.s₀.heap.objs.size ≤ b) ∧ b ≠ X.env.locals ∧ (∀ x c, X.env.cells.lookup x = some c → c ≠ b) ∧ ∀ p ∈ X.pn ++ pins, p.1 ≠ b) :
    Inw X pins σ H' { s with heap := h', gens := g', drawn := d', toks := t' } := by
  obtain ⟨m, ⟨o, es, ep, ho, r⟩, _⟩ := id I.loc
  obtain ⟨sl, hL⟩ := u.any ho I.free fun z => (hch _ z).2.1 rfl
  exact I.step (ch := ch) hch (fun b o hL hb hc e n => u.keep b o e n (fun z => (List.mem_cons.mp (I.stkSub b z)).elim hL hb) hc) (fun b o _ _ hc e n => u.any e n hc) (fun b o hc e n => u.free b o e n hc) (fun b o hc e => u.there b o e hc) u.tups u.frzs u.tbls (fun m' hm => by
    obtain ⟨o', es', ep', ho', r'⟩ := hm
    rw [ho] at ho'; cases ho'
    exact ⟨_, es', ep', hL, r'⟩) hok hg
theorem Inw.turned {t' : Nat} {it : Addr} (I : Inw X pins σ H s) (k : ∀ b o, b ≠ it → s.heap.get? b = some o → h'.get? b = some o) (hn : H it = none) (hL : it ≠ X.env.locals)
    (h1 : it ∈ X.ex ∨ X.s₀.heap.objs.size ≤ it) (h2 : ∀ x c, X.env.cells.lookup x = some c → c ≠ it) (h3 : ∀ p ∈ X.pn ++ pins, p.1 ≠ it) : Inw X pins σ H { s with heap := h', toks := t' } := by
  have nit : ∀ b u, H b = some u → b ≠ it := fun b u e z => by rw [z, hn] at e; cases e
  refine I.step (g' := s.gens) (d' := s.drawn) (ch := [it]) (fun b hb => ?_) (fun b o _ _ hc e _ => k b o (fun z => hc (by simp [z])) e) (fun b o _ _ hc e _ => ⟨o.slots, k b o (fun z => hc (by simp [z])) e⟩) (fun _ _ _ _ n => n)
    (fun b o hc e => ⟨o, k b o (fun z => hc (by simp [z])) e⟩) (fun _ _ e => e) (fun _ _ _ e => e) (fun b ps e => ⟨#[], by rw [e]; simp⟩) (fun m hm => ?_) (fun b u e => ?_) I.bare
  · have e : b = it := by simpa using hb
    subst e
    exact ⟨h1, hL, h2, h3⟩
  · obtain ⟨o, es, ep, ho, r⟩ := hm
    exact ⟨o, es, ep, k _ o (Ne.symm hL) ho, r⟩
  · refine (I.hok b u e).stay (fun c v hc q => k c v ?_ q) (fun _ q => q) fun _ _ q => q
    rcases hc with z | z
    · rw [z]; exact nit b u e
    · exact nit c _ z
theorem Inw.tok (I : Inw X pins σ H s) (t : Nat) : Inw X pins σ H { s with toks := t } := I.un (h' := s.heap) (t' := t) Un.refl I.hok
theorem Inw.kept {t' : Nat} (I : Inw X pins σ H s) (k : ∀ b u, s.heap.get? b = some u → h'.get? b = some u) : Inw X pins σ H { s with heap := h', toks := t' } := I.un (Un.kept k) (I.hok.kept k)
theorem Inw.laid {a : Addr} {o : HO} {t' : Nat} (I : Inw X pins σ H s) (k : ∀ b u, s.heap.get? b = some u → h'.get? b = some u) (hp : s.heap.objs.size ≤ a) (new : ObjOk X.prog X.w (upd H a o) h' a o) :
    Inw X pins σ (upd H a o) { s with heap := h', toks := t' } := I.un (Un.laid k hp (I.hok.fresh hp)) (I.hok.laid k hp new)
theorem Inw.write {x e : Addr} {o : HO} {t' : Nat} (I : Inw X pins σ H s) (mu : Mut (H x)) (he : e = x ∨ H e = some (.own x)) (k : ∀ b u, b ≠ e → s.heap.get? b = some u → h'.get? b = some u) (heo : ∃ u, h'.get? e = some u)
    (new : ObjOk X.prog X.w (upd H x o) h' x o) : Inw X pins σ (upd H x o) { s with heap := h', toks := t' } := I.un (Un.write mu he k heo) (I.hok.write mu he k heo new)
theorem Inw.pins_of {pins' : List (Addr × Obj)} (I : Inw X pins σ H s) (h : ∀ p ∈ pins', s.heap.get? p.1 = some p.2 ∧ H p.1 = none ∧ p.1 ≠ X.env.locals ∧ p.1 ∉ X.fs ∧ ∀ v, p.2.data ≠ .cell v) : Inw X pins' σ H s :=
  ⟨I.ok, I.os, I.bare, I.base, I.loc, I.cell, I.free, I.freeC, fun p hp => (List.mem_append.mp hp).elim (fun z => I.pin p (List.mem_append_left _ z)) (h p), I.hok, I.len⟩

theorem nodup_ix {N : List Str} (hN : N.Nodup) {i j : Nat} {x : Str} (a : N[i]? = some x) (b : N[j]? = some x) : i = j := by
  obtain ⟨h1, e1⟩ := List.getElem?_eq_some_iff.mp a
  obtain ⟨h2, e2⟩ := List.getElem?_eq_some_iff.mp b
  exact (List.getElem_inj hN).mp (e1.trans e2.symm)

theorem store_ok2 {M : Model} {A : Around} {E : Value → Shared → Prop} {i : Nat} {x : Str} {v : V} {u : Value} {Q : Unit → Shared → Prop} (I : Inw X pins σ H s) (hN : X.N.Nodup) (hi : X.N[i]? = some x) (hx : Loc X.env.scope x) (r : RelV v u)
    (h : ∀ s', Inw X pins (σ.set i (some v)) H s' → (∃ a, Heap.SameBut a s.heap s'.heap ∧ (a = X.env.locals ∨ X.env.cells.lookup x = some a)) → Q () s') (hf : X.fn x = true ∨ X.env.scope.names.lookup x = some .local := by first | exact .inl rfl | exact .inr rfl | assumption) : wpAny M A (storeName X.env x u) Q E s := by
  obtain ⟨m, hn, hl⟩ := id I.loc
  have hcls : (X.env.scope.kind == .class || (X.env.scope.kind == .module && X.env.locals != X.env.globals)) = false := by rw [I.ok.kind]; rfl
  have hiσ : i < σ.length := by rw [I.len]; exact (List.getElem?_eq_some_iff.mp hi).1
  have cne := I.cne
  have tracked : ∀ {a : Addr} {h' : Heap}, (∃ o, s.heap.get? a = some o ∧ H a = none) → Heap.SameBut a s.heap h' → HOk X.prog X.w H h' := fun {a h'} ha hs b ob e => by
    obtain ⟨_, _, hfree⟩ := ha
    refine (I.hok b ob e).stay (fun c w' hc q => (hs.2 c ?_).trans q) (fun _ q => q) fun _ _ q => q
    rintro rfl
    rcases hc with rfl | hc
    · rw [hfree] at e; cases e
    · rw [hfree] at hc; cases hc
  rcases hx with hk | hk
  · refine wpAny_storeName_local hk hn (fun h' hn' hs => ?_) hcls
    obtain ⟨oL, _, _, hoL, _⟩ := id hn
    refine h _ ⟨I.ok, I.os, I.bare, ⟨fun b o e n hb hx => ?_, fun b o e n hb hx => ?_, I.base.free, fun b o e hx => ?_, I.base.tups, I.base.frzs, I.base.tbls⟩, ⟨_, hn', fun j y v' e1 e2 e3 => ?_⟩, fun y c e => ?_, I.free, I.freeC, fun p hp => ?_, tracked ⟨oL, hoL, I.free⟩ hs, by simpa using I.len⟩ ⟨_, hs, .inl rfl⟩
    · exact (hs.2 b (Nat.ne_of_lt (Nat.lt_of_lt_of_le (Heap.lt_size e) I.ok.above))).trans (I.base.keep b o e n hb hx)
    · obtain ⟨sl, e1⟩ := I.base.slot b o e n hb hx
      exact ⟨sl, (hs.2 b (Nat.ne_of_lt (Nat.lt_of_lt_of_le (Heap.lt_size e) I.ok.above))).trans e1⟩
    · obtain ⟨o', e1⟩ := I.base.there b o e hx
      exact ⟨o', (hs.2 b (Nat.ne_of_lt (Nat.lt_of_lt_of_le (Heap.lt_size e) I.ok.above))).trans e1⟩
    · by_cases hj : j = i
      · subst hj
        rw [hi] at e1; cases e1
        rw [List.getElem?_set_self hiσ] at e2
        cases e2
        exact ⟨u, r, .inl ⟨hk, by simp⟩⟩
      · rw [List.getElem?_set_ne (Ne.symm hj)] at e2
        obtain ⟨u', r', q⟩ := hl j y v' e1 e2 e3
        refine ⟨u', r', ?_⟩
        rcases q with ⟨k, e⟩ | ⟨k, c, e, z⟩
        · refine .inl ⟨k, ?_⟩
          have : y ≠ x := fun e => hj (nodup_ix hN e1 (e ▸ hi))
          simp [this, e]
        · exact .inr ⟨k, c, e, z.sameBut hs (cne y c e)⟩
    · obtain ⟨w', z⟩ := I.cell y c e
      exact ⟨w', z.sameBut hs (cne y c e)⟩
    · obtain ⟨e, n, ne, nf, d⟩ := I.pin p hp
      exact ⟨(hs.2 p.1 ne).trans e, n, ne, nf, d⟩
  · have hfn : X.fn x = true := by
      rcases hf with z | z
      · exact z
      · rw [z] at hk; cases hk
    obtain ⟨c, hc⟩ := I.ok.has x (.inl hk)
    obtain ⟨w', z⟩ := I.cell x c hc
    refine wpAny_storeName_cell I.ok.kind hk hc z (fun h' hc' hs => ?_)
    obtain ⟨oc, hoc, hocd⟩ := id z
    refine h { s with heap := h' } ⟨I.ok, I.os, I.bare, ⟨fun b o e n hb hx => ?_, fun b o e n hb hx => ?_, I.base.free, fun b o e hx => ?_, I.base.tups, I.base.frzs, I.base.tbls⟩, ⟨m, hn.sameBut hs (Ne.symm (cne x c hc)), fun j y v' e1 e2 e3 => ?_⟩, fun y c' e => ?_, I.free, I.freeC, fun p hp => ?_, tracked ⟨oc, hoc, I.freeC x c hc⟩ hs, by simpa using I.len⟩ ⟨c, hs, .inr hc⟩
    · exact (hs.2 b (Nat.ne_of_lt (Nat.lt_of_lt_of_le (Heap.lt_size e) (I.ok.cab x c hfn hc)))).trans (I.base.keep b o e n hb hx)
    · obtain ⟨sl, e1⟩ := I.base.slot b o e n hb hx
      exact ⟨sl, (hs.2 b (Nat.ne_of_lt (Nat.lt_of_lt_of_le (Heap.lt_size e) (I.ok.cab x c hfn hc)))).trans e1⟩
    · obtain ⟨o', e1⟩ := I.base.there b o e hx
      exact ⟨o', (hs.2 b (Nat.ne_of_lt (Nat.lt_of_lt_of_le (Heap.lt_size e) (I.ok.cab x c hfn hc)))).trans e1⟩
    · by_cases hj : j = i
      · subst hj
        rw [hi] at e1; cases e1
        rw [List.getElem?_set_self hiσ] at e2
        cases e2
        exact ⟨u, r, .inr ⟨.inl hk, c, hc, hc'⟩⟩
      · rw [List.getElem?_set_ne (Ne.symm hj)] at e2
        obtain ⟨u', r', q⟩ := hl j y v' e1 e2 e3
        refine ⟨u', r', ?_⟩
        rcases q with q | ⟨k, c', e, z'⟩
        · exact .inl q
        · refine .inr ⟨k, c', e, z'.sameBut hs ?_⟩
          rintro rfl
          exact hj (nodup_ix hN e1 (I.ok.inj _ _ _ e hc ▸ hi))
    · by_cases hcc : c' = c
      · subst hcc; exact ⟨_, hc'⟩
      · obtain ⟨w2, z2⟩ := I.cell y c' e
        exact ⟨w2, z2.sameBut hs hcc⟩
    · obtain ⟨e, n, ne, nf, d⟩ := I.pin p hp
      refine ⟨(hs.2 p.1 ?_).trans e, n, ne, nf, d⟩
      intro q
      rw [q, hoc] at e
      have q' : oc = p.2 := Option.some.inj e
      exact d w' (by rw [← q']; exact hocd)
theorem store_ok {M : Model} {A : Around} {E : Value → Shared → Prop} {i : Nat} {x : Str} {v : V} {u : Value} {Q : Unit → Shared → Prop} (I : Inw X pins σ H s) (hN : X.N.Nodup) (hi : X.N[i]? = some x) (hx : Loc X.env.scope x) (r : RelV v u)
    (h : ∀ s', Inw X pins (σ.set i (some v)) H s' → Q () s') (hf : X.fn x = true ∨ X.env.scope.names.lookup x = some .local := by first | exact .inl rfl | exact .inr rfl | assumption) : wpAny M A (storeName X.env x u) Q E s :=
  store_ok2 I hN hi hx r (fun s' I' _ => h s' I') hf
theorem Inw.call' {s' : Shared} {ch : List Addr} (I : Inw X pins σ H s) (ho : s'.os = s.os) (u : Un (frs X.stack) ch H H' s.heap s'.heap) (hok : HOk X.prog X.w H' s'.heap) (hg : AllBare s'.gens)
    (hch : ∀ b ∈ ch, (b ∈ X.ex ∨ X.s₀.heap.objs.size ≤ b) ∧ b ≠ X.env.locals ∧ (∀ x c, X.env.cells.lookup x = some c → c ≠ b) ∧ ∀ p ∈ X.pn ++ pins, p.1 ≠ b) : Inw X pins σ H' s' := by
  obtain ⟨h', g', d', t', o'⟩ := s'
  have e : o' = s.os := ho
  subst e
  exact I.call (g' := g') (t' := t') (d' := d') u hok hg hch
end

abbrev XK := Value → Option Addr → Hp → Prop
abbrev St := List (Option V)
abbrev VK := V → Hp → Prop
abbrev TE := St → Hp → VK → Prop
abbrev TT := St → Hp → (Bool → Hp → Prop) → Prop
abbrev TA := St → Hp → (List V → Hp → Prop) → Prop
structure Ends where
  nx : St → Hp → Prop
  rt : VK
  bk : St → Hp → Prop := fun _ _ => False
  ct : St → Hp → Prop := fun _ _ => False
abbrev TS := Ends → St → Hp → Prop

def EP (X : Cx) (pins : List (Addr × Obj)) (σ : St) (Q : VK) (u : Value) (s' : Shared) : Prop := ∃ v H', Inw X pins σ H' s' ∧ RelV v u ∧ Q v H'
def TP (X : Cx) (pins : List (Addr × Obj)) (σ : St) (Q : Bool → Hp → Prop) (b : Bool) (s' : Shared) : Prop := ∃ H', Inw X pins σ H' s' ∧ Q b H'
def AP (X : Cx) (pins : List (Addr × Obj)) (σ : St) (Q : List V → Hp → Prop) (us : List Value) (s' : Shared) : Prop := ∃ vs H', Inw X pins σ H' s' ∧ Vals vs us ∧ Q vs H'
def SP (X : Cx) (pins : List (Addr × Obj)) (D : Ends) (f : Flow) (s' : Shared) : Prop :=
  match f with
  | .next => ∃ σ' H', Inw X pins σ' H' s' ∧ D.nx σ' H'
  | .brk => ∃ σ' H', Inw X pins σ' H' s' ∧ D.bk σ' H'
  | .cont => ∃ σ' H', Inw X pins σ' H' s' ∧ D.ct σ' H'
  | .ret u => ∃ v σ' H', Inw X pins σ' H' s' ∧ RelV v u ∧ D.rt v H'

structure Inv (X : Cx) (pins : List (Addr × Obj)) (σ : List (Option V)) (H : Hp) (s : Shared) : Prop extends Inw X pins σ H s where
  pos : 0 < s.toks
instance {X : Cx} {pins : List (Addr × Obj)} {σ : List (Option V)} {H : Hp} {s : Shared} : CoeOut (Inv X pins σ H s) (Inw X pins σ H s) := ⟨Inv.toInw⟩
def EPs (X : Cx) (pins : List (Addr × Obj)) (σ : St) (Q : VK) (u : Value) (s' : Shared) : Prop := ∃ v H', Inv X pins σ H' s' ∧ RelV v u ∧ Q v H'
def TPs (X : Cx) (pins : List (Addr × Obj)) (σ : St) (Q : Bool → Hp → Prop) (b : Bool) (s' : Shared) : Prop := ∃ H', Inv X pins σ H' s' ∧ Q b H'
def APs (X : Cx) (pins : List (Addr × Obj)) (σ : St) (Q : List V → Hp → Prop) (us : List Value) (s' : Shared) : Prop := ∃ vs H', Inv X pins σ H' s' ∧ Vals vs us ∧ Q vs H'
def SPs (X : Cx) (pins : List (Addr × Obj)) (D : Ends) (f : Flow) (s' : Shared) : Prop :=
  match f with
  | .next => ∃ σ' H', Inv X pins σ' H' s' ∧ D.nx σ' H'
  | .brk => ∃ σ' H', Inv X pins σ' H' s' ∧ D.bk σ' H'
  | .cont => ∃ σ' H', Inv X pins σ' H' s' ∧ D.ct σ' H'
  | .ret u => ∃ v σ' H', Inv X pins σ' H' s' ∧ RelV v u ∧ D.rt v H'
theorem EPs.w {X : Cx} {pins : List (Addr × Obj)} {σ : St} {Q : VK} {u : Value} {s : Shared} (h : EPs X pins σ Q u s) : EP X pins σ Q u s := let ⟨v, H, I, r, q⟩ := h; ⟨v, H, I.toInw, r, q⟩
theorem TPs.w {X : Cx} {pins : List (Addr × Obj)} {σ : St} {Q : Bool → Hp → Prop} {u : Bool} {s : Shared} (h : TPs X pins σ Q u s) : TP X pins σ Q u s := let ⟨H, I, q⟩ := h; ⟨H, I.toInw, q⟩
theorem APs.w {X : Cx} {pins : List (Addr × Obj)} {σ : St} {Q : List V → Hp → Prop} {u : List Value} {s : Shared} (h : APs X pins σ Q u s) : AP X pins σ Q u s := let ⟨v, H, I, r, q⟩ := h; ⟨v, H, I.toInw, r, q⟩
theorem SPs.w {X : Cx} {pins : List (Addr × Obj)} {D : Ends} {f : Flow} {s : Shared} (h : SPs X pins D f s) : SP X pins D f s := by
  cases f with
  | next => obtain ⟨σ, H, I, q⟩ := h; exact ⟨σ, H, I.toInw, q⟩
  | brk => obtain ⟨σ, H, I, q⟩ := h; exact ⟨σ, H, I.toInw, q⟩
  | cont => obtain ⟨σ, H, I, q⟩ := h; exact ⟨σ, H, I.toInw, q⟩
  | ret u => obtain ⟨v, σ, H, I, r, q⟩ := h; exact ⟨v, σ, H, I.toInw, r, q⟩

def PE (X : Cx) (e : Expr) (t : TE) : Prop :=
  ∀ (pins : List (Addr × Obj)) (s : Shared) (σ : St) (H : Hp) (Q : VK), Inv X pins σ H s → t σ H Q → wpAny (model X.prog X.w) X.A (eval e X.env) (EP X pins σ Q) X.xe s
def PT (X : Cx) (e : Expr) (t : TT) : Prop :=
  ∀ (pins : List (Addr × Obj)) (s : Shared) (σ : St) (H : Hp) (Q : Bool → Hp → Prop), Inv X pins σ H s → t σ H Q → wpAny (model X.prog X.w) X.A (isTrue e X.env (eval e X.env)) (TP X pins σ Q) X.xe s
def PW (X : Cx) (e : Expr) (t : TT) : Prop :=
  ∀ (whole : Sem Value) (pins : List (Addr × Obj)) (s : Shared) (σ : St) (H : Hp) (Q : Bool → Hp → Prop), Inv X pins σ H s → t σ H Q → wpAny (model X.prog X.w) X.A (isTrue e X.env whole) (TP X pins σ Q) X.xe s
theorem PW.pt {X : Cx} {e : Expr} {t : TT} (h : PW X e t) : PT X e t := h _
def PA (X : Cx) (es : List Expr) (t : TA) : Prop :=
  ∀ (pos : Pos) (pins : List (Addr × Obj)) (s : Shared) (σ : St) (H : Hp) (Q : List V → Hp → Prop), Inv X pins σ H s → t σ H Q → wpAny (model X.prog X.w) X.A (spliced (backTo pos (starEach es X.env))) (AP X pins σ Q) X.xe s
def PS (X : Cx) (st : Stmt) (t : TS) : Prop :=
  ∀ (pins : List (Addr × Obj)) (s : Shared) (σ : St) (H : Hp) (D : Ends), Inv X pins σ H s → t D σ H → wpAny (model X.prog X.w) X.A (exec st X.env) (SP X pins D) X.xe s
def PSs (X : Cx) (st : List Stmt) (t : TS) : Prop :=
  ∀ (pins : List (Addr × Obj)) (s : Shared) (σ : St) (H : Hp) (D : Ends), Inv X pins σ H s → t D σ H → wpAny (model X.prog X.w) X.A (execs st X.env) (SP X pins D) X.xe s
structure WP {β : Type} (M : Model) (A : Around) (t : Sem β) (Q : β → Shared → Prop) (E : Value → Shared → Prop) (s : Shared) : Prop where
  pos : 0 < s.toks
  run : wpAny M A t Q E s
instance {β : Type} {M : Model} {A : Around} {t : Sem β} {Q : β → Shared → Prop} {E : Value → Shared → Prop} {s : Shared} : CoeOut (WP M A t Q E s) (wpAny M A t Q E s) := ⟨WP.run⟩
class Up {α : Type} (Q : α → Shared → Prop) (Qp : outParam (α → Shared → Prop)) : Prop where
  up : ∀ a s, 0 < s.toks → Q a s → Qp a s
instance (priority := low) {α : Type} {Q : α → Shared → Prop} : Up Q Q := ⟨fun _ _ _ h => h⟩
instance {α β : Type} {M : Model} {A : Around} {t : α → Sem β} {Q : α → β → Shared → Prop} {E : Value → Shared → Prop} : Up (fun v s => wpAny M A (t v) (Q v) E s) (fun v s => WP M A (t v) (Q v) E s) := ⟨fun _ _ z h => ⟨z, h⟩⟩
instance {X : Cx} {pins : List (Addr × Obj)} {σ : St} {Q : VK} : Up (EP X pins σ Q) (EPs X pins σ Q) := ⟨fun _ _ z ⟨v, H, I, r, q⟩ => ⟨v, H, ⟨I, z⟩, r, q⟩⟩
instance {X : Cx} {pins : List (Addr × Obj)} {σ : St} {Q : Bool → Hp → Prop} : Up (TP X pins σ Q) (TPs X pins σ Q) := ⟨fun _ _ z ⟨H, I, q⟩ => ⟨H, ⟨I, z⟩, q⟩⟩
instance {X : Cx} {pins : List (Addr × Obj)} {σ : St} {Q : List V → Hp → Prop} : Up (AP X pins σ Q) (APs X pins σ Q) := ⟨fun _ _ z ⟨v, H, I, r, q⟩ => ⟨v, H, ⟨I, z⟩, r, q⟩⟩
instance {X : Cx} {pins : List (Addr × Obj)} {D : Ends} : Up (SP X pins D) (SPs X pins D) := ⟨fun f _ z h => by
  cases f with
  | next => obtain ⟨σ, H, I, q⟩ := h; exact ⟨σ, H, ⟨I, z⟩, q⟩
  | brk => obtain ⟨σ, H, I, q⟩ := h; exact ⟨σ, H, ⟨I, z⟩, q⟩
  | cont => obtain ⟨σ, H, I, q⟩ := h; exact ⟨σ, H, ⟨I, z⟩, q⟩
  | ret u => obtain ⟨v, σ, H, I, r, q⟩ := h; exact ⟨v, σ, H, ⟨I, z⟩, r, q⟩⟩
instance {α : Type} {X : Cx} {pins : List (Addr × Obj)} {Q : St → Hp → Prop} : Up (fun (_ : α) s' => ∃ σ' H', Inw X pins σ' H' s' ∧ Q σ' H') (fun _ s' => ∃ σ' H', Inv X pins σ' H' s' ∧ Q σ' H') := ⟨fun _ _ z ⟨σ, H, I, q⟩ => ⟨σ, H, ⟨I, z⟩, q⟩⟩
instance {α : Type} {X : Cx} {pins : List (Addr × Obj)} {σ : St} {Q : Hp → Prop} : Up (fun (_ : α) s' => ∃ H', Inw X pins σ H' s' ∧ Q H') (fun _ s' => ∃ H', Inv X pins σ H' s' ∧ Q H') := ⟨fun _ _ z ⟨H, I, q⟩ => ⟨H, ⟨I, z⟩, q⟩⟩
theorem thn {α : Type} {t : Sem α} {Q Qp Q' : α → Shared → Prop} [u : Up Q Qp] {M : Model} {A : Around} {E : Value → Shared → Prop} {s : Shared} (h : wpAny M A t Q E s) (hQ : ∀ a s, Qp a s → Q' a s) (z : 0 < s.toks := by first | assumption | exact Inv.pos (by assumption) | exact WP.pos (by assumption)) : wpAny M A t Q' E s :=
  wpAny_tok z (wpAny_mono h (fun a s' q z' => hQ a s' (u.up a s' z' q)) fun _ _ x _ => x)
theorem thn0 {α : Type} {t : Sem α} {Q Q' : α → Shared → Prop} {M : Model} {A : Around} {E : Value → Shared → Prop} {s : Shared} (h : wpAny M A t Q E s) (hQ : ∀ a s, Q a s → Q' a s) : wpAny M A t Q' E s := wpAny_mono h hQ fun _ _ x => x
theorem thnZ {α : Type} {t : Sem α} {Q Q' : α → Shared → Prop} {M : Model} {A : Around} {E : Value → Shared → Prop} {s : Shared} (z : 0 < s.toks) (h : wpAny M A t Q E s) (hQ : ∀ a s, 0 < s.toks → Q a s → Q' a s) : wpAny M A t Q' E s :=
  wpAny_tok z (wpAny_mono h (fun a s' q z' => hQ a s' z' q) fun _ _ x _ => x)

end L2

namespace L2
open PySem PySem.Spec PyProof.Rows
section
variable {X : Cx}


def tVar (i : Nat) : TE := fun σ H Q => ∃ v, σ[i]? = some (some v) ∧ Q v H
def tC (v : V) : TE := fun _ H Q => Q v H
theorem pe_var {i : Nat} {x : Str} {pos : Pos} (hN : X.N[i]? = some x) (hv : Vis X.env.scope x) (hd : (x == ("__debug__" : Str)) = false := by decide) (hcd : (x == ("__classdict__" : Str)) = false := by decide) : PE X (.Name x pos) (tVar i) := by
  intro pins s σ H Q I h
  obtain ⟨v, e, h⟩ := h
  obtain ⟨m, hn, hl⟩ := I.loc
  obtain ⟨u, r, l⟩ := hl i x v hN e hv
  have fin : EP X pins σ Q u s := ⟨v, H, I, r, h⟩
  rcases l with ⟨hk, hm⟩ | ⟨hk, c, hc, hcell⟩
  · exact wpAny_Name (wpAny_loadName_local I.ok.kind hk hn hm fin) hd
  · rcases hk with hk | hk
    · exact wpAny_Name (wpAny_loadName_cell I.ok.kind hk hc hcell fin) hd
    · exact wpAny_Name (wpAny_loadName_free I.ok.kind hk hc hcell fin hcd) hd
theorem pe_int {i j pos} : PE X (.Constant (.int i) j pos) (tC (.int i)) := fun _ _ _ H _ I h => wpAny_Constant_int ⟨.int i, H, I.tok _, ⟨_, rfl⟩, h⟩
theorem pe_bl {b j pos} : PE X (.Constant (.bool b) j pos) (tC (.bl b)) := fun _ _ _ H _ I h => Constant_bool ⟨.bl b, H, I, rfl, h⟩
theorem pe_non {j pos} : PE X (.Constant .none j pos) (tC .non) := fun _ _ _ H _ I h => Constant_none ⟨.non, H, I, rfl, h⟩
theorem pe_str {x j pos} : PE X (.Constant (.str x) j pos) (tC (.str x)) := fun _ _ _ H _ I h => Calls.Constant_str ⟨.str x, H, I.tok _, ⟨_, rfl⟩, h⟩

def Gl (X : Cx) (x : Str) : Prop := X.env.kindOf x = some .globalImplicit
theorem ld_glob {E : Value → Shared → Prop} {pins : List (Addr × Obj)} {s : Shared} {σ : St} {H : Hp} {x : Str} {u : Value} {pos : Pos} {Q : Value → Shared → Prop} (I : Inv X pins σ H s) (hg : Gl X x) (hm : X.mg x = some u) (h : Q u s)
    (hd : (x == ("__debug__" : Str)) = false := by decide) : wpAny (model X.prog X.w) X.A (eval (.Name x pos) X.env) Q E s :=
  Calls.Name_function_global I.ok.kind hg (Calls.loadGlobal_global (by rw [I.ok.glob]; exact I.mod.glob.keeps I.bk) hm h) hd
theorem ld_blt {E : Value → Shared → Prop} {pins : List (Addr × Obj)} {s : Shared} {σ : St} {H : Hp} {x : Str} {u : Value} {pos : Pos} {Q : Value → Shared → Prop} (I : Inv X pins σ H s) (hg : Gl X x) (hm : X.mg x = none) (hv : bootBuiltins x = some u) (h : Q u s)
    (hn : x ≠ "__name__" := by decide) (hd : (x == ("__debug__" : Str)) = false := by decide) : wpAny (model X.prog X.w) X.A (eval (.Name x pos) X.env) Q E s := by
  obtain ⟨mb, h1, h2⟩ := I.mod.blt
  exact Calls.Name_function_global I.ok.kind hg (Calls.loadGlobal_builtin (by rw [I.ok.glob]; exact I.mod.glob.keeps I.bk) hm (by rw [I.ok.blt]; exact h1.keeps I.bk) ((h2 x hn).trans hv) h) hd
theorem pe_bltn {x : Str} {v : V} {u : Value} {pos : Pos} (hg : Gl X x) (hm : X.mg x = none) (hv : bootBuiltins x = some u) (r : RelV v u) (hn : x ≠ "__name__" := by decide) (hd : (x == ("__debug__" : Str)) = false := by decide) : PE X (.Name x pos) (tC v) :=
  fun _ _ _ H _ I h => ld_blt I hg hm hv ⟨v, H, I, r, h⟩ hn hd

variable {a b : Expr} {ta tb : TE} {pos : Pos}

def tB (t : TE) : TT := fun σ H Q => t σ H fun x H1 => ∃ c, x = .bl c ∧ Q c H1
theorem pt_val {e : Expr} {t : TE} (h : PE X e t) (he : ∀ whole, isTrue e X.env whole = (do let v ← whole; standAt e.pos; holding [v] (truthy v)) := by intro _; rfl) : PT X e (tB t) := by
  intro pins s σ H Q I hw
  refine isTrue_plain (thn (h pins s σ H _ I hw) fun v s1 ⟨x, H1, I1, r1, q1⟩ => ?_) (he _)
  obtain ⟨d, rfl, q⟩ := q1
  cases r1
  exact wpAny_truthy_bool ⟨H1, I1, q⟩

variable {tA tB' : TT} {rest : List Expr}
def tAnd (t u : TT) : TT := fun σ H Q => t σ H fun c H1 => if c = true then u σ H1 Q else Q false H1
def tOr (t u : TT) : TT := fun σ H Q => t σ H fun c H1 => if c = true then Q true H1 else u σ H1 Q
def tNot (t : TT) : TT := fun σ H Q => t σ H fun c H1 => Q (!c) H1
theorem pw_and1 (ha : PT X a tA) : PW X (.BoolOp .And [a] pos) tA := by
  intro wh pins s σ H Q I h
  refine isTrue_and (thn0 (ha pins s σ H Q I h) fun c s1 e => ?_)
  cases c with
  | true => exact isTrue_and_nil e
  | false => exact e
theorem pw_or1 (ha : PT X a tA) : PW X (.BoolOp .Or [a] pos) tA := by
  intro wh pins s σ H Q I h
  refine isTrue_or (thn0 (ha pins s σ H Q I h) fun c s1 e => ?_)
  cases c with
  | false => exact isTrue_or_nil e
  | true => exact e
theorem pw_and (ha : PT X a tA) (hb : PW X (.BoolOp .And (b :: rest) pos) tB') : PW X (.BoolOp .And (a :: b :: rest) pos) (tAnd tA tB') := by
  intro wh pins s σ H Q I h
  refine isTrue_and (thn (ha pins s σ H _ I h) fun c s1 ⟨H1, I1, q1⟩ => ?_)
  cases c with
  | true => exact hb wh pins s1 σ H1 Q I1 q1
  | false => exact ⟨H1, I1, q1⟩
theorem pw_or (ha : PT X a tA) (hb : PW X (.BoolOp .Or (b :: rest) pos) tB') : PW X (.BoolOp .Or (a :: b :: rest) pos) (tOr tA tB') := by
  intro wh pins s σ H Q I h
  refine isTrue_or (thn (ha pins s σ H _ I h) fun c s1 ⟨H1, I1, q1⟩ => ?_)
  cases c with
  | true => exact ⟨H1, I1, q1⟩
  | false => exact hb wh pins s1 σ H1 Q I1 q1
theorem pt_not (ha : PT X a tA) : PT X (.UnaryOp .Not a pos) (tNot tA) := by
  intro pins s σ H Q I h
  exact isTrue_not (ha pins s σ H (fun c H1 => Q (!c) H1) I h)
def tAndV (ta tb : TE) : TE := fun σ H Q => ta σ H fun x H1 => ∃ c, x = .bl c ∧ if c = true then tb σ H1 Q else Q (.bl false) H1
def tOrV (ta tb : TE) : TE := fun σ H Q => ta σ H fun x H1 => ∃ c, x = .bl c ∧ if c = true then Q (.bl true) H1 else tb σ H1 Q
def tNotV (ta : TE) : TE := fun σ H Q => ta σ H fun x H1 => ∃ c, x = .bl c ∧ Q (.bl (!c)) H1
theorem pe_one {op} {t : TE} (h : PE X a t) : PE X (.BoolOp op [a] pos) t := fun pins s σ H Q I hw => BoolOp_one (h pins s σ H Q I hw)
theorem pe_and (ha : PE X a ta) (hb : PE X (.BoolOp .And (b :: rest) pos) tb) : PE X (.BoolOp .And (a :: b :: rest) pos) (tAndV ta tb) := by
  intro pins s σ H Q I h
  refine BoolOp_and (thn (ha pins s σ H _ I h) fun v s1 ⟨x, H1, I1, r1, q1⟩ => ?_)
  obtain ⟨c, rfl, q1⟩ := q1
  cases r1
  refine wpAny_truthy_bool ?_
  cases c with
  | true => exact hb pins s1 σ H1 Q I1 q1
  | false => exact ⟨.bl false, H1, I1, rfl, q1⟩
theorem pe_not (ha : PE X a ta) : PE X (.UnaryOp .Not a pos) (tNotV ta) := by
  intro pins s σ H Q I h
  refine UnaryOp_ (thn (ha pins s σ H _ I h) fun v s1 ⟨x, H1, I1, r1, q1⟩ => ?_)
  obtain ⟨c, rfl, q1⟩ := q1
  cases r1
  exact not_of (wpAny_truthy_bool ⟨.bl (!c), H1, I1, rfl, q1⟩)
def tIf (t : TT) (ta tb : TE) : TE := fun σ H Q => t σ H fun c H1 => if c = true then ta σ H1 Q else tb σ H1 Q
theorem pe_ifExp {c : Expr} (hc : PT X c tA) (ha : PE X a ta) (hb : PE X b tb) : PE X (.IfExp c a b pos) (tIf tA ta tb) := by
  intro pins s σ H Q I h
  refine wpAny_IfExp (thn (hc pins s σ H _ I h) fun d s1 ⟨H1, I1, q1⟩ => ?_)
  cases d with
  | true => exact ha pins s1 σ H1 Q I1 q1
  | false => exact hb pins s1 σ H1 Q I1 q1
end
end L2

namespace L2
open PySem PySem.Spec PyProof.Rows

def SqL (K : PySem.W.Frag) (H : Hp) (a : Addr) (xs : List V) : Prop :=
  Rd H a (.lst xs) ∨
    ∃ (o : Obj) (its : Array Value) (n : Nat), K.lookup a = some o ∧ o.cls = .type "list" ∧ o.dict = none ∧ o.data = .seq its n ∧ its.size ≤ sizeLine ∧ Vals xs its.toList
def SqT (K : PySem.W.Frag) (H : Hp) (a : Addr) (xs : List V) : Prop :=
  Rd H a (.tup xs) ∨
    ∃ (o : Obj) (its : Array Value) (n : Nat), K.lookup a = some o ∧ o.cls = .type "tuple" ∧ o.data = .seq its n ∧ its.size ≤ sizeLine ∧ Vals xs its.toList
def absV : Value → Option V
  | .none => some .non
  | .bool b => some (.bl b)
  | .int i _ => some (.int i)
  | .str x _ => some (.str x)
  | .bytes b _ => some (.byt b)
  | .float b _ => some (.flt b)
  | .ref a => some (.ref a)
  | .type n => some (.ty n)
  | _ => none
theorem RelV.abs {x : V} {u : Value} (r : RelV x u) : absV u = some x := by
  cases x with
  | non => cases r; rfl
  | bl _ => cases r; rfl
  | int _ => obtain ⟨t, rfl⟩ := r; rfl
  | str _ => obtain ⟨t, rfl⟩ := r; rfl
  | byt _ => obtain ⟨t, rfl⟩ := r; rfl
  | flt _ => obtain ⟨t, rfl⟩ := r; rfl
  | ref _ => cases r; rfl
  | ty _ => cases r; rfl
theorem RelV.inj {x y : V} {u : Value} (r : RelV x u) (q : RelV y u) : x = y := Option.some.inj (r.abs.symm.trans q.abs)
theorem Vals.inj : ∀ {xs ys : List V} {us : List Value}, Vals xs us → Vals ys us → xs = ys
  | _, _, _, .nil, .nil => rfl
  | _, _, _, .cons r t, .cons r' t' => by rw [r.inj r', Vals.inj t t']
section
variable {X : Cx} {pins : List (Addr × Obj)} {σ : St} {H : Hp} {s : Shared} {a : Addr} {xs ys : List V}
theorem SqL.of {K : PySem.W.Frag} (h : H a = some (.lst xs)) : SqL K H a xs := .inl (.inl h)
theorem SqT.of {K : PySem.W.Frag} (h : H a = some (.tup xs)) : SqT K H a xs := .inl (.inl h)
theorem Inw.list (I : Inw X pins σ H s) (h : SqL X.K H a xs) : ∃ its : List Value, Vals xs its ∧ PlainL s.heap a its.toArray ∧ xs.length ≤ sizeLine := by
  rcases h with h | ⟨o, its, n, hk, hc, hd, hs, hz, r⟩
  · obtain ⟨z, its, n, r, e⟩ := h.ok I.hok
    exact ⟨its, r, ⟨_, n, e, rfl, rfl, rfl⟩, z⟩
  · refine ⟨its.toList, r, ⟨o, n, I.kIn a o hk, hc, hd, by simpa using hs⟩, ?_⟩
    have e := r.length
    simp only [Array.length_toList] at e
    omega
theorem Inw.tuple (I : Inw X pins σ H s) (h : SqT X.K H a xs) : ∃ its : List Value, Vals xs its ∧ IsTup s.heap a its.toArray ∧ xs.length ≤ sizeLine := by
  rcases h with h | ⟨o, its, n, hk, hc, hs, hz, r⟩
  · obtain ⟨z, its, r, p⟩ := h.ok I.hok
    exact ⟨its, r, p, z⟩
  · refine ⟨its.toList, r, ⟨o, I.kIn a o hk, hc, n, by simpa using hs⟩, ?_⟩
    have e := r.length
    simp only [Array.length_toList] at e
    omega
theorem Inw.list_inj (I : Inw X pins σ H s) (h : SqL X.K H a xs) (h' : SqL X.K H a ys) : xs = ys := by
  obtain ⟨its, r, ⟨o, n, e, _, _, d⟩, _⟩ := I.list h
  obtain ⟨its', r', ⟨o', n', e', _, _, d'⟩, _⟩ := I.list h'
  rw [e] at e'; cases e'
  rw [d] at d'
  injection d' with d1 _
  have : its = its' := by simpa using congrArg Array.toList d1
  subst this
  exact r.inj r'
theorem Inw.tuple_inj (I : Inw X pins σ H s) (h : SqT X.K H a xs) (h' : SqT X.K H a ys) : xs = ys := by
  obtain ⟨its, r, ⟨o, e, _, n, d⟩, _⟩ := I.tuple h
  obtain ⟨its', r', ⟨o', e', _, n', d'⟩, _⟩ := I.tuple h'
  rw [e] at e'; cases e'
  rw [d] at d'
  injection d' with d1 _
  have : its = its' := by simpa using congrArg Array.toList d1
  subst this
  exact r.inj r'
end

abbrev Cx.wish (X : Cx) (E : Value → Shared → Prop) : Cx := { X with xe := E }
abbrev Cx.nox (X : Cx) : Cx := X.wish fun _ _ => False
theorem Cx.Ok.wish {X : Cx} (ok : X.Ok) (E : Value → Shared → Prop) : (X.wish E).Ok :=
  ⟨ok.mod, ok.kind, ok.glob, ok.blt, ok.above, ok.inj, ok.has, ok.cab, ok.hd, ok.frames, ok.stk, ok.exf, ok.bs, ok.bsz, ok.noex, ok.exfs, ok.funs, ok.frf⟩
theorem Cx.Ok.unwish {X : Cx} {E : Value → Shared → Prop} (ok : (X.wish E).Ok) : X.Ok :=
  ⟨ok.mod, ok.kind, ok.glob, ok.blt, ok.above, ok.inj, ok.has, ok.cab, ok.hd, ok.frames, ok.stk, ok.exf, ok.bs, ok.bsz, ok.noex, ok.exfs, ok.funs, ok.frf⟩
section
variable {X : Cx} {pins : List (Addr × Obj)} {σ : St} {H : Hp} {s : Shared} {E : Value → Shared → Prop}
theorem Inw.wish (I : Inw X pins σ H s) (E : Value → Shared → Prop) : Inw (X.wish E) pins σ H s := ⟨I.ok.wish E, I.os, I.bare, I.base, I.loc, I.cell, I.free, I.freeC, I.pin, I.hok, I.len⟩
theorem Inw.unwish (I : Inw (X.wish E) pins σ H s) : Inw X pins σ H s := ⟨I.ok.unwish, I.os, I.bare, I.base, I.loc, I.cell, I.free, I.freeC, I.pin, I.hok, I.len⟩
theorem SP.unwish {D : Ends} {f : Flow} {s' : Shared} (h : SP (X.wish E) pins D f s') : SP X pins D f s' := by
  cases f with
  | next => obtain ⟨σ', H', I, q⟩ := h; exact ⟨σ', H', I.unwish, q⟩
  | brk => obtain ⟨σ', H', I, q⟩ := h; exact ⟨σ', H', I.unwish, q⟩
  | cont => obtain ⟨σ', H', I, q⟩ := h; exact ⟨σ', H', I.unwish, q⟩
  | ret u => obtain ⟨v, σ', H', I, r, q⟩ := h; exact ⟨v, σ', H', I.unwish, r, q⟩
theorem PE.nox {e : Expr} {t : TE} (h : PE X.nox e t) : PE X e t := fun pins s σ H Q I hw =>
  wpAny_mono (h pins s σ H Q ⟨I.wish _, I.pos⟩ hw) (fun _ _ ⟨v, H', I', r, q⟩ => ⟨v, H', I'.unwish, r, q⟩) fun _ _ z => False.elim z
theorem PT.nox {e : Expr} {t : TT} (h : PT X.nox e t) : PT X e t := fun pins s σ H Q I hw =>
  wpAny_mono (h pins s σ H Q ⟨I.wish _, I.pos⟩ hw) (fun _ _ ⟨H', I', q⟩ => ⟨H', I'.unwish, q⟩) fun _ _ z => False.elim z
theorem PSs.nox {st : List Stmt} {t : TS} (h : PSs X.nox st t) : PSs X st t := fun pins s σ H D I hw =>
  wpAny_mono (h pins s σ H D ⟨I.wish _, I.pos⟩ hw) (fun _ _ q => q.unwish) fun _ _ z => False.elim z
end

section
variable {X : Cx} {st : Stmt} {rest : List Stmt} {t u : TS} {e : Expr} {te : TE} {pos : Pos}
def tNext : TS := fun D σ H => D.nx σ H
def tSeq (t u : TS) : TS := fun D σ H => t { D with nx := u D } σ H
theorem pss_nil : PSs X [] tNext := fun _ _ σ H _ I h => wpAny_execs_nil ⟨σ, H, I, h⟩
theorem pss_cons (h1 : PS X st t) (h2 : PSs X rest u) : PSs X (st :: rest) (tSeq t u) := by
  intro pins s σ H D I h
  refine wpAny_execs_cons (thn (h1 pins s σ H { D with nx := u D } I h) fun f s1 q => ?_)
  cases f with
  | next =>
    obtain ⟨σ', H', I', q⟩ := q
    exact h2 pins s1 σ' H' D I' q
  | ret v => exact SPs.w q
  | brk => exact SPs.w q
  | cont => exact SPs.w q
theorem pss_one (h1 : PS X st t) : PSs X [st] t := by
  intro pins s σ H D I h
  refine wpAny_execs_cons (thn0 (h1 pins s σ H D I h) fun f s1 q => ?_)
  cases f with
  | next => exact wpAny_execs_nil q
  | ret v => exact q
  | brk => exact q
  | cont => exact q
theorem Inw.quiet {pins : List (Addr × Obj)} {σ : St} {H : Hp} {s : Shared} (I : Inw X pins σ H s) : interactive X.env = false := by simp [interactive, I.ok.kind]
def tDrop (te : TE) : TS := fun D σ H => te σ H fun _ H1 => D.nx σ H1
theorem ps_expr (he : PE X e te) (hs : swapsWith e none pos.line X.env = pure false := by rfl) : PS X (.Expr e pos) (tDrop te) := by
  intro pins s σ H D I h
  exact wpAny_Expr_any (thn (he pins s σ H _ I h) fun v s1 ⟨x, H1, I1, r1, q1⟩ => ⟨σ, H1, I1, q1⟩) I.quiet hs
def tRet (te : TE) : TS := fun D σ H => te σ H D.rt
theorem ps_ret (he : PE X e te) : PS X (.Return (some e) pos) (tRet te) := by
  intro pins s σ H D I h
  exact wpAny_Return_some (thn (he pins s σ H _ I h) fun v s1 ⟨x, H1, I1, r1, q1⟩ => ⟨x, σ, H1, I1, r1, q1⟩)
def tIfS (c : TT) (t u : TS) : TS := fun D σ H => c σ H fun b H1 => if b = true then t D σ H1 else u D σ H1
theorem ps_if {c : Expr} {a b : List Stmt} {tc : TT} (hc : PT X c tc) (ha : PSs X a t) (hb : PSs X b u) : PS X (.If c a b pos) (tIfS tc t u) := by
  intro pins s σ H D I h
  refine wpAny_If (thn (hc pins s σ H _ I h) fun d s1 ⟨H1, I1, q1⟩ => ?_)
  cases d with
  | true => exact ha pins s1 σ H1 D I1 q1
  | false => exact hb pins s1 σ H1 D I1 q1
def tNever : TS := fun _ _ _ => False
theorem ps_never : PS X st tNever := fun _ _ _ _ _ _ h => h.elim
end

abbrev TG := V → St → Hp → (St → Hp → Prop) → Prop
abbrev TGs := List V → St → Hp → (St → Hp → Prop) → Prop
def PG (X : Cx) (target : Expr) (t : TG) : Prop :=
  ∀ (pins : List (Addr × Obj)) (s : Shared) (σ : St) (H : Hp) (v : V) (u : Value) (Q : St → Hp → Prop), Inv X pins σ H s → RelV v u → t v σ H Q →
    wpAny (model X.prog X.w) X.A (assign target X.env u) (fun _ s' => ∃ σ' H', Inw X pins σ' H' s' ∧ Q σ' H') X.xe s
def PGs (X : Cx) (ts : List Expr) (t : TGs) : Prop :=
  ∀ (pins : List (Addr × Obj)) (s : Shared) (σ : St) (H : Hp) (vs : List V) (us : List Value) (Q : St → Hp → Prop), Inv X pins σ H s → Vals vs us → t vs σ H Q →
    wpAny (model X.prog X.w) X.A (assignInOrder ((assignEach ts X.env).map (·.2)) us) (fun _ s' => ∃ σ' H', Inw X pins σ' H' s' ∧ Q σ' H') X.xe s
abbrev TSet := V → V → V → Hp → (Hp → Prop) → Prop
def PSet (X : Cx) (t : TSet) : Prop :=
  ∀ (pins : List (Addr × Obj)) (s : Shared) (σ : St) (H : Hp) (o i v : V) (ov iv u : Value) (Q : Hp → Prop), Inv X pins σ H s → RelV o ov → RelV i iv → RelV v u → t o i v H Q →
    wpAny (model X.prog X.w) X.A (setItem ov iv u) (fun _ s' => ∃ H', Inw X pins σ H' s' ∧ Q H') X.xe s
abbrev TIp := V → V → Hp → VK → Prop
section
variable {X : Cx} {pos : Pos}
def gName (i : Nat) : TG := fun v σ H Q => Q (σ.set i (some v)) H
theorem pg_name {i : Nat} {x : Str} (hN : X.N.Nodup) (hi : X.N[i]? = some x) (hx : Loc X.env.scope x) (hf : X.fn x = true ∨ X.env.scope.names.lookup x = some .local := by first | exact .inl rfl | exact .inr rfl | assumption) : PG X (.Name x pos) (gName i) := by
  intro pins s σ H v u Q I r h
  exact wpAny_assign_Name (store_ok I hN hi hx r (fun s' I' => ⟨_, H, I', h⟩) hf)
def gNil : TGs := fun vs σ H Q => vs = [] ∧ Q σ H
def gCons (t : TG) (u : TGs) : TGs := fun vs σ H Q => ∃ v r, vs = v :: r ∧ t v σ H fun σ' H' => u r σ' H' Q
theorem pgs_nil : PGs X [] gNil := by
  intro pins s σ H vs us Q I r h
  obtain ⟨e, h⟩ := h
  subst e
  cases r
  exact assignInOrder_nil ⟨σ, H, I, h⟩
theorem pgs_cons {e : Expr} {es : List Expr} {t : TG} {u : TGs} (h1 : PG X e t) (h2 : PGs X es u)
    (hs : (assignEach (e :: es) X.env).map (·.2) = assign e X.env :: (assignEach es X.env).map (·.2) := by rfl) : PGs X (e :: es) (gCons t u) := by
  intro pins s σ H vs us Q I r h
  obtain ⟨v, vr, e1, h⟩ := h
  subst e1
  cases r with
  | cons r rr =>
    rw [hs]
    refine assignInOrder_cons (thn (h1 pins s σ H _ _ _ I r h) fun _ s1 ⟨σ1, H1, I1, q1⟩ => ?_)
    exact h2 pins s1 σ1 H1 _ _ Q I1 rr q1
def gTup (K : PySem.W.Frag) (n : Nat) (t : TGs) : TG := fun v σ H Q => ∃ a xs, v = .ref a ∧ SqT K H a xs ∧ xs.length = n ∧ t xs σ H Q
theorem pg_tup {es : List Expr} {k : Nat} {t : TGs} {n : Nat} (hc : X.calm = true) (h : PGs X es t)
    (hn : (assignEach es X.env).length = n := by rfl) (hst : (assignEach es X.env).findIdx? (·.1) = none := by rfl) : PG X (.Tuple es k pos) (gTup X.K n t) := by
  intro pins s σ H v u Q I r hw
  obtain ⟨a, xs, e1, hq, hl, hw⟩ := hw
  subst e1
  cases r
  obtain ⟨its, rv, ht, hz⟩ := I.tuple hq
  refine assign_Tuple_tuple (I.ok.hd hc) ht (by simp [hn, ← hl, rv.length]) hst fun h' hx => ?_
  have I1 : Inw X pins σ H { s with heap := h' } := I.kept (t' := s.toks) fun b o e => hx b o (Nat.ne_of_lt (Heap.lt_size e)) e
  exact h pins _ σ H xs _ Q ⟨I1, I.pos⟩ (by simpa using rv) hw
def gSub (to ti : TE) (t : TSet) : TG := fun v σ H Q => to σ H fun o H1 => ti σ H1 fun i H2 => t o i v H2 fun H3 => Q σ H3
theorem pg_sub {o i : Expr} {to ti : TE} {t : TSet} (ho : PE X o to) (hi : PE X i ti) (hs : PSet X t)
    (ha : ∀ v, assign (.Subscript o i pos) X.env v = (do
      let ov ← holding [v] (eval o X.env)
      let iv ← holding [v, ov] (eval i X.env)
      standAt pos
      holding [v, ov, iv] (setItem ov iv v)
      release [v, ov, iv] []) := by intro _; rfl) : PG X (.Subscript o i pos) (gSub to ti t) := by
  intro pins s σ H v u Q I r h
  rw [ha]
  refine wpAny_bind (wpAny_holding (thn (ho pins s σ H _ I h) fun ov s1 ⟨x, H1, I1, r1, q1⟩ => ?_))
  refine wpAny_bind (wpAny_holding (thn (hi pins s1 σ H1 _ I1 q1) fun iv s2 ⟨y, H2, I2, r2, q2⟩ => ?_))
  refine wpAny_bind (wpAny_standAt (wpAny_bind (wpAny_holding (thn (hs pins s2 σ H2 x y v ov iv u _ I2 r1 r2 r q2) fun _ s3 ⟨H3, I3, q3⟩ => ?_))))
  exact wpAny_release ⟨σ, H3, I3, q3⟩
def tAsg (te : TE) (g : TG) : TS := fun D σ H => te σ H fun x H1 => g x σ H1 D.nx
theorem ps_asg {tg e : Expr} {te : TE} {g : TG} (he : PE X e te) (hg : PG X tg g) (hs : swapsWithSole [tg] e pos.line X.env = pure false := by rfl) (hw : swappedStores [tg] e X.env = pure none := by rfl)
    (h1 : (assignEach [tg] X.env).map (·.2) = [assign tg X.env] := by rfl) : PS X (.Assign [tg] e pos) (tAsg te g) := by
  intro pins s σ H D I h
  refine wpAny_Assign_stores (thn (he pins s σ H _ I h) fun v s1 ⟨x, H1, I1, r1, q1⟩ => ?_) hs hw
  rw [h1]
  exact thn0 (hg pins s1 σ H1 x v _ I1 r1 q1) fun _ s2 q => q
theorem ps_set {i : Nat} {x : Str} {e : Expr} {te : TE} {pos' : Pos} (hN : X.N.Nodup) (hi : X.N[i]? = some x) (hx : Loc X.env.scope x) (he : PE X e te) (hs : swapsWith e (some (.Name x pos')) pos.line X.env = pure false := by rfl) (hf : X.fn x = true ∨ X.env.scope.names.lookup x = some .local := by first | exact .inl rfl | exact .inr rfl | assumption) :
    PS X (.Assign [.Name x pos'] e pos) (tAsg te (gName i)) := by
  intro pins s σ H D I h
  refine wpAny_Assign_Name (thn (he pins s σ H _ I h) fun v s1 ⟨y, H1, I1, r1, q1⟩ => ?_) hs
  exact store_ok I1 hN hi hx r1 (fun s2 I2 => ⟨_, H1, I2, q1⟩) hf
def tAug (i : Nat) (te : TE) (ti : TIp) : TS := fun D σ H => ∃ x, σ[i]? = some (some x) ∧ te σ H fun y H1 => ti x y H1 fun z H2 => D.nx (σ.set i (some z)) H2
def ipI (f : Int → Int → Int) : TIp := fun x y H Q => ∃ i j, x = .int i ∧ y = .int j ∧ Q (.int (f i j)) H
end

section
variable {X : Cx} {pos : Pos}
def tWhile (c : TT) (tb : TS) : TS := fun D σ H => ∃ W : Nat → St → Hp → Prop, (∃ m, W m σ H) ∧ ∀ m σ H, W m σ H →
  c σ H fun b H1 => if b = true then ∃ N : St → Hp → Prop, (∀ σ' H', N σ' H' → ∃ m', m' < m ∧ W m' σ' H') ∧ tb { D with nx := N, ct := N, bk := D.nx } σ H1 else D.nx σ H1
theorem ps_while {c : Expr} {body : List Stmt} {tc : TT} {tb : TS} (hp : PassesOwn (model X.prog X.w) X.A X.env X.xe) (hc : PT X c tc) (hb : PSs X body tb) : PS X (.While c body [] pos) (tWhile tc tb) := by
  intro pins s σ H D I h
  obtain ⟨W, ⟨m0, w0⟩, turn⟩ := h
  refine wpAny_While (codeAny_whileLoop (fun n s' => ∃ σ' H', Inv X pins σ' H' s' ∧ W n σ' H') ?_ m0 ⟨σ, H, I, w0⟩)
  rintro n s1 ⟨σ1, H1, I1, w1⟩
  refine wpAny_passesOwn hp (thn (hc pins s1 σ1 H1 _ I1 (turn n σ1 H1 w1)) fun b s2 ⟨H2, I2, q2⟩ => ?_)
  cases b with
  | true =>
    obtain ⟨N, hN, q2⟩ := q2
    rw [if_pos rfl]
    refine wpAny_passesOwn hp (thn (hb pins s2 σ1 H2 _ I2 q2) fun f s3 q3 => ?_)
    cases f with
    | next =>
      obtain ⟨σ3, H3, I3, n3⟩ := q3
      obtain ⟨m', hm, w3⟩ := hN σ3 H3 n3
      exact ⟨m', hm, σ3, H3, I3, w3⟩
    | cont =>
      obtain ⟨σ3, H3, I3, n3⟩ := q3
      obtain ⟨m', hm, w3⟩ := hN σ3 H3 n3
      exact ⟨m', hm, σ3, H3, I3, w3⟩
    | brk => exact SPs.w q3
    | ret v => exact SPs.w q3
  | false =>
    rw [if_neg Bool.false_ne_true]
    exact wpAny_execs_nil ⟨σ1, H2, I2, q2⟩
end

structure It where
  go : Nat → Hp → Prop
  yld : Nat → Hp → V → Hp → Prop
  stop : Nat → Hp → Prop
def FpOk (X : Cx) (pins : List (Addr × Obj)) (H : Hp) (b : Addr) : Prop :=
  H b = none ∧ b ≠ X.env.locals ∧ b ∉ X.fs ∧ (b ∈ X.ex ∨ X.s₀.heap.objs.size ≤ b) ∧ (∀ x c, X.env.cells.lookup x = some c → c ≠ b) ∧ ∀ p ∈ X.pn ++ pins, p.1 ≠ b
theorem Inw.fpOk {X : Cx} {pins : List (Addr × Obj)} {σ : St} {H H' : Hp} {s : Shared} {b : Addr} (I : Inw X pins σ H s) (hb : s.heap.objs.size ≤ b) (hn : H' b = none) : FpOk X pins H' b := by
  refine ⟨hn, Nat.ne_of_gt (Nat.lt_of_lt_of_le I.lt hb), I.nofs hb, .inr (Nat.le_trans I.sz hb), fun x c e z => ?_, fun p hp z => ?_⟩
  · obtain ⟨v, q⟩ := I.cell x c e
    exact absurd (Nat.lt_of_lt_of_le q.lt (by rw [z]; exact hb)) (Nat.lt_irrefl _)
  · exact absurd (Nat.lt_of_lt_of_le (Heap.lt_size (I.pin p hp).1) (by rw [z]; exact hb)) (Nat.lt_irrefl _)
structure Turn (P : Program) (w : World) (K : PySem.W.Frag) (tg : Expr) (J : It) (fp : List Addr) (it : Addr) (tn : Nat → Heap → Prop) : Prop where
  mem : it ∈ fp
  obj : ∀ i h, tn i h → ∀ b ∈ fp, ∃ o, h.get? b = some o ∧ ∀ v, o.data ≠ .cell v
  keep : ∀ i h h', tn i h → (∀ b ∈ fp, ∀ o, h.get? b = some o → h'.get? b = some o) → tn i h'
  item : ∀ (X : Cx), X.prog = P → X.w = w → X.K = K → X.calm = true → ∀ (i : Nat) (pins : List (Addr × Obj)) (s : Shared) (σ : St) (H : Hp) (E : Value → Shared → Prop), Inv X pins σ H s → (∀ b ∈ fp, FpOk X pins H b) → tn i s.heap → J.go i H →
    wpAny (model P w) X.A (pyNext (.ref it)) (fun r s1 => ∃ u, r = some u ∧
      wpAny (model P w) X.A (letOwnedTupleGo tg (.ref it) u) (fun _ s2 => ∃ x H', Inw X pins σ H' s2 ∧ RelV x u ∧ J.yld i H x H' ∧ tn (i + 1) s2.heap ∧ ∀ b ∈ fp, H' b = none) E s1) E s
  done : ∀ (X : Cx), X.prog = P → X.w = w → X.K = K → X.calm = true → ∀ (i : Nat) (pins : List (Addr × Obj)) (s : Shared) (σ : St) (H : Hp) (E : Value → Shared → Prop), Inv X pins σ H s → (∀ b ∈ fp, FpOk X pins H b) → tn i s.heap → J.stop i H →
    wpAny (model P w) X.A (pyNext (.ref it)) (fun r s1 => r = none ∧ Inw X pins σ H s1) E s
  self : ∀ (A : Around) (i : Nat) (s : Shared) (Q : Value → Shared → Prop) (E : Value → Shared → Prop), tn i s.heap → Q (.ref it) s → wpAny (model P w) A (pyIter (.ref it)) Q E s
abbrev TI := St → Hp → (It → Hp → Prop) → Prop
def PIE (X : Cx) (pins : List (Addr × Obj)) (σ : St) (tg : Expr) (R : It → Hp → Prop) (itv : Value) (s2 : Shared) : Prop :=
  ∃ (it : Addr) (fp : List Addr) (tn : Nat → Heap → Prop) (J : It) (H' : Hp), itv = .ref it ∧ Inw X pins σ H' s2 ∧ Turn X.prog X.w X.K tg J fp it tn ∧ tn 0 s2.heap ∧ (∀ b ∈ fp, FpOk X pins H' b) ∧ R J H'
def PI (X : Cx) (tg iter : Expr) (wi : TI) : Prop :=
  ∀ (pins : List (Addr × Obj)) (s : Shared) (σ : St) (H : Hp) (R : It → Hp → Prop), Inv X pins σ H s → wi σ H R →
    wpAny (model X.prog X.w) X.A (eval iter X.env) (fun v s1 => wpAny (model X.prog X.w) X.A (pyIter v) (PIE X pins σ tg R) X.xe s1) X.xe s

theorem go_of {M : Model} {A : Around} {E : Value → Shared → Prop} {s : Shared} {tg : Expr} {it : Addr} {u : Value} {o : Obj} {n : String} {vs : Array Value} {Q : Unit → Shared → Prop} (ho : s.heap.get? it = some o) (hc : o.cls = .type n) (hd : o.data = .fields vs)
    (hn : ["enumerate", "zip", "dict_itemiterator", "dict_reverseitemiterator", "odict_iterator", "itertools.zip_longest", "itertools.pairwise"].contains n = false) (hQ : Q () s) : wpAny M A (letOwnedTupleGo tg (.ref it) u) Q E s := by
  unfold letOwnedTupleGo
  cases tg <;> first
    | exact wpAny_pure hQ
    | (cases u <;> first
        | exact wpAny_pure hQ
        | (refine wpAny_bind (wpAny_load ho ?_)
           rw [hc, hd]
           show wpAny M A (if (["enumerate", "zip", "dict_itemiterator", "dict_reverseitemiterator", "odict_iterator", "itertools.zip_longest", "itertools.pairwise"].contains n && vs[0]? == some (rawInt _)) = true then _ else _) Q E s
           rw [if_neg (by intro h; rw [hn, Bool.false_and] at h; cases h)]
           exact wpAny_pure hQ))

def Itl (K : PySem.W.Frag) (a : Addr) : It :=
  ⟨fun i H => ∃ xs x, SqL K H a xs ∧ xs[i]? = some x, fun i H x H' => H' = H ∧ ∀ xs, SqL K H a xs → xs[i]? = some x, fun i H => ∃ xs, SqL K H a xs ∧ xs.length ≤ i⟩
def Itt (K : PySem.W.Frag) (a : Addr) : It :=
  ⟨fun i H => ∃ xs x, SqT K H a xs ∧ xs[i]? = some x, fun i H x H' => H' = H ∧ ∀ xs, SqT K H a xs → xs[i]? = some x, fun i H => ∃ xs, SqT K H a xs ∧ xs.length ≤ i⟩
def Itr (lo : Int) (n : Nat) : It := ⟨fun i _ => i < n, fun i H x H' => H' = H ∧ x = .int (lo + i), fun i _ => n ≤ i⟩
theorem turn_list {P : Program} {w : World} {K : PySem.W.Frag} {tg : Expr} (a it : Addr) : Turn P w K tg (Itl K a) [it] it (fun i h => h.IsListIter it a i) where
  mem := by simp
  obj := fun i h st b hb => by
    have e : b = it := by simpa using hb
    subst e
    obtain ⟨o, e, c, d⟩ := st
    exact ⟨o, e, fun v z => by rw [d] at z; cases z⟩
  keep := fun i h h' st k => st.at fun o e => k it (by simp) o e
  item := by
    intro X hP hw hK hc i pins s σ H E I hf st hg
    subst hP hw hK
    obtain ⟨xs, x, hq, hx⟩ := hg
    obtain ⟨its, rv, p, hz⟩ := I.list hq
    obtain ⟨u, hu, ru⟩ := rv.get hx
    obtain ⟨f0, f1, f2, f3, f4, f5⟩ := hf it (by simp)
    refine wpAny_pyNext_list_item st p.isList (x := u) (by simpa using hu) fun h' st' sb => ?_
    have I1 : Inw X pins σ H { s with heap := h' } := I.turned (t' := s.toks) (fun b o hb e => (sb.2 b hb).trans e) f0 f1 f3 f4 f5
    obtain ⟨o, e, c, d⟩ := id st'
    exact ⟨u, rfl, go_of (s := { s with heap := h' }) e c d (by decide) ⟨x, H, I1, ru, ⟨rfl, fun ys hy => by rw [I.list_inj hy hq]; exact hx⟩, st', fun b hb => (hf b hb).1⟩⟩
  done := by
    intro X hP hw hK hc i pins s σ H E I hf st hg
    subst hP hw hK
    obtain ⟨xs, hq, hx⟩ := hg
    obtain ⟨its, rv, p, hz⟩ := I.list hq
    obtain ⟨f0, f1, f2, f3, f4, f5⟩ := hf it (by simp)
    have hl := rv.length
    exact wpAny_pyNext_list_end (I.ok.hd hc) st p.isList (by simp; omega) fun h' eb => ⟨rfl, I.turned (t' := s.toks) (fun b o hb e => eb b o hb e) f0 f1 f3 f4 f5⟩
  self := fun _ _ _ _ _ st h => wpAny_pyIter_listiter st h
theorem turn_tuple {P : Program} {w : World} {K : PySem.W.Frag} {tg : Expr} (a it : Addr) : Turn P w K tg (Itt K a) [it] it (fun i h => h.IsTupleIter it a i) where
  mem := by simp
  obj := fun i h st b hb => by
    have e : b = it := by simpa using hb
    subst e
    obtain ⟨o, e, c, d⟩ := st
    exact ⟨o, e, fun v z => by rw [d] at z; cases z⟩
  keep := fun i h h' st k => st.at fun o e => k it (by simp) o e
  item := by
    intro X hP hw hK hc i pins s σ H E I hf st hg
    subst hP hw hK
    obtain ⟨xs, x, hq, hx⟩ := hg
    obtain ⟨its, rv, p, hz⟩ := I.tuple hq
    obtain ⟨u, hu, ru⟩ := rv.get hx
    obtain ⟨f0, f1, f2, f3, f4, f5⟩ := hf it (by simp)
    refine wpAny_pyNext_tuple_item st (show s.heap.IsTuple a its.toArray from p) (x := u) (by simpa using hu) fun h' st' sb => ?_
    have I1 : Inw X pins σ H { s with heap := h' } := I.turned (t' := s.toks) (fun b o hb e => (sb.2 b hb).trans e) f0 f1 f3 f4 f5
    obtain ⟨o, e, c, d⟩ := id st'
    exact ⟨u, rfl, go_of (s := { s with heap := h' }) e c d (by decide) ⟨x, H, I1, ru, ⟨rfl, fun ys hy => by rw [I.tuple_inj hy hq]; exact hx⟩, st', fun b hb => (hf b hb).1⟩⟩
  done := by
    intro X hP hw hK hc i pins s σ H E I hf st hg
    subst hP hw hK
    obtain ⟨xs, hq, hx⟩ := hg
    obtain ⟨its, rv, p, hz⟩ := I.tuple hq
    obtain ⟨f0, f1, f2, f3, f4, f5⟩ := hf it (by simp)
    have hl := rv.length
    exact wpAny_pyNext_tuple_end (I.ok.hd hc) st (show s.heap.IsTuple a its.toArray from p) (by simp; omega) fun h' eb => ⟨rfl, I.turned (t' := s.toks) (fun b o hb e => eb b o hb e) f0 f1 f3 f4 f5⟩
  self := fun _ _ _ _ _ st h => wpAny_pyIter_tupleiter st h
theorem turn_range {P : Program} {w : World} {K : PySem.W.Frag} {tg : Expr} (it : Addr) (lo : Int) (n : Nat) : Turn P w K tg (Itr lo n) [it] it (fun i h => IsRangeIter h it (lo + (i : Nat) * 1) ((n : Int) - (i : Nat)) 1) where
  mem := by simp
  obj := fun i h st b hb => by
    have e : b = it := by simpa using hb
    subst e
    exact ⟨_, st, fun v z => by
      have z' : Data.fields _ = Data.cell v := z
      cases z'⟩
  keep := fun i h h' st k => k it (by simp) _ st
  item := by
    intro X hP hw hK hc i pins s σ H E I hf st hg
    subst hP hw hK
    obtain ⟨f0, f1, f2, f3, f4, f5⟩ := hf it (by simp)
    have W := Walks.range (prog := X.prog) (w := X.w) (I.ok.hd hc) it lo 1 n
    refine W.item i s _ _ hg st fun v h' tk hv st' kk => ?_
    obtain ⟨t, rfl⟩ := hv
    have I1 : Inw X pins σ H { s with heap := h', toks := tk } := I.turned (fun b o hb e => kk b o (by simpa using hb) e) f0 f1 f3 f4 f5
    refine ⟨_, rfl, go_of (s := { s with heap := h', toks := tk }) (n := "range_iterator") st' rfl rfl (by decide) ⟨.int (lo + i), H, I1, ⟨t, ?_⟩, ⟨rfl, rfl⟩, st', fun b hb => (hf b hb).1⟩⟩
    rw [Int.mul_one]
  done := by
    intro X hP hw hK hc i pins s σ H E I hf st hg
    subst hP hw hK
    obtain ⟨f0, f1, f2, f3, f4, f5⟩ := hf it (by simp)
    exact wpAny_pyNext_range_end (I.ok.hd hc) st (by have : n ≤ i := hg; omega) fun h' eb => ⟨rfl, I.turned (t' := s.toks) (fun b o hb e => eb b o hb e) f0 f1 f3 f4 f5⟩
  self := fun _ _ _ _ _ st h => wpAny_pyIter_rangeiter st h
end L2

namespace L2
open PySem PySem.Spec PyProof.Rows
section
variable {X : Cx} {tg : Expr}
def iList (K : PySem.W.Frag) (tl : TE) : TI := fun σ H R => tl σ H fun x H1 => ∃ a, x = .ref a ∧ (∃ xs, SqL K H1 a xs) ∧ R (Itl K a) H1
def iTup (K : PySem.W.Frag) (tl : TE) : TI := fun σ H R => tl σ H fun x H1 => ∃ a, x = .ref a ∧ (∃ xs, SqT K H1 a xs) ∧ R (Itt K a) H1
theorem pi_list {l : Expr} {tl : TE} (hl : PE X l tl) : PI X tg l (iList X.K tl) := by
  intro pins s σ H R I h
  refine thn (hl pins s σ H _ I h) fun v s1 ⟨x, H1, I1, r1, q1⟩ => ?_
  obtain ⟨a, e, ⟨xs, hq⟩, q⟩ := q1
  subst e
  cases r1
  obtain ⟨its, rv, p, hz⟩ := I1.list hq
  refine wpAny_pyIter_list p.isList ?_
  refine ⟨s1.heap.objs.size, [s1.heap.objs.size], _, _, H1, rfl, I1.kept (t' := s1.toks) fun b o e => Heap.get?_push_of_some _ e, turn_list a _, ⟨_, Heap.get?_push_size _ rfl, rfl, rfl⟩, fun b hb => ?_, q⟩
  have e : b = s1.heap.objs.size := by simpa using hb
  subst e
  exact I1.fpOk (Nat.le_refl _) (I1.hok.fresh (Nat.le_refl _))
theorem pi_tup {l : Expr} {tl : TE} (hl : PE X l tl) : PI X tg l (iTup X.K tl) := by
  intro pins s σ H R I h
  refine thn (hl pins s σ H _ I h) fun v s1 ⟨x, H1, I1, r1, q1⟩ => ?_
  obtain ⟨a, e, ⟨xs, hq⟩, q⟩ := q1
  subst e
  cases r1
  obtain ⟨its, rv, p, hz⟩ := I1.tuple hq
  refine wpAny_pyIter_tuple (show s1.heap.IsTuple a its.toArray from p) ?_
  refine ⟨s1.heap.objs.size, [s1.heap.objs.size], _, _, H1, rfl, I1.kept (t' := s1.toks) fun b o e => Heap.get?_push_of_some _ e, turn_tuple a _, ⟨_, Heap.get?_push_size _ rfl, rfl, rfl⟩, fun b hb => ?_, q⟩
  have e : b = s1.heap.objs.size := by simpa using hb
  subst e
  exact I1.fpOk (Nat.le_refl _) (I1.hok.fresh (Nat.le_refl _))
theorem range_it {pins : List (Addr × Obj)} {σ : St} {H : Hp} {s : Shared} {R : It → Hp → Prop} {E : Value → Shared → Prop} {lo hi : Int} {t u v : Tok} {tk : Nat} (I : Inv X pins σ H s) (h1 : -(2 ^ 62) ≤ lo) (h2 : lo < 2 ^ 62) (h3 : -(2 ^ 62) ≤ hi) (h4 : hi < 2 ^ 62)
    (q : R (Itr lo (hi - lo).toNat) H) : wpAny (model X.prog X.w) X.A (pyIter (.ref s.heap.objs.size)) (PIE X pins σ tg R) E { s with heap := s.heap.push { cls := .type "range", data := .fields #[.int lo t, .int hi u, .int 1 v] }, toks := tk } := by
  refine wpAny_pyIter_range (IsRange.new ..) (small_one h1 h2 h3 h4) ?_
  have I1 : Inw X pins σ H { s with heap := s.heap.push { cls := .type "range", data := .fields #[.int lo t, .int hi u, .int 1 v] }, toks := tk } := I.kept fun b o e => Heap.get?_push_of_some _ e
  refine ⟨(s.heap.push { cls := .type "range", data := .fields #[.int lo t, .int hi u, .int 1 v] }).objs.size, [(s.heap.push { cls := .type "range", data := .fields #[.int lo t, .int hi u, .int 1 v] }).objs.size], _, _, H, rfl,
    I1.kept (t' := tk) fun b o e => Heap.get?_push_of_some _ e, turn_range _ lo (hi - lo).toNat, ?_, fun b hb => ?_, q⟩
  · have e1 : lo + ((0 : Nat) : Int) * 1 = lo := by simp
    have e2 : (((hi - lo).toNat : Nat) : Int) - ((0 : Nat) : Int) = Builtin.Range.rangeSize lo hi 1 := by rw [rangeSize_one]; split <;> omega
    show IsRangeIter _ _ (lo + ((0 : Nat) : Int) * 1) ((((hi - lo).toNat : Nat) : Int) - ((0 : Nat) : Int)) 1
    rw [e1, e2]
    exact Heap.get?_push_size _ rfl
  · have e : b = (s.heap.push { cls := .type "range", data := .fields #[.int lo t, .int hi u, .int 1 v] }).objs.size := by simpa using hb
    subst e
    exact I1.fpOk (Nat.le_refl _) (I1.hok.fresh (Nat.le_refl _))
def iRng1 (ta : TA) : TI := fun σ H R => ta σ H fun vs H1 => ∃ j : Int, vs = [.int j] ∧ -(2 ^ 62) ≤ j ∧ j < 2 ^ 62 ∧ R (Itr 0 j.toNat) H1
def iRng2 (ta : TA) : TI := fun σ H R => ta σ H fun vs H1 => ∃ i j : Int, vs = [.int i, .int j] ∧ (-(2 ^ 62) ≤ i ∧ i < 2 ^ 62 ∧ -(2 ^ 62) ≤ j ∧ j < 2 ^ 62) ∧ R (Itr i (j - i).toNat) H1
theorem pi_range1 {a : Expr} {ta : TA} {p pos : Pos} (hg : Gl X "range") (hm : X.mg "range" = none) (ha : PA X [a] ta) (hs : starEach [a] X.env = [(false, eval a X.env)] := by rfl) : PI X tg (.Call (.Name "range" p) [a] [] pos) (iRng1 ta) := by
  intro pins s σ H R I h
  refine Call_ (ld_blt I hg hm boot_range (PyProof.Rows.callWith_type1 (thn (ha pos pins s σ H _ I h) fun us s1 ⟨vs, H1, I1, r1, q1⟩ => ?_) hs rfl))
  obtain ⟨j, e, q1, q2, q⟩ := q1
  subst e
  cases r1 with
  | cons r rr =>
    cases rr
    obtain ⟨t, rfl⟩ := r
    exact call_range_1 (range_it I1 (by omega) (by omega) q1 q2 (by simpa using q))

def tFor (wi : TI) (g : TG) (tb : TS) : TS := fun D σ H => wi σ H fun J H1 => ∃ W : Nat → Nat → St → Hp → Prop, (∃ m, W 0 m σ H1) ∧ ∀ i m σ H, W i m σ H →
  (J.stop i H ∧ D.nx σ H) ∨ (J.go i H ∧ ∃ N : St → Hp → Prop, (∀ σ' H', N σ' H' → ∃ m', m' < m ∧ W (i + 1) m' σ' H') ∧ ∀ x H', J.yld i H x H' → g x σ H' fun σ2 H2 => tb { D with nx := N, ct := N, bk := D.nx } σ2 H2)
def pinsAt (fp : List Addr) (h : Heap) : List (Addr × Obj) := fp.filterMap fun b => (h.get? b).map fun o => (b, o)
theorem mem_pinsAt {fp : List Addr} {h : Heap} {b : Addr} {o : Obj} (hb : b ∈ fp) (e : h.get? b = some o) : (b, o) ∈ pinsAt fp h := List.mem_filterMap.mpr ⟨b, hb, by rw [e]; rfl⟩
theorem of_pinsAt {fp : List Addr} {h : Heap} {p : Addr × Obj} (hp : p ∈ pinsAt fp h) : p.1 ∈ fp ∧ h.get? p.1 = some p.2 := by
  obtain ⟨b, hb, e⟩ := List.mem_filterMap.mp hp
  cases q : h.get? b with
  | none => rw [q] at e; cases e
  | some o =>
    rw [q] at e
    have e' : (b, o) = p := Option.some.inj e
    subst e'
    exact ⟨hb, q⟩
theorem Inw.pinned {pins : List (Addr × Obj)} {σ : St} {H : Hp} {s : Shared} {fp : List Addr} (I : Inw X pins σ H s) (hf : ∀ b ∈ fp, FpOk X pins H b) (ho : ∀ b ∈ fp, ∃ o, s.heap.get? b = some o ∧ ∀ v, o.data ≠ .cell v) : Inw X (pins ++ pinsAt fp s.heap) σ H s :=
  I.pins_of fun p hp => (List.mem_append.mp hp).elim (fun z => I.pin p (List.mem_append_right _ z)) fun z => by
    obtain ⟨hb, e⟩ := of_pinsAt z
    obtain ⟨f0, f1, f2, _⟩ := hf p.1 hb
    obtain ⟨o, e', d⟩ := ho p.1 hb
    rw [e] at e'; cases e'
    exact ⟨e, f0, f1, f2, d⟩
theorem Inw.unpinned {pins pl : List (Addr × Obj)} {σ : St} {H : Hp} {s : Shared} (I : Inw X (pins ++ pl) σ H s) : Inw X pins σ H s := I.pins_of fun p hp => I.pin p (List.mem_append_right _ (List.mem_append_left _ hp))
theorem ps_for {iter : Expr} {body : List Stmt} {wi : TI} {g : TG} {tb : TS} {pos : Pos} (hp : PassesOwn (model X.prog X.w) X.A X.env X.xe) (hc : X.calm = true) (hi : PI X tg iter wi) (hg : PG X tg g) (hb : PSs X body tb)
    (hs : ∀ x, foldedSetIterable iter X.env x = pure x := by intro _; rfl) : PS X (.For tg iter body [] pos) (tFor wi g tb) := by
  intro pins s σ H D I h
  refine wpAny_For (thn (hi pins s σ H _ I h) fun v s1 g1 => ?_) hs
  refine thnZ g1.pos g1.run fun itv s2 z2 h2 => ?_
  obtain ⟨it, fp, tn, J, H2, e, I2, T, st2, f2, W, ⟨m0, w0⟩, turn⟩ := h2
  subst e
  -- what stays true of the iterator's objects through the loop
  have stat : ∀ {H' : Hp}, (∀ b ∈ fp, H' b = none) → ∀ b ∈ fp, FpOk X pins H' b := fun hn b hb => ⟨hn b hb, (f2 b hb).2⟩
  refine codeAny_forLoop_any (fun n s' => ∃ i σ' H', Inv X pins σ' H' s' ∧ tn i s'.heap ∧ (∀ b ∈ fp, H' b = none) ∧ W i n σ' H') ?_ m0 ⟨0, σ, H2, ⟨I2, z2⟩, st2, fun b hb => (f2 b hb).1, w0⟩
  rintro n s3 ⟨i, σ3, H3, I3, st3, fr3, w3⟩
  rcases turn i n σ3 H3 w3 with ⟨stop, qn⟩ | ⟨go, N, hN, step⟩
  · refine wpAny_passesOwn hp (thn (T.done X rfl rfl rfl hc i pins s3 σ3 H3 X.xe I3 (stat fr3) st3 stop) fun r s4 ⟨hr, I4⟩ => ?_)
    subst hr
    exact wpAny_execs_nil ⟨σ3, H3, I4, qn⟩
  · refine wpAny_passesOwn hp (thnZ I3.pos (T.item X rfl rfl rfl hc i pins s3 σ3 H3 X.xe I3 (stat fr3) st3 go) fun r s4 z4 ⟨u, hr, h4⟩ => ?_)
    subst hr
    refine wpAny_passesOwn hp (thnZ z4 h4 fun _ s5 z5 ⟨x, H5, I5, r5, y5, st5, fr5⟩ => ?_)
    have I5' : Inv X _ _ _ s5 := ⟨I5.pinned (stat fr5) (T.obj _ _ st5), z5⟩
    refine wpAny_passesOwn hp (thn (hg _ s5 σ3 H5 x u _ I5' r5 (step x H5 y5)) fun _ s6 ⟨σ6, H6, I6, q6⟩ => ?_)
    refine wpAny_passesOwn hp (thn (hb _ s6 σ6 H6 _ I6 q6) fun f s7 q7 => ?_)
    have again : ∀ {σ7 : St} {H7 : Hp}, Inv X (pins ++ pinsAt fp s5.heap) σ7 H7 s7 → N σ7 H7 → ∃ m, m < n ∧ ∃ i σ' H', Inv X pins σ' H' s7 ∧ tn i s7.heap ∧ (∀ b ∈ fp, H' b = none) ∧ W i m σ' H' := fun {σ7 H7} I7 n7 => by
      obtain ⟨m', hm, w7⟩ := hN σ7 H7 n7
      refine ⟨m', hm, i + 1, σ7, H7, ⟨I7.unpinned, I7.pos⟩, T.keep _ _ _ st5 fun b hb o e => (I7.pin (b, o) (List.mem_append_right _ (List.mem_append_right _ (mem_pinsAt hb e)))).1, fun b hb => ?_, w7⟩
      obtain ⟨o, e, d⟩ := T.obj _ _ st5 b hb
      exact (I7.pin (b, o) (List.mem_append_right _ (List.mem_append_right _ (mem_pinsAt hb e)))).2.1
    cases f with
    | next => obtain ⟨σ7, H7, I7, n7⟩ := q7; exact again I7 n7
    | cont => obtain ⟨σ7, H7, I7, n7⟩ := q7; exact again I7 n7
    | brk => obtain ⟨σ7, H7, I7, q7⟩ := q7; exact ⟨σ7, H7, I7.unpinned, q7⟩
    | ret v => obtain ⟨x7, σ7, H7, I7, r7, q7⟩ := q7; exact ⟨x7, σ7, H7, I7.unpinned, r7, q7⟩
end

theorem for_list {K : PySem.W.Frag} {a : Addr} {xs : List V} {g : TG} {tb : TS} {D : Ends} {σ : St} {H : Hp} (Pv : Nat → St → Hp → Prop) (h0 : Pv 0 σ H) (hl : ∀ i σ H, i ≤ xs.length → Pv i σ H → SqL K H a xs)
    (hs : ∀ i x σ H, xs[i]? = some x → Pv i σ H → g x σ H fun σ2 H2 => tb { D with nx := Pv (i + 1), ct := Pv (i + 1), bk := D.nx } σ2 H2) (hd : ∀ σ H, Pv xs.length σ H → D.nx σ H) :
    ∃ W : Nat → Nat → St → Hp → Prop, (∃ m, W 0 m σ H) ∧ ∀ i m σ H, W i m σ H →
      ((Itl K a).stop i H ∧ D.nx σ H) ∨ ((Itl K a).go i H ∧ ∃ N : St → Hp → Prop, (∀ σ' H', N σ' H' → ∃ m', m' < m ∧ W (i + 1) m' σ' H') ∧ ∀ x H', (Itl K a).yld i H x H' → g x σ H' fun σ2 H2 => tb { D with nx := N, ct := N, bk := D.nx } σ2 H2) := by
  refine ⟨fun i m σ H => m = xs.length - i ∧ i ≤ xs.length ∧ Pv i σ H, ⟨xs.length, by simp, Nat.zero_le _, h0⟩, ?_⟩
  rintro i m σ H ⟨rfl, hi, p⟩
  have q := hl i σ H hi p
  by_cases hlt : i < xs.length
  · refine .inr ⟨⟨xs, xs[i], q, by simp [hlt]⟩, Pv (i + 1), fun σ' H' p' => ⟨xs.length - (i + 1), by omega, rfl, hlt, p'⟩, fun x H' y => ?_⟩
    obtain ⟨e, y⟩ := y
    subst e
    exact hs i x σ _ (y xs q) p
  · have e : i = xs.length := by omega
    subst e
    exact .inl ⟨⟨xs, q, Nat.le_refl _⟩, hd σ H p⟩
theorem for_tup {K : PySem.W.Frag} {a : Addr} {xs : List V} {g : TG} {tb : TS} {D : Ends} {σ : St} {H : Hp} (Pv : Nat → St → Hp → Prop) (h0 : Pv 0 σ H) (hl : ∀ i σ H, i ≤ xs.length → Pv i σ H → SqT K H a xs)
    (hs : ∀ i x σ H, xs[i]? = some x → Pv i σ H → g x σ H fun σ2 H2 => tb { D with nx := Pv (i + 1), ct := Pv (i + 1), bk := D.nx } σ2 H2) (hd : ∀ σ H, Pv xs.length σ H → D.nx σ H) :
    ∃ W : Nat → Nat → St → Hp → Prop, (∃ m, W 0 m σ H) ∧ ∀ i m σ H, W i m σ H →
      ((Itt K a).stop i H ∧ D.nx σ H) ∨ ((Itt K a).go i H ∧ ∃ N : St → Hp → Prop, (∀ σ' H', N σ' H' → ∃ m', m' < m ∧ W (i + 1) m' σ' H') ∧ ∀ x H', (Itt K a).yld i H x H' → g x σ H' fun σ2 H2 => tb { D with nx := N, ct := N, bk := D.nx } σ2 H2) := by
  refine ⟨fun i m σ H => m = xs.length - i ∧ i ≤ xs.length ∧ Pv i σ H, ⟨xs.length, by simp, Nat.zero_le _, h0⟩, ?_⟩
  rintro i m σ H ⟨rfl, hi, p⟩
  have q := hl i σ H hi p
  by_cases hlt : i < xs.length
  · refine .inr ⟨⟨xs, xs[i], q, by simp [hlt]⟩, Pv (i + 1), fun σ' H' p' => ⟨xs.length - (i + 1), by omega, rfl, hlt, p'⟩, fun x H' y => ?_⟩
    obtain ⟨e, y⟩ := y
    subst e
    exact hs i x σ _ (y xs q) p
  · have e : i = xs.length := by omega
    subst e
    exact .inl ⟨⟨xs, q, Nat.le_refl _⟩, hd σ H p⟩
theorem for_range {lo : Int} {n : Nat} {g : TG} {tb : TS} {D : Ends} {σ : St} {H : Hp} (Pv : Nat → St → Hp → Prop) (h0 : Pv 0 σ H)
    (hs : ∀ i σ H, i < n → Pv i σ H → g (.int (lo + i)) σ H fun σ2 H2 => tb { D with nx := Pv (i + 1), ct := Pv (i + 1), bk := D.nx } σ2 H2) (hd : ∀ σ H, Pv n σ H → D.nx σ H) :
    ∃ W : Nat → Nat → St → Hp → Prop, (∃ m, W 0 m σ H) ∧ ∀ i m σ H, W i m σ H →
      ((Itr lo n).stop i H ∧ D.nx σ H) ∨ ((Itr lo n).go i H ∧ ∃ N : St → Hp → Prop, (∀ σ' H', N σ' H' → ∃ m', m' < m ∧ W (i + 1) m' σ' H') ∧ ∀ x H', (Itr lo n).yld i H x H' → g x σ H' fun σ2 H2 => tb { D with nx := N, ct := N, bk := D.nx } σ2 H2) := by
  refine ⟨fun i m σ H => m = n - i ∧ i ≤ n ∧ Pv i σ H, ⟨n, by simp, Nat.zero_le _, h0⟩, ?_⟩
  rintro i m σ H ⟨rfl, hi, p⟩
  by_cases hlt : i < n
  · refine .inr ⟨hlt, Pv (i + 1), fun σ' H' p' => ⟨n - (i + 1), by omega, rfl, hlt, p'⟩, fun x H' y => ?_⟩
    obtain ⟨e, y⟩ := y
    subst e y
    exact hs i σ _ hlt p
  · have e : i = n := by omega
    subst e
    exact .inl ⟨Nat.le_refl _, hd σ H p⟩
end L2

namespace L2
open PySem PySem.Spec PyProof.Rows

abbrev R2 := V → V → Hp → VK → Prop
def OpR (X : Cx) (f : Value → Value → Sem Value) (r : R2) : Prop :=
  ∀ (pins : List (Addr × Obj)) (s : Shared) (σ : St) (H : Hp) (x y : V) (v u : Value) (Q : VK), Inv X pins σ H s → RelV x v → RelV y u → r x y H Q →
    wpAny (model X.prog X.w) X.A (f v u) (EP X pins σ Q) X.xe s
def UnR (X : Cx) (f : Value → Sem Value) (r : V → Hp → VK → Prop) : Prop :=
  ∀ (pins : List (Addr × Obj)) (s : Shared) (σ : St) (H : Hp) (x : V) (v : Value) (Q : VK), Inv X pins σ H s → RelV x v → r x H Q →
    wpAny (model X.prog X.w) X.A (f v) (EP X pins σ Q) X.xe s
def CallR (X : Cx) (f : Value) (r : List V → Hp → VK → Prop) : Prop :=
  ∀ (pins : List (Addr × Obj)) (s : Shared) (σ : St) (H : Hp) (xs : List V) (us : List Value) (Q : VK), Inv X pins σ H s → Vals xs us → r xs H Q →
    wpAny (model X.prog X.w) X.A (call f us) (EP X pins σ Q) X.xe s
def TruR (X : Cx) (r : V → Hp → (Bool → Hp → Prop) → Prop) : Prop :=
  ∀ (pins : List (Addr × Obj)) (s : Shared) (σ : St) (H : Hp) (x : V) (v : Value) (Q : Bool → Hp → Prop), Inv X pins σ H s → RelV x v → r x H Q →
    wpAny (model X.prog X.w) X.A (truthy v) (TP X pins σ Q) X.xe s

def tOp (r : R2) (ta tb : TE) : TE := fun σ H Q => ta σ H fun x H1 => tb σ H1 fun y H2 => r x y H2 Q
def tUn (r : V → Hp → VK → Prop) (ta : TE) : TE := fun σ H Q => ta σ H fun x H1 => r x H1 Q
def rI (C : Int → Int → Prop) (g : Int → Int → V) : R2 := fun x y H Q => ∃ i j, x = .int i ∧ y = .int j ∧ C i j ∧ Q (g i j) H
def rI0 (g : Int → Int → V) : R2 := fun x y H Q => ∃ i j, x = .int i ∧ y = .int j ∧ Q (g i j) H
def rU (g : Int → V) : V → Hp → VK → Prop := fun x H Q => ∃ i, x = .int i ∧ Q (g i) H

section
variable {X : Cx} {a b c : Expr} {ta tb tc : TE} {pos : Pos}

theorem binT (ha : PE X a ta) (hb : PE X b tb) {pins : List (Addr × Obj)} {s : Shared} {σ : St} {H : Hp} {R : V → V → Hp → Prop} (I : Inv X pins σ H s)
    (h : ta σ H fun x H1 => tb σ H1 fun y H2 => R x y H2) {Q : Value → Shared → Prop} {f : Value → Value → Sem Value}
    (hf : ∀ v u s2 x y H2, Inv X pins σ H2 s2 → RelV x v → RelV y u → R x y H2 → wpAny (model X.prog X.w) X.A (f v u) Q X.xe s2) :
    wpAny (model X.prog X.w) X.A (eval a X.env) (fun v s₁ => wpAny (model X.prog X.w) X.A (eval b X.env) (fun u s₂ => wpAny (model X.prog X.w) X.A (f v u) Q X.xe s₂) X.xe s₁) X.xe s := by
  refine thn (ha pins s σ H _ I h) fun v s1 ⟨x, H1, I1, r1, q1⟩ => ?_
  refine thn (hb pins s1 σ H1 _ I1 q1) fun u s2 ⟨y, H2, I2, r2, q2⟩ => ?_
  exact hf v u s2 x y H2 I2 r1 r2 q2

theorem pe_op {op : Operator} {r : R2} (ho : OpR X (binaryOp op) r) (ha : PE X a ta) (hb : PE X b tb) : PE X (.BinOp a op b pos) (tOp r ta tb) := by
  intro pins s σ H Q I h
  exact wpAny_BinOp (binT ha hb I h fun v u s2 x y H2 I2 rx ry q => ho pins s2 σ H2 x y v u Q I2 rx ry q)
theorem pe_un {op : UnaryOp} {r : V → Hp → VK → Prop} (ho : UnR X (unaryOp op) r) (ha : PE X a ta) : PE X (.UnaryOp op a pos) (tUn r ta) := by
  intro pins s σ H Q I h
  exact UnaryOp_ (thn (ha pins s σ H _ I h) fun v s1 ⟨x, H1, I1, r1, q1⟩ => ho pins s1 σ H1 x v Q I1 r1 q1)

theorem opI {f : Value → Value → Sem Value} {C : Int → Int → Prop} {g : Int → Int → Int}
    (rule : ∀ (i j : Int) (t u : Tok) (s : Shared) (Q : Value → Shared → Prop) (E : Value → Shared → Prop), C i j → Q (.int (g i j) s.toks) { s with toks := s.toks + 1 } → wpAny (model X.prog X.w) X.A (f (.int i t) (.int j u)) Q E s) :
    OpR X f (rI C fun i j => .int (g i j)) := by
  intro pins s σ H x y v u Q I rx ry h
  obtain ⟨i, j, rfl, rfl, hc, q⟩ := h
  obtain ⟨t, rfl⟩ := rx
  obtain ⟨t', rfl⟩ := ry
  exact rule i j t t' s _ _ hc ⟨.int (g i j), H, I.tok _, ⟨_, rfl⟩, q⟩
theorem opI0 {f : Value → Value → Sem Value} {g : Int → Int → Int}
    (rule : ∀ (i j : Int) (t u : Tok) (s : Shared) (Q : Value → Shared → Prop) (E : Value → Shared → Prop), Q (.int (g i j) s.toks) { s with toks := s.toks + 1 } → wpAny (model X.prog X.w) X.A (f (.int i t) (.int j u)) Q E s) :
    OpR X f (rI0 fun i j => .int (g i j)) := by
  intro pins s σ H x y v u Q I rx ry h
  obtain ⟨i, j, rfl, rfl, q⟩ := h
  obtain ⟨t, rfl⟩ := rx
  obtain ⟨t', rfl⟩ := ry
  exact rule i j t t' s _ _ ⟨.int (g i j), H, I.tok _, ⟨_, rfl⟩, q⟩
theorem opB0 {f : Value → Value → Sem Value} {g : Int → Int → Bool}
    (rule : ∀ (i j : Int) (t u : Tok) (s : Shared) (Q : Value → Shared → Prop) (E : Value → Shared → Prop), Q (.bool (g i j)) s → wpAny (model X.prog X.w) X.A (f (.int i t) (.int j u)) Q E s) :
    OpR X f (rI0 fun i j => .bl (g i j)) := by
  intro pins s σ H x y v u Q I rx ry h
  obtain ⟨i, j, rfl, rfl, q⟩ := h
  obtain ⟨t, rfl⟩ := rx
  obtain ⟨t', rfl⟩ := ry
  exact rule i j t t' s _ _ ⟨.bl (g i j), H, I, rfl, q⟩

def CDiv (i j : Int) : Prop := 0 < j ∧ j < 1073741824
def CPow (i j : Int) : Prop := 0 ≤ j ∧ j ≤ 1000000 ∧ i.natAbs < 2 ^ 64
def CMul (i j : Int) : Prop := (-(2 ^ 64) < i ∧ i < 2 ^ 64) ∨ (-(2 ^ 64) < j ∧ j < 2 ^ 64)
theorem CMul.ok {i j : Int} (h : CMul i j) : IntMulOk i j := by
  rcases h with ⟨h1, h2⟩ | ⟨h1, h2⟩
  · exact .of_left (intBits_le_64 h1 h2)
  · exact .of_right (intBits_le_64 h1 h2)

theorem op_add : OpR X (binaryOp .Add) (rI0 fun i j => .int (i + j)) := opI0 fun _ _ _ _ _ _ _ q => add_int q
theorem op_sub : OpR X (binaryOp .Sub) (rI0 fun i j => .int (i - j)) := opI0 fun _ _ _ _ _ _ _ q => sub_int q
theorem op_mul : OpR X (binaryOp .Mult) (rI CMul fun i j => .int (i * j)) := opI fun _ _ _ _ _ _ _ hc q => mul_int q hc.ok
theorem op_fdiv : OpR X (binaryOp .FloorDiv) (rI CDiv fun i j => .int (i / j)) := opI fun i j _ _ _ _ _ hc q => by
  have h1 : (0 : Int) < j := hc.1
  have h2 : j < 1073741824 := hc.2
  exact floordiv_int (by omega) (by rw [Int.fdiv_eq_ediv_of_nonneg i (by omega)]; exact q) (.inl (PyProof.noPylong_small (by omega)))
theorem op_mod : OpR X (binaryOp .Mod) (rI (fun _ j => 0 < j) fun i j => .int (i % j)) := opI fun i j _ _ _ _ _ hc q => by
  have h1 : (0 : Int) < j := hc
  exact mod_int' (by omega) (by rw [Int.fmod_eq_emod_of_nonneg i (by omega)]; exact q)
theorem op_pow : OpR X (binaryOp .Pow) (rI CPow fun i j => .int (i ^ j.toNat)) := opI fun _ _ _ _ _ _ _ hc q => pow_int_small hc.1 hc.2.1 hc.2.2 q


theorem unI {f : Value → Sem Value} {g : Int → Int}
    (rule : ∀ (i : Int) (t : Tok) (s : Shared) (Q : Value → Shared → Prop) (E : Value → Shared → Prop), Q (.int (g i) s.toks) { s with toks := s.toks + 1 } → wpAny (model X.prog X.w) X.A (f (.int i t)) Q E s) :
    UnR X f (rU fun i => .int (g i)) := by
  intro pins s σ H x v Q I rx h
  obtain ⟨i, rfl, q⟩ := h
  obtain ⟨t, rfl⟩ := rx
  exact rule i t s _ _ ⟨.int (g i), H, I.tok _, ⟨_, rfl⟩, q⟩
theorem un_neg : UnR X (unaryOp .USub) (rU fun i => .int (-i)) := unI fun _ _ _ _ _ q => neg_int q

end

def scal : V → V → Bool
  | .non, .non => true | .non, .int _ => true | .int _, .non => true | .non, .bl _ => true | .bl _, .non => true | .non, .str _ => true | .str _, .non => true
  | .int _, .int _ => true | .bl _, .bl _ => true | .str _, .str _ => true | .byt _, .byt _ => true
  | .int _, .str _ => true | .str _, .int _ => true | .bl _, .str _ => true | .str _, .bl _ => true
  | _, _ => false
def rEq : R2 := fun x y H Q => scal x y = true ∧ Q (.bl (decide (x = y))) H
def rNe : R2 := fun x y H Q => scal x y = true ∧ Q (.bl (!decide (x = y))) H

theorem dec_int {i j : Int} : decide (V.int i = V.int j) = (i == j) := by
  rw [Bool.eq_iff_iff]
  simp
theorem dec_bl {i j : Bool} : decide (V.bl i = V.bl j) = (i == j) := by
  rw [Bool.eq_iff_iff]
  simp
theorem dec_str {i j : Str} : decide (V.str i = V.str j) = (i == j) := by
  rw [Bool.eq_iff_iff]
  simp
theorem dec_byt {i j : Array UInt8} : decide (V.byt i = V.byt j) = (i.toList == j.toList) := by
  rw [Bool.eq_iff_iff]
  cases i
  cases j
  simp

section
variable {X : Cx} {a b c : Expr} {ta tb tc : TE} {pos : Pos}
theorem fin_bl {pins : List (Addr × Obj)} {σ : St} {H : Hp} {s : Shared} {Q : VK} {k k' : Bool} (I : Inv X pins σ H s) (q : Q (.bl k) H) (e : k = k') : EP X pins σ Q (.bool k') s := by
  subst e
  exact ⟨.bl k, H, I, rfl, q⟩
theorem op_eq : OpR X (compareOp .Eq) rEq := by
  intro pins s σ H x y v u Q I rx ry h
  obtain ⟨hs, q⟩ := h
  cases x with
  | non =>
    cases rx
    cases y with
    | non => cases ry; exact PySem.EqNone.eq_none_none (fin_bl I q (by simp))
    | bl j => cases ry; exact PySem.EqNone.eq_none_bool (fin_bl I q (by simp))
    | int j => obtain ⟨t', rfl⟩ := ry; exact PySem.EqNone.eq_none_int (fin_bl I q (by simp))
    | str j => obtain ⟨t', rfl⟩ := ry; exact PySem.EqNone.eq_none_str (fin_bl I q (by simp))
    | _ => exact absurd (show false = true from hs) Bool.false_ne_true
  | bl i =>
    cases rx
    cases y with
    | non => cases ry; exact PySem.EqNone.eq_bool_none (fin_bl I q (by simp))
    | bl j => cases ry; exact eq_bool (fin_bl I q dec_bl)
    | str j => obtain ⟨t', rfl⟩ := ry; exact PySem.EqMixed.eq_bool_str (fin_bl I q (by simp))
    | _ => exact absurd (show false = true from hs) Bool.false_ne_true
  | int i =>
    obtain ⟨t, rfl⟩ := rx
    cases y with
    | non => cases ry; exact PySem.EqNone.eq_int_none (fin_bl I q (by simp))
    | int j => obtain ⟨t', rfl⟩ := ry; exact eq_int (fin_bl I q dec_int)
    | str j => obtain ⟨t', rfl⟩ := ry; exact PySem.EqMixed.eq_int_str (fin_bl I q (by simp))
    | _ => exact absurd (show false = true from hs) Bool.false_ne_true
  | str i =>
    obtain ⟨t, rfl⟩ := rx
    cases y with
    | non => cases ry; exact PySem.EqNone.eq_str_none (fin_bl I q (by simp))
    | bl j => cases ry; exact PySem.EqMixed.eq_str_bool (fin_bl I q (by simp))
    | int j => obtain ⟨t', rfl⟩ := ry; exact PySem.EqMixed.eq_str_int (fin_bl I q (by simp))
    | str j => obtain ⟨t', rfl⟩ := ry; exact eq_str (fin_bl I q dec_str)
    | _ => exact absurd (show false = true from hs) Bool.false_ne_true
  | byt i =>
    obtain ⟨t, rfl⟩ := rx
    cases y with
    | byt j => obtain ⟨t', rfl⟩ := ry; exact PySem.W.eq_bytes (fin_bl I q dec_byt)
    | _ => exact absurd (show false = true from hs) Bool.false_ne_true
  | _ => cases y <;> exact absurd (show false = true from hs) Bool.false_ne_true
theorem op_ne : OpR X (compareOp .NotEq) rNe := by
  intro pins s σ H x y v u Q I rx ry h
  obtain ⟨hs, q⟩ := h
  cases x with
  | non =>
    cases rx
    cases y with
    | non => cases ry; exact PySem.EqNone.ne_none_none (fin_bl I q (by simp))
    | bl j => cases ry; exact PySem.EqNone.ne_none_bool (fin_bl I q (by simp))
    | int j => obtain ⟨t', rfl⟩ := ry; exact PySem.EqNone.ne_none_int (fin_bl I q (by simp))
    | str j => obtain ⟨t', rfl⟩ := ry; exact PySem.EqNone.ne_none_str (fin_bl I q (by simp))
    | _ => exact absurd (show false = true from hs) Bool.false_ne_true
  | bl i =>
    cases rx
    cases y with
    | non => cases ry; exact PySem.EqNone.ne_bool_none (fin_bl I q (by simp))
    | bl j => cases ry; exact ne_bool (fin_bl I q (congrArg not dec_bl))
    | str j => obtain ⟨t', rfl⟩ := ry; exact PySem.EqMixed.ne_bool_str (fin_bl I q (by simp))
    | _ => exact absurd (show false = true from hs) Bool.false_ne_true
  | int i =>
    obtain ⟨t, rfl⟩ := rx
    cases y with
    | non => cases ry; exact PySem.EqNone.ne_int_none (fin_bl I q (by simp))
    | int j => obtain ⟨t', rfl⟩ := ry; exact ne_int (fin_bl I q (congrArg not dec_int))
    | str j => obtain ⟨t', rfl⟩ := ry; exact PySem.EqMixed.ne_int_str (fin_bl I q (by simp))
    | _ => exact absurd (show false = true from hs) Bool.false_ne_true
  | str i =>
    obtain ⟨t, rfl⟩ := rx
    cases y with
    | non => cases ry; exact PySem.EqNone.ne_str_none (fin_bl I q (by simp))
    | bl j => cases ry; exact PySem.EqMixed.ne_str_bool (fin_bl I q (by simp))
    | int j => obtain ⟨t', rfl⟩ := ry; exact PySem.EqMixed.ne_str_int (fin_bl I q (by simp))
    | str j => obtain ⟨t', rfl⟩ := ry; exact ne_str (fin_bl I q (congrArg not dec_str))
    | _ => exact absurd (show false = true from hs) Bool.false_ne_true
  | byt i =>
    obtain ⟨t, rfl⟩ := rx
    cases y with
    | byt j => obtain ⟨t', rfl⟩ := ry; exact PySem.W.ne_bytes (fin_bl I q (congrArg not dec_byt))
    | _ => exact absurd (show false = true from hs) Bool.false_ne_true
  | _ => cases y <;> exact absurd (show false = true from hs) Bool.false_ne_true

theorem op_lt : OpR X (compareOp .Lt) (rI0 fun i j => .bl (decide (i < j))) := opB0 fun _ _ _ _ _ _ _ q => lt_int q
theorem op_le : OpR X (compareOp .LtE) (rI0 fun i j => .bl (decide (i ≤ j))) := opB0 fun _ _ _ _ _ _ _ q => le_int q
theorem op_gt : OpR X (compareOp .Gt) (rI0 fun i j => .bl (decide (j < i))) := opB0 fun _ _ _ _ _ _ _ q => gt_int q
theorem op_ge : OpR X (compareOp .GtE) (rI0 fun i j => .bl (decide (j ≤ i))) := opB0 fun _ _ _ _ _ _ _ q => ge_int q

theorem op_isN : OpR X (compareOp .Is) (fun x y H Q => y = .non ∧ Q (.bl (decide (x = .non))) H) := by
  intro pins s σ H x y v u Q I rx ry h
  obtain ⟨rfl, q⟩ := h
  cases ry
  refine is_none_gen (fin_bl I q ?_)
  cases x <;> first
    | (cases rx; rfl)
    | (obtain ⟨t, rfl⟩ := rx; rfl)
theorem op_notN : OpR X (compareOp .IsNot) (fun x y H Q => y = .non ∧ Q (.bl (!decide (x = .non))) H) := by
  intro pins s σ H x y v u Q I rx ry h
  obtain ⟨rfl, q⟩ := h
  cases ry
  refine isnot_none_gen (fin_bl I q ?_)
  cases x <;> first
    | (cases rx; rfl)
    | (obtain ⟨t, rfl⟩ := rx; rfl)

theorem op_notin_str : OpR X (compareOp .NotIn) (fun x y H Q => ∃ i j, x = .str i ∧ y = .str j ∧ Q (.bl (!(!(Builtin.Str.occurrences j i 0 j.length 1).isEmpty))) H) := by
  intro pins s σ H x y v u Q I rx ry h
  obtain ⟨i, j, rfl, rfl, q⟩ := h
  obtain ⟨t, rfl⟩ := rx
  obtain ⟨t', rfl⟩ := ry
  exact notIn_str (fin_bl I q rfl)

theorem OpR.or {f : Value → Value → Sem Value} {r r' : R2} (h : OpR X f r) (h' : OpR X f r') : OpR X f (fun x y H Q => r x y H Q ∨ r' x y H Q) := by
  intro pins s σ H x y v u Q I rx ry q
  rcases q with q | q
  · exact h pins s σ H x y v u Q I rx ry q
  · exact h' pins s σ H x y v u Q I rx ry q

theorem nomark (b : Expr) {op : CmpOp} (h : op ≠ .In := by decide) (h2 : op ≠ .NotIn := by decide) : behindInMarks op b = false := by
  have e1 : (op == CmpOp.In) = false := by cases op <;> first | rfl | exact absurd rfl h
  have e2 : (op == CmpOp.NotIn) = false := by cases op <;> first | rfl | exact absurd rfl h2
  cases b <;> simp [behindInMarks, e1, e2]
theorem pe_cmpR {op : CmpOp} {r : R2} (ho : OpR X (compareOp op) r) (ha : PE X a ta) (hb : PE X b tb) (hm : behindInMarks op b = false) : PE X (.Compare a [op] [b] pos) (tOp r ta tb) := by
  intro pins s σ H Q I h
  exact wpAny_Compare1 (binT ha hb I h fun v u s2 x y H2 I2 rx ry q => ho pins s2 σ H2 x y v u Q I2 rx ry q) hm
def tTest (t : TE) : TT := fun σ H Q => t σ H fun x H' => ∃ k, x = .bl k ∧ Q k H'
theorem pt_cmpR {op : CmpOp} {r : R2} (ho : OpR X (compareOp op) r) (ha : PE X a ta) (hb : PE X b tb) (hm : behindInMarks op b = false) : PT X (.Compare a [op] [b] pos) (tTest (tOp r ta tb)) := by
  intro pins s σ H Q I h
  refine wpAny_isTrue_Compare1 (thn (ha pins s σ H _ I h) fun v s1 ⟨x, H1, I1, r1, q1⟩ => thn (hb pins s1 σ H1 _ I1 q1) fun u s2 ⟨y, H2, I2, r2, q2⟩ =>
    thn (ho pins s2 σ H2 x y v u _ I2 r1 r2 q2) fun c s3 ⟨z, H3, I3, r3, k, e, q3⟩ => ?_) hm
  subst e
  cases r3
  exact wpAny_truthy_bool ⟨H3, I3, q3⟩
def tChain (r r' : R2) (ta tb tc : TE) : TE := fun σ H Q => ta σ H fun x H1 => tb σ H1 fun y H2 => r x y H2 fun z H3 => ∃ k, z = .bl k ∧
  (if k = true then tc σ H3 fun w' H4 => r' y w' H4 Q else Q (.bl false) H3)
theorem pe_chain {op op' : CmpOp} {r r' : R2} (ho : OpR X (compareOp op) r) (ho' : OpR X (compareOp op') r') (ha : PE X a ta) (hb : PE X b tb) (hc : PE X c tc)
    (hm : lastMarks [op, op'] [b, c] = false := by with_unfolding_all rfl) : PE X (.Compare a [op, op'] [b, c] pos) (tChain r r' ta tb tc) := by
  intro pins s σ H Q I h
  refine Compare_chain (thn (ha pins s σ H _ I h) fun v s1 ⟨x, H1, I1, r1, q1⟩ => chain_link (thn (hb pins s1 σ H1 _ I1 q1) fun u s2 ⟨y, H2, I2, r2, q2⟩ =>
    thn (ho pins s2 σ H2 x y v u _ I2 r1 r2 q2) fun d s3 ⟨z, H3, I3, r3, k, e, q3⟩ => ?_)) hm
  subst e
  cases r3
  refine wpAny_truthy_bool ?_
  cases k with
  | false => exact ite_ff ⟨.bl false, H3, I3, rfl, q3⟩
  | true => exact ite_tt (chain_last (thn (hc pins s3 σ H3 _ I3 q3) fun w' s4 ⟨z', H4, I4, r4, q4⟩ => ho' pins s4 σ H4 y z' u w' Q I4 r2 r4 q4))
theorem pt_chain {op op' : CmpOp} {r r' : R2} (ho : OpR X (compareOp op) r) (ho' : OpR X (compareOp op') r') (ha : PE X a ta) (hb : PE X b tb) (hc : PE X c tc)
    (hm : lastMarks [op, op'] [b, c] = false := by with_unfolding_all rfl) : PT X (.Compare a [op, op'] [b, c] pos) (tTest (tChain r r' ta tb tc)) := by
  intro pins s σ H Q I h
  refine isTrue_chain (thn (ha pins s σ H _ I h) fun v s1 ⟨x, H1, I1, r1, q1⟩ => test_link (thn (hb pins s1 σ H1 _ I1 q1) fun u s2 ⟨y, H2, I2, r2, q2⟩ =>
    thn (ho pins s2 σ H2 x y v u _ I2 r1 r2 q2) fun d s3 ⟨z, H3, I3, r3, k, e, q3⟩ => ?_)) hm
  subst e
  cases r3
  refine wpAny_truthy_bool ?_
  cases k with
  | false =>
    obtain ⟨k', e', q'⟩ := q3
    cases e'
    exact ite_ff ⟨H3, I3, q'⟩
  | true =>
    refine ite_tt (test_last (thn (hc pins s3 σ H3 _ I3 q3) fun w' s4 ⟨z', H4, I4, r4, q4⟩ => thn (ho' pins s4 σ H4 y z' u w' _ I4 r2 r4 q4) fun d' s5 ⟨z2, H5, I5, r5, k2, e2, q5⟩ => ?_))
    subst e2
    cases r5
    exact wpAny_truthy_bool ⟨H5, I5, q5⟩

def TruV (K : PySem.W.Frag) (x : V) (H : Hp) (k : Bool) : Prop :=
  match x with
  | .non => k = false
  | .bl b => k = b
  | .int i => k = (i != 0)
  | .str y => y.length ≤ sizeLine ∧ k = ((y.length : Int) != 0)
  | .byt y => y.size ≤ sizeLine ∧ k = ((y.size : Int) != 0)
  | .ref p => (∃ xs, SqL K H p xs ∧ k = !xs.isEmpty) ∨ (∃ xs, SqT K H p xs ∧ k = !xs.isEmpty) ∨ ∃ kvs, H p = some (.dK kvs) ∧ k = !kvs.isEmpty
  | _ => False
theorem isEmpty_kv {κ : Type} {kvs : List (κ × V)} {vs : List (κ × Value)} (r : KV kvs vs) : (!vs.isEmpty) = !kvs.isEmpty := by
  cases r <;> rfl
theorem isEmpty_of {xs : List V} {its : List Value} (r : Vals xs its) : (!its.toArray.isEmpty) = !xs.isEmpty := by
  cases r <;> simp
theorem line63 : (sizeLine : Nat) < 2 ^ 63 := by rw [sizeLine_eq]; decide
theorem tru_ok : TruR X (fun x H Q => ∃ k, TruV X.K x H k ∧ Q k H) := by
  intro pins s σ H x v Q I rx h
  obtain ⟨k, e, q⟩ := h
  have hl := line63
  have hs : sizeLine = 16777216 := sizeLine_eq
  cases x with
  | non =>
    cases rx
    have e' : k = false := e
    subst e'
    exact truthy_none ⟨H, I, q⟩
  | bl b =>
    cases rx
    have e' : k = b := e
    subst e'
    exact wpAny_truthy_bool ⟨H, I, q⟩
  | int i =>
    obtain ⟨t, rfl⟩ := rx
    have e' : k = (i != 0) := e
    subst e'
    exact PySem.P.truthy_int ⟨H, I, q⟩
  | str y =>
    obtain ⟨t, rfl⟩ := rx
    obtain ⟨hy, e'⟩ : y.length ≤ sizeLine ∧ k = ((y.length : Int) != 0) := e
    subst e'
    exact PySem.P.truthy_str (by omega) ⟨H, I.tok _, q⟩
  | byt y =>
    obtain ⟨t, rfl⟩ := rx
    obtain ⟨hy, e'⟩ : y.size ≤ sizeLine ∧ k = ((y.size : Int) != 0) := e
    subst e'
    exact PySem.W.truthy_bytes (by omega) ⟨H, I.tok _, q⟩
  | ref p =>
    cases rx
    have e' : (∃ xs, SqL X.K H p xs ∧ k = !xs.isEmpty) ∨ (∃ xs, SqT X.K H p xs ∧ k = !xs.isEmpty) ∨ ∃ kvs, H p = some (.dK kvs) ∧ k = !kvs.isEmpty := e
    rcases e' with ⟨xs, hx, e'⟩ | ⟨xs, hx, e'⟩ | ⟨kvs, hx, e'⟩
    · subst e'
      obtain ⟨its, r, pl, hz⟩ := I.list hx
      have hlen := r.length
      exact wpAny_truthy_list pl.isList (by simp only [List.size_toArray]; omega) ⟨H, I.tok _, by rw [isEmpty_of r]; exact q⟩
    · subst e'
      obtain ⟨its, r, pl, hz⟩ := I.tuple hx
      have hlen := r.length
      exact truthy_tuple pl (by simp only [List.size_toArray]; omega) ⟨H, I.tok _, by rw [isEmpty_of r]; exact q⟩
    · subst e'
      obtain ⟨hz, hS, vs, r, m⟩ : kvs.length ≤ sizeLine ∧ (p == sysModules) = false ∧ ∃ vs, KV kvs vs ∧ s.heap.DictOf (mixKind X.prog X.w) p vs := I.hok p _ hx
      have hlen : kvs.length = vs.length := Paired.length r
      exact wpAny_truthy_dict hS m (by omega) ⟨H, I.tok _, by rw [isEmpty_kv r]; exact q⟩
  | _ => exact (show False from e).elim
theorem pt_truth (ha : PE X a ta) (he : ∀ whole, isTrue a X.env whole = (do let v ← whole; standAt a.pos; holding [v] (truthy v))) :
    PT X a (fun σ H Q => ta σ H fun x H' => ∃ k, TruV X.K x H' k ∧ Q k H') := by
  intro pins s σ H Q I h
  exact isTrue_plain (thn (ha pins s σ H _ I h) fun v s1 ⟨x, H1, I1, r1, q1⟩ => tru_ok pins s1 σ H1 x v Q I1 r1 q1) (he _)

theorem op_add_str : OpR X (binaryOp .Add) (fun x y H Q => ∃ i j, x = .str i ∧ y = .str j ∧ i.length + j.length ≤ sizeLine ∧ Q (.str (i ++ j)) H) := by
  intro pins s σ H x y v u Q I rx ry h
  obtain ⟨i, j, rfl, rfl, hz, q⟩ := h
  obtain ⟨t, rfl⟩ := rx
  obtain ⟨t', rfl⟩ := ry
  exact add_str (fun t' tk => ⟨.str (i ++ j), H, I.tok _, ⟨_, rfl⟩, q⟩) hz


theorem vals1 {x : V} {us : List Value} (r : Vals [x] us) : ∃ u, us = [u] ∧ RelV x u := by
  cases r with
  | cons r1 r2 => cases r2; exact ⟨_, rfl, r1⟩
theorem vals2 {x y : V} {us : List Value} (r : Vals [x, y] us) : ∃ u w', us = [u, w'] ∧ RelV x u ∧ RelV y w' := by
  cases r with
  | cons r1 r2 =>
    cases r2 with
    | cons r3 r4 => cases r4; exact ⟨_, _, rfl, r1, r3⟩
theorem call_ord : CallR X (.builtin "ord") (fun xs H Q => ∃ x, xs = [.str x] ∧ x.length = 1 ∧ Q (.int (x.cps.getD 0 0 : Nat)) H) := by
  intro pins s σ H xs us Q I r h
  obtain ⟨x, rfl, hz, q⟩ := h
  obtain ⟨u, rfl, t, rfl⟩ := vals1 r
  exact ord_of_one hz ⟨.int _, H, I.tok _, ⟨_, rfl⟩, q⟩
end
end L2

namespace L2
open PySem PySem.Spec PyProof.Rows

structure ObjM (h : Heap) (x dx C : Addr) (mA : Str → Option Value) : Prop where
  obj : h.get? x = some (PySem.W.instObj C dx)
  ns : h.Ns1 dx mA
  ne : dx ≠ x

theorem lookIn_ns {h : Heap} {dx : Addr} {mA : Str → Option Value} (n : h.Ns1 dx mA) : ∃ od, h.get? dx = some od ∧ ∀ name, PySem.W.lookIn name od = some (mA name) := by
  obtain ⟨o, es, ep, ho, hd, hk, _, hm⟩ := n
  refine ⟨o, ho, fun name => ?_⟩
  have e := hm name
  unfold nsFind findBy at e
  rw [← Array.find?_toList] at e
  unfold PySem.W.lookIn
  rw [hd]
  dsimp only
  split
  · rename_i y q
    rw [q] at e
    exact congrArg some e
  · rename_i q
    rw [q] at e
    have a : es.toList.any (·.refKey) = false := by
      rw [List.any_eq_false]
      intro y hy
      obtain ⟨z, t, hkey⟩ := hk y (Array.mem_toList_iff.mp hy)
      simp [DictEntry.refKey, hkey]
    have a' : ¬ es.toList.any (·.refKey) = true := by rw [a]; exact Bool.false_ne_true
    rw [if_neg a']
    exact congrArg some e

theorem ObjM.look {h : Heap} {x dx C : Addr} {mA : Str → Option Value} (I : ObjM h x dx C mA) : ∃ od, PySem.W.InstAt h x (PySem.W.instObj C dx) C (some od) ∧ ∀ name, PySem.W.lookIn name od = some (mA name) :=
  let ⟨od, ho, hl⟩ := lookIn_ns I.ns
  ⟨od, ⟨I.obj, rfl, rfl, ho⟩, hl⟩

section
variable {prog : Program} {w : World} {A : Around} {E : Value → Shared → Prop} {s : Shared} {K : PySem.W.Frag} {x dx C f : Addr} {mA : Str → Option Value} {name : Str} {v : Value}





end


theorem RelO.some_of {v : V} {o : Option Value} (r : RelO (some v) o) : ∃ u, o = some u ∧ RelV v u := by
  cases o with
  | none => exact (show False from r).elim
  | some u => exact ⟨u, rfl, r⟩
theorem RelO.none_of {o : Option Value} (r : RelO none o) : o = none := by
  cases o with
  | none => rfl
  | some u => exact (show False from r).elim

section
variable {P : Program} {w : World} {H H' : Hp} {h h' : Heap} {a C dx : Addr} {fs fs' : List (Str × V)}
theorem ins_get (hok : HOk P w H h) (e : H a = some (.ins C dx fs)) : ∃ mA, ObjM h a dx C mA ∧ (∀ f, RelO (fs.lookup f) (mA f)) ∧ PySem.Within mA (fs.map (·.1)) ∧ fs.length ≤ 1000 ∧ H dx = some (.own a) := by
  obtain ⟨d, z, ne, ob, mA, n, r, q⟩ := (show ObjOk P w H h a (.ins C dx fs) from hok a _ e)
  exact ⟨mA, ⟨ob, n, ne⟩, r, q, z, d⟩
end

structure Cls (K : PySem.W.Frag) (C : Addr) : Prop where
  pg : PySem.W.plainGet K C Str.empty = true
  hd : PySem.W.hasDictIn K C = true
  po : PySem.W.plainOver K C = true
  sa : PySem.W.findIn K (.ref C) "__setattr__" = some (some (.builtin "object.__setattr__"))
theorem Cls.get {K : PySem.W.Frag} {C : Addr} (c : Cls K C) (f : Str) : PySem.W.plainGet K C f = true := c.pg
structure Con (K : PySem.W.Frag) (C : Addr) (f : Str) (v : V) (u : Value) : Prop where
  at_ : PySem.W.findIn K (.ref C) f = some (some u)
  rel : RelV v u
  get : PySem.W.specialIn K u "__get__" = some none
  cp : PySem.W.copiedNames.contains f = false
structure Meth (K : PySem.W.Frag) (C : Addr) (m : Str) (f : Addr) : Prop where
  at_ : PySem.W.findIn K (.ref C) m = some (some (.ref f))
  fn : PySem.W.isFn K (.ref f) = true
  kp : PySem.W.keepIn K (.ref f) = true

section
variable {X : Cx} {pins : List (Addr × Obj)} {σ : St} {H : Hp} {s : Shared} {a C dx : Addr} {fs : List (Str × V)} {f : Str} {v : V} {A : Around} {E : Value → Shared → Prop}





theorem Inw.made (I : Inw X pins σ H s) : Inw X pins σ (upd (upd H s.heap.objs.size (.own (s.heap.objs.size + 1))) (s.heap.objs.size + 1) (.ins C s.heap.objs.size []))
    { s with heap := (s.heap.push PySem.W.emptyDict).push (PySem.W.instObj C s.heap.objs.size) } := by
  have e1 : (s.heap.push PySem.W.emptyDict).get? s.heap.objs.size = some PySem.W.emptyDict := Heap.get?_push_size s.heap rfl
  have e2 : ((s.heap.push PySem.W.emptyDict).push (PySem.W.instObj C s.heap.objs.size)).get? (s.heap.objs.size + 1) = some (PySem.W.instObj C s.heap.objs.size) := by
    have := Heap.get?_push_size (s.heap.push PySem.W.emptyDict) (o := PySem.W.instObj C s.heap.objs.size) rfl
    rwa [Heap.size_push] at this
  have e3 : (s.heap.push PySem.W.emptyDict).Ns s.heap.objs.size (fun _ => none) := ⟨PySem.W.emptyDict, #[], _, e1, rfl, (fun e he => absurd he (by simp)), fun _ => rfl⟩
  have I1 := I.laid (a := s.heap.objs.size) (o := .own (s.heap.objs.size + 1)) (h' := s.heap.push PySem.W.emptyDict) (t' := s.toks) (fun b u q => Heap.get?_push_of_some _ q) (Nat.le_refl _) ⟨_, e1⟩
  refine I1.laid (a := s.heap.objs.size + 1) (o := .ins C s.heap.objs.size []) (t' := s.toks) (fun b u q => Heap.get?_push_of_some _ q) (Nat.le_of_eq (Heap.size_push _ _)) ?_
  have ne : s.heap.objs.size ≠ s.heap.objs.size + 1 := Nat.ne_of_lt (Nat.lt_succ_self _)
  refine ⟨by rw [upd_ne ne, upd_same], Nat.zero_le _, ne, e2, fun _ => none, (Heap.Ns1.of_empty e3).at fun o q => Heap.get?_push_of_some _ q, fun _ => True.intro, fun y hy => absurd rfl hy⟩

end


section
variable {X : Cx} {o e value : Expr} {f : Str} {pos pos' tpos : Pos} {ta tv : TE}

end

section
variable {X : Cx} {pins : List (Addr × Obj)} {σ : St} {H : Hp} {s : Shared} {A : Around} {E : Value → Shared → Prop} {Q : Value → Shared → Prop} {c : Value} {b : Bool}
inductive TyOf (K : PySem.W.Frag) (H : Hp) : V → Value → Prop where
  | non : TyOf K H .non (.type "NoneType")
  | bl (x : Bool) : TyOf K H (.bl x) (.type "bool")
  | int (i : Int) : TyOf K H (.int i) (.type "int")
  | str (x : Str) : TyOf K H (.str x) (.type "str")
  | flt (x : UInt64) : TyOf K H (.flt x) (.type "float")
  | lst {a : Addr} {xs : List V} (e : H a = some (.lst xs)) : TyOf K H (.ref a) (.type "list")
  | frz {a : Addr} {o : Obj} {xs : List V} (e : H a = some (.frz o (.lst xs))) : TyOf K H (.ref a) (.type "list")
  | tup {a : Addr} {xs : List V} (e : H a = some (.tup xs)) : TyOf K H (.ref a) (.type "tuple")
  | dK {a : Addr} {kvs : List (Key × V)} (e : H a = some (.dK kvs)) : TyOf K H (.ref a) (.type "dict")
  | dT {a : Addr} {kvs : List (List Key × V)} (e : H a = some (.dT kvs)) : TyOf K H (.ref a) (.type "dict")
  | ins {a C dx : Addr} {fs : List (Str × V)} (e : H a = some (.ins C dx fs)) (cl : Cls K C) (ha : PySem.W.findIn K (.ref C) "__class__" = some (some (.builtin "object.__class__")))
      (hn : PySem.W.specialIn K (.builtin "object.__class__") "__get__" = some (some (.builtin "getset_descriptor.__get__"))) (htk : PySem.W.takesIn K (.builtin "object.__class__") = some true)
      (hm : PySem.W.mroIn K C (.type "object") = some true) : TyOf K H (.ref a) (.ref C)
theorem isinst_ok {x : V} {u t : Value} (I : Inv X pins σ H s) (rx : RelV x u) (ty : TyOf X.K H x t) (e : PySem.W.kitOne X.K t c = some b) (h : ∀ tk, Q (.bool b) { s with toks := tk }) :
    wpAny (model X.prog X.w) A (call (.builtin "isinstance") [u, c]) Q E s := by
  cases ty with
  | non => cases (show u = Value.none from rx); exact PySem.W.kia_one PySem.W.kitx_none I.kIn True.intro e (fun z => nomatch z) h
  | bl y => cases (show u = Value.bool y from rx); exact PySem.W.kia_one PySem.W.kitx_bool I.kIn True.intro e (fun z => nomatch z) h
  | int i => obtain ⟨t, q⟩ := (show ∃ t, u = Value.int i t from rx); cases q; exact PySem.W.kia_one PySem.W.kitx_int I.kIn True.intro e (fun z => nomatch z) h
  | str y => obtain ⟨t, q⟩ := (show ∃ t, u = Value.str y t from rx); cases q; exact PySem.W.kia_one PySem.W.kitx_str I.kIn True.intro e (fun z => nomatch z) h
  | flt y => obtain ⟨t, q⟩ := (show ∃ t, u = Value.float y t from rx); cases q; exact PySem.W.kia_one PySem.W.kitx_float I.kIn True.intro e (fun z => nomatch z) h
  | @lst a xs ea =>
    cases (show u = Value.ref a from rx)
    obtain ⟨_, _, n, _, h1⟩ := (show ObjOk X.prog X.w H s.heap a (.lst xs) from I.hok a _ ea)
    exact PySem.W.kia_one PySem.W.kitx_list I.kIn ⟨_, h1, rfl⟩ e (fun z => nomatch z) h
  | @frz a ob xs ea =>
    cases (show u = Value.ref a from rx)
    obtain ⟨_, _, _, n, _, h1⟩ := (show ObjOk X.prog X.w H s.heap a (.frz ob (.lst xs)) from I.hok a _ ea)
    exact PySem.W.kia_one PySem.W.kitx_list I.kIn ⟨_, h1, rfl⟩ e (fun z => nomatch z) h
  | @tup a xs ea =>
    cases (show u = Value.ref a from rx)
    obtain ⟨_, _, _, p⟩ := (show ObjOk X.prog X.w H s.heap a (.tup xs) from I.hok a _ ea)
    obtain ⟨o, h1, h2, _⟩ := p
    exact PySem.W.kia_one PySem.W.kitx_tuple I.kIn ⟨o, h1, h2⟩ e (fun z => nomatch z) h
  | @dK a kvs ea =>
    cases (show u = Value.ref a from rx)
    obtain ⟨_, _, vs, _, p⟩ := (show ObjOk X.prog X.w H s.heap a (.dK kvs) from I.hok a _ ea)
    obtain ⟨o, es, ep, h1, h2, _⟩ := p
    exact PySem.W.kia_one PySem.W.kitx_dict I.kIn ⟨o, h1, h2.1⟩ e (fun z => nomatch z) h
  | @dT a kvs ea =>
    cases (show u = Value.ref a from rx)
    obtain ⟨_, _, xs, _, o, es, ep, h1, h2, _⟩ := (show ObjOk X.prog X.w H s.heap a (.dT kvs) from I.hok a _ ea)
    exact PySem.W.kia_one PySem.W.kitx_dict I.kIn ⟨o, h1, h2.1⟩ e (fun z => nomatch z) h
  | @ins a C dx fs ea cl ha hn htk hm =>
    cases (show u = Value.ref a from rx)
    obtain ⟨mA, O, _⟩ := ins_get I.hok ea
    obtain ⟨od, J, _⟩ := O.look
    exact PySem.W.kia_one (PySem.W.kitx_own (cl.get _) cl.hd ha hn htk hm) I.kIn J e (fun z => nomatch z) h
end
end L2

namespace L2
open PySem PySem.Spec PyProof.Rows

structure Room (k : Nat) (A : Around) : Prop where
  hd : A.handled = none
  dp : A.depth + 3 * k + 5 < recursionLimit
  un : A.units + 16 * k + 200 < cLine
theorem Room.mono {j k : Nat} {A : Around} (r : Room k A) (h : j ≤ k) : Room j A := ⟨r.hd, by have := r.dp; omega, by have := r.un; omega⟩
theorem Room.deeper {k : Nat} {A : Around} (r : Room (k + 1) A) (env : Env) : Room k (A.deeper env) :=
  ⟨r.hd, by have := r.dp; show A.depth + 1 + 3 * k + 5 < _; omega, by have := r.un; show A.units + 3 + 16 * k + 200 < _; omega⟩
theorem Room.in1 {k : Nat} {A : Around} (r : Room (k + 1) A) : Room k A.in1 :=
  ⟨r.hd, by have := r.dp; show A.depth + 3 * k + 5 < _; omega, by have := r.un; show A.units + 1 + 16 * k + 200 < _; omega⟩
theorem make_depth {A : Around} {C : Addr} {us : List Value} {kw : List (Str × Value)} : (A.under (.builtin "type.__call__" ⟨.ref C :: us, kw⟩)).depth = A.depth + 1 := by
  first | rfl | simp [Around.under, Code.weight, Code.isCreation, Code.isGuard, Code.isCaller, Code.frames, Code.isFrame, guardIds]
theorem make_units {A : Around} {C : Addr} {us : List Value} {kw : List (Str × Value)} : (A.under (.builtin "type.__call__" ⟨.ref C :: us, kw⟩)).units = A.units + 1 := by
  first | rfl | simp [Around.under, Code.cUnits, Code.frames, Code.isFrame]
theorem Room.make {k : Nat} {A : Around} (r : Room (k + 1) A) (C : Addr) (us : List Value) (kw : List (Str × Value)) : Room k (A.under (.builtin "type.__call__" ⟨.ref C :: us, kw⟩)) :=
  ⟨r.hd, by have := r.dp; rw [make_depth]; omega, by have := r.un; rw [make_units]; omega⟩
theorem Room.depth {k : Nat} {A : Around} (r : Room k A) : A.depth < recursionLimit := by have := r.dp; omega
theorem Room.units {k : Nat} {A : Around} (r : Room k A) : A.units + 64 < cLine := by have := r.un; omega

def tNil : TA := fun _ H Q => Q [] H
def tCons (ta : TE) (tr : TA) : TA := fun σ H Q => ta σ H fun x H1 => tr σ H1 fun xs H2 => Q (x :: xs) H2
section
variable {X : Cx} {e : Expr} {es : List Expr} {te : TE} {t : TA} {pos : Pos}
theorem pa_nil : PA X [] tNil := fun _ _ _ _ H Q I h => Calls.spliced_nil ⟨[], H, I, .nil, h⟩
theorem pa_cons (ha : PE X e te) (hr : PA X es t) (hs : starEach (e :: es) X.env = (false, eval e X.env) :: starEach es X.env := by rfl) : PA X (e :: es) (tCons te t) := by
  intro pos pins s σ H Q I h
  rw [hs]
  show wpAny _ _ (spliced ((false, eval e X.env) :: backTo pos (starEach es X.env))) _ _ s
  refine Calls.spliced_cons (thn (ha pins s σ H _ I h) fun u s1 ⟨x, H1, I1, r1, q1⟩ => ?_)
  exact thn (hr pos pins s1 σ H1 _ I1 q1) fun us s2 ⟨xs, H2, I2, r2, q2⟩ => ⟨x :: xs, H2, I2, .cons r1 r2, q2⟩

def tTup (t : TA) : TE := fun σ H Q => t σ H fun xs H1 => xs.length ≤ sizeLine ∧ ∀ p, H1 p = none → Q (.ref p) (upd H1 p (.tup xs))
def tLst (t : TA) : TE := fun σ H Q => t σ H fun xs H1 => xs.length ≤ sizeLine ∧ ∀ p, H1 p = none → Q (.ref p) (upd H1 p (.lst xs))
theorem pe_tup {x1} (h : PA X es t) : PE X (.Tuple es x1 pos) (tTup t) := by
  intro pins s σ H Q I hq
  refine wpAny_Tuple_spliced (thn (h pos pins s σ H _ I hq) fun us s1 ⟨xs, H1, I1, r, z, q⟩ => ⟨by rw [← r.length]; exact z, ?_⟩)
  have hf : H1 s1.heap.objs.size = none := I1.hok.fresh (Nat.le_refl _)
  refine ⟨.ref s1.heap.objs.size, upd H1 s1.heap.objs.size (.tup xs), I1.laid (t' := s1.toks) (fun b u e => Heap.get?_push_of_some _ e) (Nat.le_refl _) ?_, rfl, q _ hf⟩
  exact ⟨z, us, r, ⟨_, Heap.get?_push_size _ rfl, rfl, _, rfl⟩⟩
theorem pe_lst (h : PA X es t) : PE X (.List es pos) (tLst t) := by
  intro pins s σ H Q I hq
  refine wpAny_List_spliced (thn (h pos pins s σ H _ I hq) fun us s1 ⟨xs, H1, I1, r, z, q⟩ => ⟨by rw [← r.length]; exact z, ?_⟩)
  have hf : H1 s1.heap.objs.size = none := I1.hok.fresh (Nat.le_refl _)
  refine ⟨.ref s1.heap.objs.size, upd H1 s1.heap.objs.size (.lst xs), I1.laid (t' := s1.toks) (fun b u e => Heap.get?_push_of_some _ e) (Nat.le_refl _) ?_, rfl, q _ hf⟩
  exact ⟨z, us, 0, r, Heap.get?_push_size _ rfl⟩
end

abbrev Sp := List V → Hp → VK → XK → Prop
abbrev CXT := List Env → Hp → Shared → XK → Value → Shared → Prop

structure Env0w (P : Program) (w : World) (K : PySem.W.Frag) (mg : Str → Option Value) (base : Heap) (A : Around) (outer : List Env) (s : Shared) (H : Hp) : Prop where
  frames : A.frames = some outer
  mod : Mod K mg base
  bs : ∀ b o, base.get? b = some o → s.heap.get? b = some o ∧ H b = none
  bsz : base.objs.size ≤ s.heap.objs.size
  funs : s.heap.FunFrames base outer
  frf : ∀ b ∈ frs outer, H b = none
  hok : HOk P w H s.heap
  bare : AllBare s.gens
structure Env0 (P : Program) (w : World) (K : PySem.W.Frag) (mg : Str → Option Value) (base : Heap) (A : Around) (outer : List Env) (s : Shared) (H : Hp) : Prop extends Env0w P w K mg base A outer s H where
  pos : 0 < s.toks
def CE (outer : List Env) (P : Program) (w : World) (H : Hp) (s : Shared) (Q : VK) (u : Value) (s' : Shared) : Prop :=
  ∃ v H', s'.os = s.os ∧ AllBare s'.gens ∧ Un (frs outer) [] H H' s.heap s'.heap ∧ HOk P w H' s'.heap ∧ RelV v u ∧ Q v H'
def CR (CX : CXT) (outer : List Env) (P : Program) (w : World) (H : Hp) (s : Shared) (Q : VK) (E : XK) (r : Result) (s' : Shared) : Prop :=
  match r with
  | .ok (.ret u) => CE outer P w H s Q u s'
  | .ok _ => False
  | .error e => CX outer H s E e s'
structure FnOk (P : Program) (w : World) (K : PySem.W.Frag) (mg : Str → Option Value) (base : Heap) (CX : CXT) (k : Nat) (f : Addr) (fd : FuncData) (ps : List Str) (sp : Sp) : Prop where
  len : ∀ vs H Q E, sp vs H Q E → vs.length = ps.length
  run : ∀ (A : Around) (outer : List Env) (s : Shared) (H : Hp) (args : Args) (us : List Value) (vs : List V) (Q : VK) (E : XK), Room k A → Env0 P w K mg base A outer s H → BindsTo s fd args (ps.zip us) → Vals vs us → sp vs H Q E →
    codeAny (model P w) A (.call (.ref f) args) (CR CX outer P w H s Q E) s
structure FnOkL (P : Program) (w : World) (K : PySem.W.Frag) (mg : Str → Option Value) (base : Heap) (CX : CXT) (k : Nat) (f : Addr) (fd : FuncData) (ps : List Str) (sp : Sp) : Prop where
  len : ∀ vs H Q E, sp vs H Q E → vs.length = ps.length
  run : ∀ (A : Around) (outer : List Env) (s : Shared) (H : Hp) (args : Args) (us : List Value) (vs : List V) (Q : VK) (E : XK), Room k A → Env0w P w K mg base A outer s H → BindsTo s fd args (ps.zip us) → Vals vs us → sp vs H Q E →
    codeAny (model P w) A (.call (.ref f) args) (CR CX outer P w H s Q E) s
theorem FnOk.mono {P : Program} {w : World} {K : PySem.W.Frag} {mg : Str → Option Value} {base : Heap} {CX : CXT} {j k : Nat} {f : Addr} {fd : FuncData} {ps : List Str} {sp : Sp} (F : FnOk P w K mg base CX j f fd ps sp) (h : j ≤ k) :
    FnOk P w K mg base CX k f fd ps sp := ⟨F.len, fun A outer s H args us vs Q E hr => F.run A outer s H args us vs Q E (hr.mono h)⟩
theorem FnOk.imp {P : Program} {w : World} {K : PySem.W.Frag} {mg : Str → Option Value} {base : Heap} {CX : CXT} {k : Nat} {f : Addr} {fd : FuncData} {ps : List Str} {sp sp' : Sp} (F : FnOk P w K mg base CX k f fd ps sp)
    (h : ∀ vs H Q E, sp' vs H Q E → sp vs H Q E) : FnOk P w K mg base CX k f fd ps sp' :=
  ⟨fun vs H Q E q => F.len vs H Q E (h _ _ _ _ q), fun A outer s H args us vs Q E hr he hb hv hs => F.run A outer s H args us vs Q E hr he hb hv (h _ _ _ _ hs)⟩

theorem Env0.make {P : Program} {w : World} {K : PySem.W.Frag} {mg : Str → Option Value} {base : Heap} {A : Around} {outer : List Env} {s : Shared} {H : Hp} (e : Env0 P w K mg base A outer s H) (C : Addr) (us : List Value) (kw : List (Str × Value)) :
    Env0 P w K mg base (A.under (.builtin "type.__call__" ⟨.ref C :: us, kw⟩)) outer s H := ⟨⟨by first | exact e.frames | (simpa [Around.under, Code.envs, Code.isFrame, pushEnvs] using e.frames), e.mod, e.bs, e.bsz, e.funs, e.frf, e.hok, e.bare⟩, e.pos⟩
theorem Env0.in1 {P : Program} {w : World} {K : PySem.W.Frag} {mg : Str → Option Value} {base : Heap} {A : Around} {outer : List Env} {s : Shared} {H : Hp} (e : Env0 P w K mg base A outer s H) :
    Env0 P w K mg base A.in1 outer s H := ⟨⟨e.frames, e.mod, e.bs, e.bsz, e.funs, e.frf, e.hok, e.bare⟩, e.pos⟩

section
variable {X : Cx} {pins : List (Addr × Obj)} {σ : St} {H : Hp} {s s' : Shared}
theorem Inv.env0 (I : Inv X pins σ H s) : Env0 X.prog X.w X.K X.mg X.base X.A X.stack s H :=
  ⟨⟨I.ok.frames, I.ok.mod, I.bs, Nat.le_trans I.ok.bsz I.sz, I.stack, I.stkFree, I.hok, I.bare⟩, I.pos⟩
theorem Inw.after {Q : VK} {u : Value} (I : Inw X pins σ H s) (h : CE X.stack X.prog X.w H s Q u s') : EP X pins σ Q u s' := by
  obtain ⟨v, H', os, bare, un, hok, r, q⟩ := h
  obtain ⟨hh, g, d, t, os'⟩ := s'
  obtain rfl : os' = s.os := os
  exact ⟨v, H', I.call (h' := hh) (g' := g) (d' := d) (t' := t) (ch := []) un hok bare (fun b z => absurd z (by simp)), r, q⟩
end

def tCall (sp : Sp) (dvs : List V) (E : XK) (t : TA) : TE := fun σ H Q => t σ H fun vs H1 => sp (vs ++ dvs) H1 Q E

def Binds (K : PySem.W.Frag) (fd : FuncData) (ps : List Str) (ds : List Value) : Prop :=
  ∀ (s : Shared) (us : List Value), K.In s.heap → (us ++ ds).length = ps.length → BindsTo s fd ⟨us, []⟩ (ps.zip (us ++ ds))
theorem Binds.all {K : PySem.W.Frag} {fd : FuncData} {ps : List Str} (h : ∀ us : List Value, us.length = ps.length → bindArgs fd ⟨us, []⟩ = pure (ps.zip us)) : Binds K fd ps [] := fun s us _ hl => by
  rw [List.append_nil] at hl ⊢
  exact .of_eq (h us hl)

def Passes (CX : CXT) (X : Cx) (E : XK) : Prop := ∀ (pins : List (Addr × Obj)) (σ : St) (H : Hp) (s : Shared) (e : Value) (s' : Shared), Inv X pins σ H s → CX X.stack H s E e s' → X.xe e s'

section
variable {X : Cx} {CX : CXT} {k : Nat} {f C : Addr} {fd : FuncData} {ps : List Str} {sp : Sp} {dvs : List V} {ds : List Value} {E : XK} {x m : Str} {p pos apos : Pos} {e o : Expr} {es : List Expr} {ta : TE} {t : TA}

theorem run_fn {pins : List (Addr × Obj)} {σ : St} {H : Hp} {s : Shared} {Q : VK} {us : List Value} {vs : List V} (F : FnOk X.prog X.w X.K X.mg X.base CX k f fd ps sp) (hr : Room k X.A) (hb : Binds X.K fd ps ds) (hd : Vals dvs ds) (hx : Passes CX X E)
    (I : Inv X pins σ H s) (r : Vals vs us) (h : sp (vs ++ dvs) H Q E) : wpAny (model X.prog X.w) X.A (call (.ref f) us) (EP X pins σ Q) X.xe s := by
  have r2 : Vals (vs ++ dvs) (us ++ ds) := r.append hd
  have hl : (us ++ ds).length = ps.length := by rw [← r2.length]; exact F.len _ _ _ _ h
  refine wpAny_call (codeAny_mono (F.run X.A X.stack s H ⟨us, []⟩ (us ++ ds) (vs ++ dvs) Q E hr I.env0 (hb s us I.kIn hl) r2 h) fun r s' hq => ?_)
  cases r with
  | error e => exact hx pins σ H s e s' I hq
  | ok fl =>
    cases fl with
    | ret u => exact I.after hq
    | next => exact False.elim hq
    | brk => exact False.elim hq
    | cont => exact False.elim hq

theorem pe_call (F : FnOk X.prog X.w X.K X.mg X.base CX k f fd ps sp) (hr : Room k X.A) (hg : Gl X x) (hm : X.mg x = some (.ref f)) (hk : PySem.W.keepIn X.K (.ref f) = true) (hb : Binds X.K fd ps ds) (hd : Vals dvs ds) (hx : Passes CX X E)
    (ha : PA X (e :: es) t) (hdb : (x == ("__debug__" : Str)) = false := by decide) (he : starEach (e :: es) X.env = (false, eval e X.env) :: starEach es X.env := by rfl) (hpl : (backTo pos (starEach es X.env)).any (·.1) = false := by rfl) :
    PE X (.Call (.Name x p) (e :: es) [] pos) (tCall sp dvs E t) := by
  intro pins s σ H Q I h
  refine wpAny_Call_Name_kw (ld_glob I hg hm ?_ hdb)
  refine PySem.W.callWith_K (h₀ := X.base) I.ok.mod.kin hk (thn (ha pos pins s σ H _ I h) fun us s1 ⟨vs, H1, I1, r, q⟩ => ⟨I1.kIn, ?_⟩) he hpl
  exact run_fn F hr hb hd hx I1 r q


structure Mk (K : PySem.W.Frag) (C f : Addr) : Prop where
  makes : PySem.W.makesIn K C = true
  init : PySem.W.findIn K (.ref C) "__init__" = some (some (.ref f))
  fn : PySem.W.isFn K (.ref f) = true
  kp : PySem.W.keepIn K (.ref C) = true

end

section
variable {X : Cx} {CX : CXT} {k : Nat} {f C : Addr} {fd : FuncData} {ps ks : List Str} {sp : Sp} {E : XK} {x m : Str} {p pos apos kpos : Pos} {e o : Expr} {es : List Expr} {kws : List Keyword} {te ta : TE} {t tk : TA} {nm : Option Str}

structure KBinds (K : PySem.W.Frag) (fd : FuncData) (ps ks : List Str) (g : List Value → List Value → List Value) (gV : List V → List V → List V) : Prop where
  to : ∀ (s : Shared) (us ws : List Value), K.In s.heap → (g us ws).length = ps.length → BindsTo s fd ⟨us, ks.zip ws⟩ (ps.zip (g us ws))
  rel : ∀ {vs : List V} {us : List Value} {zs : List V} {ws : List Value}, Vals vs us → Vals zs ws → Vals (gV vs zs) (g us ws)
variable {g : List Value → List Value → List Value} {gV : List V → List V → List V}
end

structure FnScope (N P : List Str) (sc : Scope) : Prop where
  kind : sc.kind = .function
  co : sc.isCoroutine = false
  gen : sc.isGenerator = false
  nd : N.Nodup
  pre : N.take P.length = P
  par : ∀ x ∈ P, sc.names.lookup x = some .local ∨ sc.names.lookup x = some .cell
  nofree : ∀ y ∈ sc.names, y.2 ≠ .free

theorem bindL_out {kindOf : Str → Option NameKind} {x : Str} : ∀ {binds : List (Str × Value)} {m : Str → Option Value}, (∀ v, (x, v) ∉ binds) → bindL kindOf binds m x = m x
  | [], _, _ => rfl
  | (n, v) :: r, m, h => by
    unfold bindL
    rw [bindL_out fun w hw => h w (List.mem_cons_of_mem _ hw)]
    split
    · have : x ≠ n := by rintro rfl; exact h v List.mem_cons_self
      simp [this]
    · rfl
theorem bindC_out {kindOf : Str → Option NameKind} {x : Str} : ∀ {binds : List (Str × Value)} {m : Str → Option Value}, (∀ v, (x, v) ∉ binds) → bindC kindOf binds m x = m x
  | [], _, _ => rfl
  | (n, v) :: r, m, h => by
    unfold bindC
    rw [bindC_out fun w hw => h w (List.mem_cons_of_mem _ hw)]
    split
    · rfl
    · have : x ≠ n := by rintro rfl; exact h v List.mem_cons_self
      simp [this]
theorem bindL_get {kindOf : Str → Option NameKind} {x : Str} {v : Value} : ∀ {P : List Str} {vs : List Value} {i : Nat} {m : Str → Option Value}, P.Nodup → P[i]? = some x → vs[i]? = some v → kindOf x = some .local →
    bindL kindOf (P.zip vs) m x = some v
  | [], _, _, _, _, h, _, _ => by simp at h
  | _ :: _, [], _, _, _, _, h, _ => by simp at h
  | p :: P, w :: vs, 0, m, nd, h1, h2, hk => by
    simp at h1 h2; subst h1; subst h2
    show bindL kindOf ((p, w) :: P.zip vs) m p = _
    unfold bindL
    rw [bindL_out fun v hv => (List.nodup_cons.mp nd).1 (List.of_mem_zip hv).1, if_pos hk]
    simp
  | p :: P, w :: vs, i + 1, m, nd, h1, h2, hk => by
    show bindL kindOf ((p, w) :: P.zip vs) m x = _
    unfold bindL
    exact bindL_get (i := i) (List.nodup_cons.mp nd).2 (by simpa using h1) (by simpa using h2) hk
theorem bindC_get {kindOf : Str → Option NameKind} {x : Str} {v : Value} : ∀ {P : List Str} {vs : List Value} {i : Nat} {m : Str → Option Value}, P.Nodup → P[i]? = some x → vs[i]? = some v → kindOf x ≠ some .local →
    bindC kindOf (P.zip vs) m x = some v
  | [], _, _, _, _, h, _, _ => by simp at h
  | _ :: _, [], _, _, _, _, h, _ => by simp at h
  | p :: P, w :: vs, 0, m, nd, h1, h2, hk => by
    simp at h1 h2; subst h1; subst h2
    show bindC kindOf ((p, w) :: P.zip vs) m p = _
    unfold bindC
    rw [bindC_out fun v hv => (List.nodup_cons.mp nd).1 (List.of_mem_zip hv).1, if_neg hk]
    simp
  | p :: P, w :: vs, i + 1, m, nd, h1, h2, hk => by
    show bindC kindOf ((p, w) :: P.zip vs) m x = _
    unfold bindC
    exact bindC_get (i := i) (List.nodup_cons.mp nd).2 (by simpa using h1) (by simpa using h2) hk

def start (N : List Str) (vs : List V) : St := vs.map some ++ List.replicate (N.length - vs.length) none

def cxOf (CX : CXT) (P : Program) (w : World) (K : PySem.W.Frag) (mg : Str → Option Value) (base : Heap) (N : List Str) (qual : Str) (scope : Scope) (f : Addr) (cd : Value) (A : Around) (outer : List Env) (s : Shared) (H : Hp) (E : XK) : Cx where
  prog := P
  w := w
  K := K
  mg := mg
  base := base
  A := A.deeper (envOfC qual scope s.heap.objs.size f cd)
  N := N
  s₀ := s
  H₀ := H
  env := envOfC qual scope s.heap.objs.size f cd
  outer := outer
  stack := envOfC qual scope s.heap.objs.size f cd :: outer
  ex := []
  calm := true
  fn := fun _ => true
  pn := []
  xe := fun e s' => wpAny (model P w) (A.deeper (envOfC qual scope s.heap.objs.size f cd)) (leaving (envOfC qual scope s.heap.objs.size f cd) e) (fun _ s'' => CX outer H s E e s'') (fun e' s'' => CX outer H s E e' s'') s'

theorem cell_has {sc : Scope} {n : Nat} {x : Str} (h : sc.names.lookup x = some .cell) : ∃ c, (cellsFrom n sc.names []).lookup x = some c := by
  have q := PySem.W.cellsFrom_some sc.names n [] (.inl h)
  exact Option.isSome_iff_exists.mp q

theorem inv_start {CX : CXT} {P : Program} {w : World} {K : PySem.W.Frag} {mg : Str → Option Value} {base : Heap} {N ps : List Str} {qual : Str} {scope : Scope} {f : Addr} {cd : Value} {A : Around} {outer : List Env} {s s1 : Shared} {H : Hp} {E : XK} {us : List Value} {vs : List V}
    (S : FnScope N ps scope) (hd : A.handled = none) (e0 : Env0w P w K mg base A outer s H) (hl : vs.length = ps.length) (r : Vals vs us)
    (x : InCallC s s.heap.objs.size (bindL (envOfC qual scope s.heap.objs.size f cd).kindOf (ps.zip us) fun _ => none) (cellsFrom (s.heap.objs.size + 1) scope.names []) (bindC (envOfC qual scope s.heap.objs.size f cd).kindOf (ps.zip us) fun _ => none) s1) :
    Inw (cxOf CX P w K mg base N qual scope f cd A outer s H E) [] (start N vs) H s1 := by
  have hpl : ps.length ≤ N.length := by have := congrArg List.length S.pre; rw [List.length_take] at this; omega
  obtain ⟨h1, tk, rfl, hk⟩ := x.done
  have noA : ∀ b : Addr, b ∉ (cxOf CX P w K mg base N qual scope f cd A outer s H E).ex := fun b z => absurd (show b ∈ ([] : List Addr) from z) (by simp)
  refine ⟨⟨e0.mod, S.kind, rfl, rfl, Nat.le_refl _, fun y z c h1 h2 => ?_, fun y hy => ?_, fun y c _ h => ?_, fun _ => hd, Around.frames_deeper e0.frames, .inr ⟨rfl, rfl⟩, fun b z => absurd z (noA b), e0.bs, e0.bsz, fun b _ _ => noA b, fun b z => absurd z (noA b), e0.funs, e0.frf⟩,
    rfl, e0.bare, Un.kept hk, ⟨_, x.toInCall.ns, fun i y v h1 h2 h3 => ?_⟩, fun y c h => ⟨_, x.cell y c h⟩, e0.hok.fresh (Nat.le_refl _), fun y c h => ?_, fun p hp => absurd (show p ∈ ([] : List (Addr × Obj)) from hp) (by simp), e0.hok.kept hk, ?_⟩
  · exact name_of_addr x.apart (PySem.mem_of_lookup h1) (PySem.mem_of_lookup h2)
  · have hy : scope.names.lookup y = some .cell ∨ scope.names.lookup y = some .free := hy
    rcases hy with hy | hy
    · exact cell_has hy
    · exact absurd rfl (S.nofree _ (PySem.mem_of_lookup hy))
  · exact Nat.le_of_lt (x.above y c (PySem.mem_of_lookup h))
  · have hi : i < vs.length := by
      unfold start at h2
      by_cases hi : i < vs.length
      · exact hi
      · rw [List.getElem?_append_right (by simpa using hi)] at h2
        rw [List.getElem?_replicate] at h2
        split at h2 <;> cases h2
    have ha : vs[i]? = some v := by
      unfold start at h2
      rw [List.getElem?_append_left (by simpa using hi), List.getElem?_map] at h2
      cases e : vs[i]? with
      | none => rw [e] at h2; cases h2
      | some a => rw [e] at h2; cases h2; rfl
    obtain ⟨u, hu, rv⟩ := r.get ha
    have hp : ps[i]? = some y := by
      rw [← S.pre, List.getElem?_take_of_lt (by omega)]; exact h1
    have ndP : ps.Nodup := by rw [← S.pre]; exact S.nd.sublist (List.take_sublist _ _)
    refine ⟨u, rv, ?_⟩
    rcases S.par y (List.mem_of_getElem? hp) with k | k
    · exact .inl ⟨k, bindL_get ndP hp hu k⟩
    · obtain ⟨c, e⟩ := cell_has (n := s.heap.objs.size + 1) k
      refine .inr ⟨.inl k, c, e, ?_⟩
      have q := x.cell y c e
      rw [bindC_get ndP hp hu (by show scope.names.lookup y ≠ _; rw [k]; decide)] at q
      exact q
  · exact e0.hok.fresh (Nat.le_of_lt (x.above y c (PySem.mem_of_lookup h)))
  · unfold start
    show _ = N.length
    rw [List.length_append, List.length_map, List.length_replicate]
    omega

theorem fn_of {CX : CXT} {P : Program} {w : World} {K : PySem.W.Frag} {mg : Str → Option Value} {base : Heap} {k : Nat} {f : Addr} {name qual : Str} {params : Arguments} {body : List Stmt} {scope : Scope} {dV kV doc pm cdv ct oc : Value} {an od : Option Addr}
    {osl : Array (Option Value)} {N ps : List Str} {sp : Sp} (lk : K.lookup f = some ⟨oc, od, .func (PySem.W.fnOf name qual params body scope dV kV doc pm an cdv ct), osl⟩) (hcd : PySem.W.codeIn K cdv qual = true) (S : FnScope N ps scope)
    (len : ∀ vs H Q E, sp vs H Q E → vs.length = ps.length)
    (hbody : ∀ (A : Around) (outer : List Env) (s : Shared) (H : Hp) (vs : List V) (Q : VK) (E : XK), Room k (A.deeper (envOfC qual scope s.heap.objs.size f cdv)) → sp vs H Q E →
      ∃ t, PSs (cxOf CX P w K mg base N qual scope f cdv A outer s H E) body t ∧ t { nx := fun _ H' => Q .non H', rt := Q } (start N vs) H) :
    FnOk P w K mg base CX (k + 1) f (PySem.W.fnOf name qual params body scope dV kV doc pm an cdv ct) ps sp := by
  refine ⟨len, fun A outer s H args us vs Q E hr e0 hb r hsp => ?_⟩
  have hl := len _ _ _ _ hsp
  have KX : K.In s.heap := e0.mod.kin.keeps fun b o e => (e0.bs b o e).1
  have lim : s.heap.NoLimit := e0.mod.nolimit.keeps fun b o e => (e0.bs b o e).1
  have hkind : ∀ y ∈ ps.zip us, scope.names.lookup y.1 = some .local ∨ (scope.names.lookup y.1 = some .cell ∧ ((cellsFrom (s.heap.objs.size + 1) scope.names []).lookup y.1).isSome = true) := fun ⟨n, v⟩ hy => by
    rcases S.par n (List.of_mem_zip hy).1 with q | q
    · exact .inl q
    · exact .inr ⟨q, PySem.W.cellsFrom_some _ _ _ (.inl q)⟩
  refine codeAny_call_function hr.depth (KX _ _ lk) rfl S.co S.gen rfl (PySem.W.codeRec_of KX hcd) (hb _ _ _ _ ?_)
  refine wpAny_tok e0.pos (wpAny_newFunctionEnv_cells S.kind hkind fun env he s1 x z1 => ?_)
  subst he
  refine ⟨lim.keeps x.toInCall.keep, codeAny_func ?_⟩
  obtain ⟨t, ht, hq⟩ := hbody A outer s H vs Q E (hr.deeper _) hsp
  have I : Inw (cxOf CX P w K mg base N qual scope f cdv A outer s H E) [] (start N vs) H s1 := inv_start S hr.hd e0.toEnv0w hl r x
  refine wpAny_mono (ht [] s1 (start N vs) H _ ⟨I, z1⟩ hq) (fun fl s' hs => ?_) fun e s' hs => hs
  have fin : ∀ {σ' : St} {H' : Hp} {v : V} {u : Value}, Inw (cxOf CX P w K mg base N qual scope f cdv A outer s H E) [] σ' H' s' → RelV v u → Q v H' → CE outer P w H s Q u s' :=
    fun {σ' H' v u} J rv q => ⟨v, H', J.os, J.bare, J.base, J.hok, rv, q⟩
  cases fl with
  | ret u =>
    obtain ⟨v, σ', H', J, rv, q⟩ := hs
    exact fin J rv q
  | next =>
    obtain ⟨σ', H', J, q⟩ := hs
    exact fin (v := V.non) (u := Value.none) J rfl q
  | brk =>
    obtain ⟨_, _, _, q⟩ := hs
    exact False.elim q
  | cont =>
    obtain ⟨_, _, _, q⟩ := hs
    exact False.elim q
def PSsW (X : Cx) (st : List Stmt) (t : TS) : Prop :=
  ∀ (pins : List (Addr × Obj)) (s : Shared) (σ : St) (H : Hp) (D : Ends), Inw X pins σ H s → t D σ H → wpAny (model X.prog X.w) X.A (execs st X.env) (SP X pins D) X.xe s
def PSW (X : Cx) (st : Stmt) (t : TS) : Prop :=
  ∀ (pins : List (Addr × Obj)) (s : Shared) (σ : St) (H : Hp) (D : Ends), Inw X pins σ H s → t D σ H → wpAny (model X.prog X.w) X.A (exec st X.env) (SPs X pins D) X.xe s
theorem pssW_cons {X : Cx} {st : Stmt} {rest : List Stmt} {t u : TS} (h1 : PSW X st t) (h2 : PSs X rest u) : PSsW X (st :: rest) (tSeq t u) := by
  intro pins s σ H D I h
  refine wpAny_execs_cons (thn0 (h1 pins s σ H { D with nx := u D } I h) fun f s1 q => ?_)
  cases f with
  | next =>
    obtain ⟨σ', H', I', q⟩ := q
    exact h2 pins s1 σ' H' D I' q
  | ret v => exact SPs.w q
  | brk => exact SPs.w q
  | cont => exact SPs.w q
theorem PSsW.nox {X : Cx} {st : List Stmt} {t : TS} (h : PSsW X.nox st t) : PSsW X st t := fun pins s σ H D I hw =>
  wpAny_mono (h pins s σ H D (I.wish _) hw) (fun _ _ q => q.unwish) fun _ _ z => False.elim z
theorem fn_ofL {CX : CXT} {P : Program} {w : World} {K : PySem.W.Frag} {mg : Str → Option Value} {base : Heap} {k : Nat} {f : Addr} {name qual : Str} {params : Arguments} {body : List Stmt} {scope : Scope} {dV kV doc pm cdv ct oc : Value} {an od : Option Addr}
    {osl : Array (Option Value)} {N ps : List Str} {sp : Sp} (lk : K.lookup f = some ⟨oc, od, .func (PySem.W.fnOf name qual params body scope dV kV doc pm an cdv ct), osl⟩) (hcd : PySem.W.codeIn K cdv qual = true) (S : FnScope N ps scope)
    (len : ∀ vs H Q E, sp vs H Q E → vs.length = ps.length)
    (hbody : ∀ (A : Around) (outer : List Env) (s : Shared) (H : Hp) (vs : List V) (Q : VK) (E : XK), Room k (A.deeper (envOfC qual scope s.heap.objs.size f cdv)) → sp vs H Q E →
      ∃ t, PSsW (cxOf CX P w K mg base N qual scope f cdv A outer s H E) body t ∧ t { nx := fun _ H' => Q .non H', rt := Q } (start N vs) H) :
    FnOkL P w K mg base CX (k + 1) f (PySem.W.fnOf name qual params body scope dV kV doc pm an cdv ct) ps sp := by
  refine ⟨len, fun A outer s H args us vs Q E hr e0 hb r hsp => ?_⟩
  have hl := len _ _ _ _ hsp
  have KX : K.In s.heap := e0.mod.kin.keeps fun b o e => (e0.bs b o e).1
  have lim : s.heap.NoLimit := e0.mod.nolimit.keeps fun b o e => (e0.bs b o e).1
  have hkind : ∀ y ∈ ps.zip us, scope.names.lookup y.1 = some .local ∨ (scope.names.lookup y.1 = some .cell ∧ ((cellsFrom (s.heap.objs.size + 1) scope.names []).lookup y.1).isSome = true) := fun ⟨n, v⟩ hy => by
    rcases S.par n (List.of_mem_zip hy).1 with q | q
    · exact .inl q
    · exact .inr ⟨q, PySem.W.cellsFrom_some _ _ _ (.inl q)⟩
  refine codeAny_call_function hr.depth (KX _ _ lk) rfl S.co S.gen rfl (PySem.W.codeRec_of KX hcd) (hb _ _ _ _ ?_)
  refine wpAny_newFunctionEnv_cells S.kind hkind fun env he s1 x => ?_
  subst he
  refine ⟨lim.keeps x.toInCall.keep, codeAny_func ?_⟩
  obtain ⟨t, ht, hq⟩ := hbody A outer s H vs Q E (hr.deeper _) hsp
  have I : Inw (cxOf CX P w K mg base N qual scope f cdv A outer s H E) [] (start N vs) H s1 := inv_start S hr.hd e0 hl r x
  refine wpAny_mono (ht [] s1 (start N vs) H _ I hq) (fun fl s' hs => ?_) fun e s' hs => hs
  have fin : ∀ {σ' : St} {H' : Hp} {v : V} {u : Value}, Inw (cxOf CX P w K mg base N qual scope f cdv A outer s H E) [] σ' H' s' → RelV v u → Q v H' → CE outer P w H s Q u s' :=
    fun {σ' H' v u} J rv q => ⟨v, H', J.os, J.bare, J.base, J.hok, rv, q⟩
  cases fl with
  | ret u =>
    obtain ⟨v, σ', H', J, rv, q⟩ := hs
    exact fin J rv q
  | next =>
    obtain ⟨σ', H', J, q⟩ := hs
    exact fin (v := V.non) (u := Value.none) J rfl q
  | brk =>
    obtain ⟨_, _, _, q⟩ := hs
    exact False.elim q
  | cont =>
    obtain ⟨_, _, _, q⟩ := hs
    exact False.elim q
end L2

namespace L2
open PySem PySem.Spec PyProof.Rows
section
variable {X : Cx} {x : Str} {p pos : Pos} {e : Expr} {es : List Expr} {t : TA} {id T : String} {r : List V → Hp → VK → Prop}

def tCB (r : List V → Hp → VK → Prop) (t : TA) : TE := fun σ H Q => t σ H fun vs H1 => r vs H1 Q
theorem pe_callB (hc : CallR X (.builtin id) r) (hg : Gl X x) (hm : X.mg x = none) (hv : bootBuiltins x = some (.builtin id)) (ha : PA X (e :: es) t) (hn : x ≠ "__name__" := by decide) (hdb : (x == ("__debug__" : Str)) = false := by decide)
    (he : starEach (e :: es) X.env = (false, eval e X.env) :: starEach es X.env := by rfl) (hpl : (backTo pos (starEach es X.env)).any (·.1) = false := by rfl) : PE X (.Call (.Name x p) (e :: es) [] pos) (tCB r t) := by
  intro pins s σ H Q I h
  refine wpAny_Call_Name_kw (ld_blt I hg hm hv ?_ hn hdb)
  exact PyProof.Rows.callWith_builtin1 (thn (ha pos pins s σ H _ I h) fun us s1 ⟨vs, H1, I1, r1, q1⟩ => hc pins s1 σ H1 vs us Q I1 r1 q1) he hpl
theorem pe_callTy (hc : CallR X (.type T) r) (hg : Gl X x) (hm : X.mg x = none) (hv : bootBuiltins x = some (.type T)) (ha : PA X (e :: es) t) (hn : x ≠ "__name__" := by decide) (hdb : (x == ("__debug__" : Str)) = false := by decide)
    (he : starEach (e :: es) X.env = (false, eval e X.env) :: starEach es X.env := by rfl) (hpl : (backTo pos (starEach es X.env)).any (·.1) = false := by rfl) : PE X (.Call (.Name x p) (e :: es) [] pos) (tCB r t) := by
  intro pins s σ H Q I h
  refine wpAny_Call_Name_kw (ld_blt I hg hm hv ?_ hn hdb)
  exact PyProof.Rows.callWith_type1 (thn (ha pos pins s σ H _ I h) fun us s1 ⟨vs, H1, I1, r1, q1⟩ => hc pins s1 σ H1 vs us Q I1 r1 q1) he hpl
end
end L2

namespace HT
open PySem PyProof.Rows



section
open PySem.SeqAt
open PySem.AutoSeq1 (wpAny_loadPart')
open PySem.MeetsSeq PySem.MeetsSeq2 PySem.MeetsSeq3

end

section
variable {prog : Program} {w : World} {A : Around} {E : Value → Shared → Prop} {s : Shared}



def sIx (n d : Nat) : Option Int → Nat
  | none => d
  | some v => if v < 0 then (v + (n : Int)).toNat else min v.toNat n
theorem sIx_nat (n d k : Nat) : sIx n d (some (k : Int)) = min k n := by
  show (if (k : Int) < 0 then ((k : Int) + (n : Int)).toNat else min (k : Int).toNat n) = min k n
  rw [if_neg (by omega), Int.toNat_natCast]
theorem sIx_le (n d : Nat) (hd : d ≤ n) (o : Option Int) : sIx n d o ≤ n := by
  cases o with
  | none => exact hd
  | some v =>
    show (if v < 0 then (v + (n : Int)).toNat else min v.toNat n) ≤ n
    by_cases hv : v < 0
    · rw [if_pos hv]; omega
    · rw [if_neg hv]; exact Nat.min_le_right _ _
theorem clip_eq (v : Int) (n d : Nat) : (if v < 0 then max (v + (n : Int)) 0 else min v (n : Int)) = ((sIx n d (some v) : Nat) : Int) := by
  show (if v < 0 then max (v + (n : Int)) 0 else min v (n : Int)) = (((if v < 0 then (v + (n : Int)).toNat else min v.toNat n) : Nat) : Int)
  by_cases hv : v < 0
  · simp only [if_pos hv]; omega
  · simp only [if_neg hv]; omega
theorem adjust_gen (lo hi : Option Int) (n : Nat) : Builtin.Slice.sliceAdjust lo hi 1 (n : Int) = (((sIx n 0 lo : Nat) : Int), ((sIx n n hi : Nat) : Int)) := by
  have h1 : ¬ ((1 : Int) < 0) := by omega
  unfold Builtin.Slice.sliceAdjust
  simp only [h1, if_false]
  refine Prod.ext ?_ ?_
  · cases lo with
    | none => rfl
    | some v => exact clip_eq v n 0
  · cases hi with
    | none => rfl
    | some v => exact clip_eq v n n
theorem places_gen (i j : Nat) : Builtin.Slice.slicePlaces (i : Int) (j : Int) 1 = j - i := by
  unfold Builtin.Slice.slicePlaces
  have h1 : (1 : Int) > 0 := by omega
  simp only [h1, if_true, Int.ediv_one]
  split <;> omega
theorem slicePart_ {v : Value} {o : Option Int} {Q : Option Int → Shared → Prop} (p : IsPart v o) (h : Q o s) : wpAny (model prog w) A (Builtin.Slice.slicePartIndex v) Q E s := by
  cases p with
  | none => exact slicePart_none h
  | int i t => exact slicePart_int h
theorem sliceApplied_gen {sl : Addr} {vl vu : Value} {lo hi : Option Int} {n : Nat} {Q : Int × Int × Nat → Shared → Prop} (hs : s.heap.IsSliceOf sl vl vu .none) (pl : IsPart vl lo) (pu : IsPart vu hi)
    (h : Q (((sIx n 0 lo : Nat) : Int), 1, sIx n n hi - sIx n 0 lo) s) : wpAny (model prog w) A (Builtin.Slice.sliceApplied (.ref sl) (pure (n : Int))) Q E s := by
  obtain ⟨os, hos, hcs, hds⟩ := id hs
  unfold Builtin.Slice.sliceApplied Builtin.Slice.sliceFields
  refine wpAny_bind (wpAny_bind (wpAny_field hos hds (x := vl) rfl (wpAny_bind (wpAny_field hos hds (x := vu) rfl (wpAny_bind (wpAny_field hos hds (x := .none) rfl (wpAny_pure ?_)))))))
  refine wpAny_bind (slicePart_none ?_)
  show wpAny _ _ (if ((1 : Int) == 0) = true then _ else _) _ _ s
  rw [if_neg (by decide)]
  refine wpAny_bind (slicePart_ pl (wpAny_bind (slicePart_ pu (wpAny_bind (wpAny_pure ?_)))))
  show wpAny _ _ (match Builtin.Slice.sliceAdjust lo hi 1 (n : Int) with | (lo, hi) => pure (lo, (1 : Int), Builtin.Slice.slicePlaces lo hi 1)) _ _ s
  rw [adjust_gen lo hi n]
  show wpAny _ _ (pure (((sIx n 0 lo : Nat) : Int), (1 : Int), Builtin.Slice.slicePlaces ((sIx n 0 lo : Nat) : Int) ((sIx n n hi : Nat) : Int) 1)) _ _ s
  rw [places_gen]
  exact wpAny_pure h
theorem pick_gen (xs : Array Value) (i k : Nat) : ((List.range k).filterMap fun (m : Nat) => xs[((i : Int) + (m : Int) * 1).toNat]?).toArray = ((xs.toList.drop i).take k).toArray := by
  have e : (fun (m : Nat) => xs[((i : Int) + (m : Int) * 1).toNat]?) = fun m => xs[i + m]? := by
    funext m
    have : ((i : Int) + (m : Int) * 1).toNat = i + m := by omega
    rw [this]
  rw [e]
  have := pick_run xs i k
  rw [List.filterMap_map] at this
  have e2 : ((fun x => xs[x]?) ∘ fun x => i + x) = fun m => xs[i + m]? := rfl
  rw [e2] at this
  rw [this]

theorem getItem_tuple_cut {t sl : Addr} {items : Array Value} {vl vu : Value} {lo hi : Option Int} {Q : Value → Shared → Prop} (ht : IsTup s.heap t items) (hs : s.heap.IsSliceOf sl vl vu .none) (pl : IsPart vl lo) (pu : IsPart vu hi)
    (hw : ¬ (sIx items.size 0 lo = 0 ∧ sIx items.size items.size hi = items.size))
    (h : Q (.ref s.heap.objs.size) { s with heap := s.heap.push { cls := .type "tuple", data := .seq ((items.toList.drop (sIx items.size 0 lo)).take (sIx items.size items.size hi - sIx items.size 0 lo)).toArray } })
    (hsz : items.size ≤ sizeLine) : wpAny (model prog w) A (getItem (.ref t) (.ref sl)) Q E s := by
  have htake : sizeOk (.seq ((items.toList.drop (sIx items.size 0 lo)).take (sIx items.size items.size hi - sIx items.size 0 lo)).toArray) := by
    show ((items.toList.drop (sIx items.size 0 lo)).take (sIx items.size items.size hi - sIx items.size 0 lo)).toArray.size ≤ sizeLine
    rw [List.size_toArray, List.length_take, List.length_drop, Array.length_toList]
    omega
  have hj : sIx items.size items.size hi ≤ items.size := sIx_le _ _ (Nat.le_refl _) hi
  obtain ⟨os, hos, hcs, hds⟩ := id hs
  have hTs : s.TypeIs (.ref sl) "slice" := ⟨os, hos, hcs⟩
  unfold getItem
  try with_reducible refine wpAny_holding ?_
  first | refine wpAny_bind (wpAny_pure ?_) | skip
  refine wpAny_bind (wpAny_sequenceKey ht.typeIs (by decide) ?_)
  refine wpAny_bind (wpAny_callSpecial?_slot (name := Str.ofString "__getitem__") ht.typeIs PyProof.Rows.slot_tuple_getitem
    (wpAny_call_entry PyProof.Rows.slot_tuple_getitem ht.typeIs entry_tuple_getitem ?_ (args_tuple_getitem _ _)))
  show wpAny _ _ (Builtin.Tuple.tupleItemsOf (.ref t) >>= _) _ _ s
  refine wpAny_bind (tupleItemsOf_ ht ?_)
  refine wpAny_bind (wpAny_typeOf hTs ?_)
  rw [if_pos (by decide)]
  refine wpAny_bind (sliceApplied_gen hs pl pu ?_)
  have hno : ¬ ((((sIx items.size 0 lo : Nat) : Int) == 0 && (1 : Int) == 1 && (sIx items.size items.size hi - sIx items.size 0 lo) == items.size) = true) := by
    intro q
    rw [Bool.and_eq_true, Bool.and_eq_true] at q
    have q1 : ((sIx items.size 0 lo : Nat) : Int) = 0 := eq_of_beq q.1.1
    have q2 : sIx items.size items.size hi - sIx items.size 0 lo = items.size := eq_of_beq q.2
    exact hw ⟨by omega, by omega⟩
  show wpAny _ _ (if (((sIx items.size 0 lo : Nat) : Int) == 0 && (1 : Int) == 1 && (sIx items.size items.size hi - sIx items.size 0 lo) == items.size) = true then _ else _) _ _ s
  rw [if_neg hno, pick_gen]
  first
    | exact wpAny_bind (m := Builtin.Tuple.tupleExact _) (wpAny_newObj_type (wpAny_pure ⟨_, rfl, wpAny_pure h⟩) htake)
    | exact wpAny_bind (m := Builtin.Tuple.tupleExact _) (wpAny_newObj_type (wpAny_bind (wpAny_pure (wpAny_pure ⟨_, rfl, wpAny_pure h⟩))) htake)
    | exact wpAny_bind (wpAny_bind (m := Builtin.Tuple.tupleExact _) (wpAny_newObj_type (wpAny_pure (wpAny_pure ⟨_, rfl, wpAny_pure h⟩)) htake))
    | exact wpAny_bind (wpAny_bind (m := Builtin.Tuple.tupleExact _) (wpAny_newObj_type (wpAny_pure ⟨_, rfl, wpAny_pure h⟩) htake))
end
end HT

namespace L2
open PySem PySem.Spec PyProof.Rows

abbrev TO := St → Hp → (Option Int → Hp → Prop) → Prop
def PO (X : Cx) (e : Option Expr) (t : TO) : Prop :=
  ∀ (pins : List (Addr × Obj)) (s : Shared) (σ : St) (H : Hp) (Q : Option Int → Hp → Prop), Inv X pins σ H s → t σ H Q →
    wpAny (model X.prog X.w) X.A (evalPart e X.env) (fun u s' => ∃ o H', Inv X pins σ H' s' ∧ IsPart u o ∧ Q o H') X.xe s
def tNoPart : TO := fun _ H Q => Q none H
def tPart (t : TE) : TO := fun σ H Q => t σ H fun x H1 => ∃ i, x = .int i ∧ Q (some i) H1


section
variable {X : Cx} {e : Expr} {te : TE} {lo hi : Option Expr} {tl th : TO} {pos p2 : Pos}

theorem po_none : PO X none tNoPart := by
  intro pins s σ H Q I h
  rw [evalPart_none]
  exact wpAny_pure ⟨none, H, I, .none, h⟩
theorem po_some (h : PE X e te) : PO X (some e) (tPart te) := by
  intro pins s σ H Q I hw
  rw [evalPart_some]
  refine thn (h pins s σ H _ I hw) fun u s1 ⟨x, H1, I1, r1, q1⟩ => ?_
  obtain ⟨i, rfl, q⟩ := q1
  obtain ⟨t, rfl⟩ := r1
  exact ⟨some i, H1, I1, .int i t, q⟩

def SlR (X : Cx) (r : V → Option Int → Option Int → Hp → VK → Prop) : Prop :=
  ∀ (pins : List (Addr × Obj)) (s : Shared) (σ : St) (H : Hp) (x : V) (v vl vu : Value) (lo hi : Option Int) (sl : Addr) (Q : VK), Inv X pins σ H s → RelV x v → s.heap.IsSliceOf sl vl vu .none → IsPart vl lo → IsPart vu hi → r x lo hi H Q →
    ∃ T id, typeLookup (.type T) "__getitem__" = pure (some (.builtin id)) ∧ s.TypeIs v T ∧ wpAny (model X.prog X.w) X.A (getItem v (.ref sl)) (EP X pins σ Q) X.xe s
theorem SlR.or {r r' : V → Option Int → Option Int → Hp → VK → Prop} (h : SlR X r) (h' : SlR X r') : SlR X (fun x lo hi H Q => r x lo hi H Q ∨ r' x lo hi H Q) := by
  intro pins s σ H x v vl vu lo hi sl Q I rx hs pl pu q
  rcases q with q | q
  · exact h pins s σ H x v vl vu lo hi sl Q I rx hs pl pu q
  · exact h' pins s σ H x v vl vu lo hi sl Q I rx hs pl pu q
def tSl (r : V → Option Int → Option Int → Hp → VK → Prop) (te : TE) (tl th : TO) : TE := fun σ H Q => te σ H fun x H1 => tl σ H1 fun l H2 => th σ H2 fun u H3 => r x l u H3 Q
theorem pe_slice {r : V → Option Int → Option Int → Hp → VK → Prop} (hr : SlR X r) (he : PE X e te) (hl : PO X lo tl) (hu : PO X hi th) : PE X (.Subscript e (.Slice lo hi none p2) pos) (tSl r te tl th) := by
  intro pins s σ H Q I h
  refine Subscript_ (thn (he pins s σ H _ I h) fun v s1 ⟨x, H1, I1, r1, q1⟩ => ?_)
  refine wpAny_Slice (thn (hl pins s1 σ H1 _ I1 q1) fun vl s2 ⟨l, H2, I2, pl, q2⟩ => thn (hu pins s2 σ H2 _ I2 q2) fun vu s3 ⟨u, H3, I3, pu, q3⟩ => ?_)
  rw [evalPart_none]
  refine wpAny_pure ?_
  have I4 : Inw X pins σ H3 { s3 with heap := s3.heap.push { cls := .type "slice", data := .fields #[vl, vu, .none] } } := I3.kept (t' := s3.toks) fun b ob q => Heap.get?_push_of_some _ q
  obtain ⟨T, id, hT, ht, hg⟩ := hr pins { s3 with heap := s3.heap.push { cls := .type "slice", data := .fields #[vl, vu, .none] } } σ H3 x v vl vu l u s3.heap.objs.size Q ⟨I4, I3.pos⟩ r1 (Heap.IsSliceOf.new ..) pl pu q3
  show wpAny (model X.prog X.w) X.A (subscriptTail e (.Slice lo hi none p2) v (.ref s3.heap.objs.size)) (EP X pins σ Q) X.xe { s3 with heap := s3.heap.push { cls := .type "slice", data := .fields #[vl, vu, .none] } }
  exact tail_any (ops := [.ref s3.heap.objs.size, v]) ht hT hg (by with_unfolding_all rfl)

def cutV (xs : List V) (lo hi : Option Int) : List V := (xs.drop (HT.sIx xs.length 0 lo)).take (HT.sIx xs.length xs.length hi - HT.sIx xs.length 0 lo)
theorem cutV_length (xs : List V) (lo hi : Option Int) : (cutV xs lo hi).length ≤ xs.length := by
  unfold cutV
  rw [List.length_take, List.length_drop]
  omega
def rSlT (K : PySem.W.Frag) : V → Option Int → Option Int → Hp → VK → Prop := fun x lo hi H Q => ∃ a xs, x = .ref a ∧ SqT K H a xs ∧
  ¬ (HT.sIx xs.length 0 lo = 0 ∧ HT.sIx xs.length xs.length hi = xs.length) ∧ ∀ p, H p = none → Q (.ref p) (upd H p (.tup (cutV xs lo hi)))
theorem sl_tup : SlR X (rSlT X.K) := by
  intro pins s σ H x v vl vu lo hi sl Q I rx hs pl pu h
  obtain ⟨a, xs, rfl, hx, hw, q⟩ := h
  cases rx
  obtain ⟨its, r, ht, hz⟩ := I.tuple hx
  have hlen : its.toArray.size = xs.length := by rw [List.size_toArray]; exact r.length.symm
  refine ⟨"tuple", _, PyProof.Rows.slot_tuple_getitem.lookup, ht.typeIs, ?_⟩
  refine HT.getItem_tuple_cut ht hs pl pu (by rw [hlen]; exact hw) ?_ (by rw [hlen]; exact hz)
  rw [hlen]
  refine ⟨.ref s.heap.objs.size, _, I.laid (t' := s.toks) (o := .tup (cutV xs lo hi)) (fun b ob q => Heap.get?_push_of_some _ q) (Nat.le_refl _) ?_, rfl, q _ (I.hok.fresh (Nat.le_refl _))⟩
  exact ⟨Nat.le_trans (cutV_length xs lo hi) hz, _, (r.drop (HT.sIx xs.length 0 lo)).take (HT.sIx xs.length xs.length hi - HT.sIx xs.length 0 lo), IsTup.new _ _⟩

end
end L2

namespace L2
open PySem PySem.Spec PyProof.Rows

def ixN (n : Nat) (i : Int) : Option Nat := if 0 ≤ i then (if i < n then some i.toNat else none) else if -(n : Int) ≤ i then some (i + n).toNat else none
def atI {α : Type} (xs : List α) (i : Int) : Option α := (ixN xs.length i).bind fun j => xs[j]?
theorem ixN_seq {n : Nat} {i : Int} {j : Nat} (h : ixN n i = some j) : seqIndex? i n = some j ∧ j < n ∧ -(n : Int) ≤ i ∧ i < n := by
  unfold ixN at h
  by_cases h0 : 0 ≤ i
  · rw [if_pos h0] at h
    by_cases h1 : i < n
    · rw [if_pos h1] at h
      have e : i.toNat = j := Option.some.inj h
      exact ⟨by rw [seqIndex_of h0 h1, e], by omega, by omega, h1⟩
    · rw [if_neg h1] at h; cases h
  · rw [if_neg h0] at h
    by_cases h1 : -(n : Int) ≤ i
    · rw [if_pos h1] at h
      have e : (i + n).toNat = j := Option.some.inj h
      exact ⟨by rw [seqIndex_neg (by omega) h1, e], by omega, h1, by omega⟩
    · rw [if_neg h1] at h; cases h
theorem atI_get {α : Type} {xs : List α} {i : Int} {v : α} (h : atI xs i = some v) : ∃ j, seqIndex? i xs.length = some j ∧ xs[j]? = some v ∧ j < xs.length ∧ -(xs.length : Int) ≤ i ∧ i < xs.length := by
  unfold atI at h
  cases e : ixN xs.length i with
  | none => rw [e] at h; cases h
  | some j =>
    rw [e] at h
    obtain ⟨h1, h2, h3, h4⟩ := ixN_seq e
    exact ⟨j, h1, h, h2, h3, h4⟩
theorem atI_nat {α : Type} {xs : List α} {j : Nat} {v : α} (h : xs[j]? = some v) : atI xs (j : Int) = some v := by
  have hj : j < xs.length := (List.getElem?_eq_some_iff.mp h).1
  have e : ixN xs.length (j : Int) = some j := by
    unfold ixN
    rw [if_pos (by omega), if_pos (by omega)]; simp
  unfold atI; rw [e]; exact h

def PlainIx (b : Expr) : Prop := ∀ o i, subscripted b false o i = operate [o, i] (getItem o i)
def IxR (X : Cx) (r : R2) : Prop :=
  ∀ (value slice : Expr) (pins : List (Addr × Obj)) (s : Shared) (σ : St) (H : Hp) (x y : V) (v u : Value) (Q : VK), Inv X pins σ H s → RelV x v → RelV y u → r x y H Q →
    subscripted slice false v u = operate [v, u] (getItem v u) → wpAny (model X.prog X.w) X.A (subscriptTail value slice v u) (EP X pins σ Q) X.xe s
def MtR (X : Cx) (id : String) (r : V → List V → Hp → VK → Prop) : Prop :=
  ∀ (pins : List (Addr × Obj)) (s : Shared) (σ : St) (H : Hp) (x : V) (xs : List V) (v : Value) (us : List Value) (Q : VK), Inv X pins σ H s → RelV x v → Vals xs us → r x xs H Q →
    wpAny (model X.prog X.w) X.A (call (.builtin id) (v :: us)) (EP X pins σ Q) X.xe s
section
variable {X : Cx} {a b : Expr} {ta tb : TE} {pos : Pos}
theorem IxR.or {r r' : R2} (h : IxR X r) (h' : IxR X r') : IxR X (fun x y H Q => r x y H Q ∨ r' x y H Q) := by
  intro value slice pins s σ H x y v u Q I rx ry q hs
  rcases q with q | q
  · exact h value slice pins s σ H x y v u Q I rx ry q hs
  · exact h' value slice pins s σ H x y v u Q I rx ry q hs
theorem MtR.or {id : String} {r r' : V → List V → Hp → VK → Prop} (h : MtR X id r) (h' : MtR X id r') : MtR X id (fun x xs H Q => r x xs H Q ∨ r' x xs H Q) := by
  intro pins s σ H x xs v us Q I rx rs q
  rcases q with q | q
  · exact h pins s σ H x xs v us Q I rx rs q
  · exact h' pins s σ H x xs v us Q I rx rs q
theorem pe_ix {r : R2} (hr : IxR X r) (ha : PE X a ta) (hb : PE X b tb) (hs : PlainIx b) : PE X (.Subscript a b pos) (tOp r ta tb) := by
  intro pins s σ H Q I h
  exact Subscript_ (binT ha hb I h fun v u s2 x y H2 I2 rx ry q => hr a b pins s2 σ H2 x y v u Q I2 rx ry q (hs _ _))

def rIxL (K : PySem.W.Frag) : R2 := fun x y H Q => ∃ p xs i v, x = .ref p ∧ y = .int i ∧ SqL K H p xs ∧ atI xs i = some v ∧ Q v H
def rIxT (K : PySem.W.Frag) : R2 := fun x y H Q => ∃ p xs i v, x = .ref p ∧ y = .int i ∧ SqT K H p xs ∧ atI xs i = some v ∧ Q v H
def rIxS : R2 := fun x y H Q => ∃ z i c, x = .str z ∧ y = .int i ∧ z.length ≤ sizeLine ∧ atI z.cps.toList i = some c ∧ Q (.str ⟨#[c]⟩) H
theorem ix_list : IxR X (rIxL X.K) := by
  intro value slice pins s σ H x y v u Q I rx ry h hs
  obtain ⟨p, xs, i, z, rfl, rfl, hq, he, q⟩ := h
  cases rx
  obtain ⟨t, rfl⟩ := ry
  obtain ⟨its, r, pl, hz⟩ := I.list hq
  obtain ⟨j, h1, h2, h3, h4, h5⟩ := atI_get he
  obtain ⟨w, ew, rw'⟩ := r.get h2
  have hl := r.length
  have hn := line63
  have fin : EP X pins σ Q w s := ⟨z, H, I, rw', q⟩
  by_cases h0 : 0 ≤ i
  · have hj : i.toNat = j := by
      rw [seqIndex_of h0 h5] at h1
      exact Option.some.inj h1
    exact item_listR pl.isList h0 (by omega) (by rw [hj]; simpa using ew) fin hs
  · have hj : (i + (its.toArray.size : Int)).toNat = j := by
      rw [seqIndex_neg (by omega) h4] at h1
      rw [List.size_toArray, ← hl]
      exact Option.some.inj h1
    exact subscriptTail_builtinR (x := w) pl.isList.typeIs slot_list_getitem.lookup
      (wpAny_getItem_list_neg (Q := fun r s' => r = w ∧ EP X pins σ Q r s') pl.isList (by omega) (by rw [List.size_toArray] <;> omega) (by omega) (by rw [hj]; simpa using ew) ⟨rfl, fin⟩) hs
theorem ix_tup : IxR X (rIxT X.K) := by
  intro value slice pins s σ H x y v u Q I rx ry h hs
  obtain ⟨p, xs, i, z, rfl, rfl, hq, he, q⟩ := h
  cases rx
  obtain ⟨t, rfl⟩ := ry
  obtain ⟨its, r, pl, hz⟩ := I.tuple hq
  obtain ⟨j, h1, h2, h3, h4, h5⟩ := atI_get he
  obtain ⟨w, ew, rw'⟩ := r.get h2
  have hl := r.length
  have hn := line63
  have fin : EP X pins σ Q w s := ⟨z, H, I, rw', q⟩
  exact subscriptTail_builtinR (x := w) pl.typeIs slot_tuple_getitem.lookup
    (getItem_tuple (j := j) (Q := fun r s' => r = w ∧ EP X pins σ Q r s') pl (by omega) (by omega) (by rw [List.size_toArray, ← hl]; exact h1) (by simpa using ew) ⟨rfl, fin⟩) hs
theorem ix_str : IxR X rIxS := by
  intro value slice pins s σ H x y v u Q I rx ry h hs
  obtain ⟨z, i, c, rfl, rfl, hz, he, q⟩ := h
  obtain ⟨t, rfl⟩ := rx
  obtain ⟨t', rfl⟩ := ry
  obtain ⟨j, h1, h2, h3, h4, h5⟩ := atI_get he
  have hl : z.cps.toList.length = z.length := by simp [Str.length]
  rw [hl] at h1 h4 h5
  have hn := line63
  exact tail_any (typeIs_str s z t) slot_str_getitem.lookup (getItem_str (c := c) (by
    have e1 : decide (i < -(2 ^ 63 : Int)) = false := decide_eq_false (by omega)
    have e2 : decide (i ≥ 2 ^ 63) = false := decide_eq_false (by omega)
    rw [e1, e2, Bool.or_false]) (by rw [h1]; simpa using h2) ⟨.str ⟨#[c]⟩, H, I.tok _, ⟨_, rfl⟩, q⟩) hs

theorem mapSeq_set (its : List Value) (n j : Nat) (u : Value) : Obj.mapSeq (·.setIfInBounds j u) { cls := .type "list", data := .seq its.toArray n } = { cls := .type "list", data := .seq (its.set j u).toArray n } := by
  simp [Obj.mapSeq]
theorem Inw.lst {pins : List (Addr × Obj)} {σ : St} {H : Hp} {s : Shared} {p : Addr} {xs : List V} (I : Inw X pins σ H s) (h : H p = some (.lst xs)) :
    ∃ (its : List Value) (n : Nat), Vals xs its ∧ s.heap.get? p = some { cls := .type "list", data := .seq its.toArray n } ∧ xs.length ≤ sizeLine := by
  obtain ⟨z, its, n, r, e⟩ := I.hok p _ h
  exact ⟨its, n, r, e, z⟩
theorem Inw.lstUpd {pins : List (Addr × Obj)} {σ : St} {H : Hp} {s : Shared} {p : Addr} {xs ys : List V} {its its' : List Value} {n n' : Nat} {f : Obj → Obj} (I : Inw X pins σ H s) (h : H p = some (.lst xs))
    (ho : s.heap.get? p = some { cls := .type "list", data := .seq its.toArray n }) (hf : f { cls := .type "list", data := .seq its.toArray n } = { cls := .type "list", data := .seq its'.toArray n' }) (r : Vals ys its') (hz : ys.length ≤ sizeLine) (t : Nat) :
    Inw X pins σ (upd H p (.lst ys)) { s with heap := s.heap.update p f, toks := t } := by
  have e : (s.heap.update p f).get? p = some { cls := .type "list", data := .seq its'.toArray n' } := by
    rw [Heap.get?_update_self f ho (by rw [hf] <;> rfl), hf]
  refine I.write (x := p) (e := p) (by rw [h]; trivial) (.inl rfl) (fun b u hb q => (Heap.get?_update_other _ _ (Ne.symm hb)).trans q) ⟨_, e⟩ ?_
  exact ⟨hz, its', n', r, e⟩
def rSetL : V → V → V → Hp → (Hp → Prop) → Prop := fun o i v H Q => ∃ p xs k j, o = .ref p ∧ i = .int k ∧ H p = some (.lst xs) ∧ ixN xs.length k = some j ∧ Q (upd H p (.lst (xs.set j v)))
theorem set_list : PSet X rSetL := by
  intro pins s σ H o i v ov iv u Q I ro ri rv h
  obtain ⟨p, xs, k, j, rfl, rfl, hp, hj, q⟩ := h
  cases ro
  obtain ⟨t, rfl⟩ := ri
  obtain ⟨its, n, r, ho, hz⟩ := I.lst hp
  obtain ⟨h1, h2, h3, h4⟩ := ixN_seq hj
  have hl := r.length
  have hn := line63
  have I' : Inw X pins σ (upd H p (.lst (xs.set j v))) { s with heap := s.heap.update p (Obj.mapSeq (·.setIfInBounds j u)) } :=
    I.lstUpd hp ho (mapSeq_set its n j u) (r.set rv j) (by rw [List.length_set]; exact hz) s.toks
  by_cases h0 : 0 ≤ k
  · have hk : k.toNat = j := by
      rw [seqIndex_of h0 h4] at h1
      exact Option.some.inj h1
    exact PySem.W.ki_setAt ho h0 (by omega) (by rw [List.size_toArray, ← hl]; exact h4) (by rw [hk]; exact ⟨_, I', q⟩)
  · have hk : (k + (its.toArray.size : Int)).toNat = j := by
      rw [seqIndex_neg (by omega) h3] at h1
      rw [List.size_toArray, ← hl]
      exact Option.some.inj h1
    exact PySem.W.ki_setBack ho (by omega) (by rw [List.size_toArray, ← hl]; exact h3) (by omega) (by rw [hk]; exact ⟨_, I', q⟩)

theorem slice_bounds (lo hi : Option Int) (n : Nat) : (sliceBounds lo hi none n).1 = ((HT.sIx n 0 lo : Nat) : Int) ∧ (sliceBounds lo hi none n).2.1 = ((HT.sIx n n hi : Nat) : Int) ∧ (sliceBounds lo hi none n).2.2 = 1 := by
  refine ⟨?_, ?_, rfl⟩
  · cases lo with
    | none => simp [sliceBounds, HT.sIx]
    | some i =>
      simp only [sliceBounds, HT.sIx, Option.getD_none, show (1 : Int) > 0 by decide, if_true]
      by_cases h : i < 0
      · simp only [h, if_true] <;> omega
      · simp only [h, if_false] <;> omega
  · cases hi with
    | none => simp [sliceBounds, HT.sIx]
    | some i =>
      simp only [sliceBounds, HT.sIx, Option.getD_none, show (1 : Int) > 0 by decide, if_true]
      by_cases h : i < 0
      · simp only [h, if_true] <;> omega
      · simp only [h, if_false] <;> omega
theorem slicePick_cut (its : List Value) (lo hi : Option Int) : slicePick its.toArray lo hi none = ((its.drop (HT.sIx its.length 0 lo)).take (HT.sIx its.length its.length hi - HT.sIx its.length 0 lo)).toArray := by
  obtain ⟨h1, h2, h3⟩ := slice_bounds lo hi its.toArray.size
  unfold slicePick
  rw [h1, h2, h3]
  simp only [sliceRange_one, pick_run, List.size_toArray] <;> rfl
def rSlL (K : PySem.W.Frag) : V → Option Int → Option Int → Hp → VK → Prop := fun x lo hi H Q => ∃ a xs, x = .ref a ∧ SqL K H a xs ∧ ∀ p, H p = none → Q (.ref p) (upd H p (.lst (cutV xs lo hi)))
theorem sl_list : SlR X (rSlL X.K) := by
  intro pins s σ H x v vl vu lo hi sl Q I rx hs pl pu h
  obtain ⟨a, xs, rfl, hx, q⟩ := h
  cases rx
  obtain ⟨its, r, ht, hz⟩ := I.list hx
  have hlen := r.length
  refine ⟨"list", _, slot_list_getitem.lookup, ht.isList.typeIs, ?_⟩
  refine wpAny_getItem_list_slice ht.isList hs pl pu .none (by simp) ?_ (by rw [List.size_toArray] <;> omega)
  rw [slicePick_cut, ← hlen]
  refine ⟨.ref s.heap.objs.size, _, I.laid (t' := s.toks) (o := .lst (cutV xs lo hi)) (fun b ob q => Heap.get?_push_of_some _ q) (Nat.le_refl _) ?_, rfl, q _ (I.hok.fresh (Nat.le_refl _))⟩
  exact ⟨Nat.le_trans (cutV_length xs lo hi) hz, _, 0, (r.drop (HT.sIx xs.length 0 lo)).take (HT.sIx xs.length xs.length hi - HT.sIx xs.length 0 lo), Heap.get?_push_size _ rfl⟩

def flatV : V → Bool
  | .non => true
  | .bl _ => true
  | .int _ => true
  | .str _ => true
  | _ => false
def eqV : V → V → Bool
  | .non, .non => true
  | .bl a, .bl b => a == b
  | .bl a, .int b => (if a then 1 else 0) == b
  | .int a, .bl b => a == (if b then 1 else 0)
  | .int a, .int b => a == b
  | .str a, .str b => a == b
  | _, _ => false
theorem eqAt_V {A : Around} {s : Shared} {y x : V} {u v : Value} (ry : RelV y u) (rx : RelV x v) (fy : flatV y = true) (fx : flatV x = true) : SeqAt.EqAt A s u v (eqV y x) := by
  cases y with
  | non =>
    cases ry
    cases x with
    | non => cases rx; exact SeqAt.EqAt.same _
    | bl b => cases rx; exact SeqAt.EqAt.none_bool b
    | int b => obtain ⟨t, rfl⟩ := rx; exact SeqAt.EqAt.none_int b t
    | str b => obtain ⟨t, rfl⟩ := rx; exact SeqAt.EqAt.none_str b t
    | _ => exact absurd (show false = true from fx) Bool.false_ne_true
  | bl a =>
    cases ry
    cases x with
    | non => cases rx; exact SeqAt.EqAt.bool_none a
    | bl b => cases rx; exact SeqAt.EqAt.bool_bool a b
    | int b => obtain ⟨t, rfl⟩ := rx; exact SeqAt.EqAt.bool_int a b t
    | str b => obtain ⟨t, rfl⟩ := rx; exact SeqAt.EqAt.bool_str a b t
    | _ => exact absurd (show false = true from fx) Bool.false_ne_true
  | int a =>
    obtain ⟨t', rfl⟩ := ry
    cases x with
    | non => cases rx; exact SeqAt.EqAt.int_none a t'
    | bl b => cases rx; exact SeqAt.EqAt.int_bool a t' b
    | int b => obtain ⟨t, rfl⟩ := rx; exact SeqAt.EqAt.int_int a t' b t
    | str b => obtain ⟨t, rfl⟩ := rx; exact SeqAt.EqAt.int_str a t' b t
    | _ => exact absurd (show false = true from fx) Bool.false_ne_true
  | str a =>
    obtain ⟨t', rfl⟩ := ry
    cases x with
    | non => cases rx; exact SeqAt.EqAt.str_none a t'
    | bl b => cases rx; exact SeqAt.EqAt.str_bool a t' b
    | int b => obtain ⟨t, rfl⟩ := rx; exact SeqAt.EqAt.str_int a t' b t
    | str b => obtain ⟨t, rfl⟩ := rx; exact SeqAt.EqAt.str_str a t' b t
    | _ => exact absurd (show false = true from fx) Bool.false_ne_true
  | _ => exact absurd (show false = true from fy) Bool.false_ne_true
def eqU (x : V) (u : Value) : Bool := match u with
  | .none => eqV .non x
  | .bool b => eqV (.bl b) x
  | .int i _ => eqV (.int i) x
  | .str z _ => eqV (.str z) x
  | _ => false
theorem eqU_of {x y : V} {u : Value} (r : RelV y u) (f : flatV y = true) : eqU x u = eqV y x := by
  cases y with
  | non => cases r; rfl
  | bl b => cases r; rfl
  | int i => obtain ⟨t, rfl⟩ := r; rfl
  | str z => obtain ⟨t, rfl⟩ := r; rfl
  | _ => exact absurd (show false = true from f) Bool.false_ne_true
theorem any_eqU {x : V} : ∀ {xs : List V} {us : List Value}, Vals xs us → xs.all flatV = true → us.any (eqU x) = xs.any fun y => eqV y x
  | _, _, .nil, _ => rfl
  | y :: xs, u :: us, .cons r t, f => by
    rw [List.all_cons, Bool.and_eq_true] at f
    rw [List.any_cons, List.any_cons, eqU_of r f.1, any_eqU t f.2]
theorem mem_eqAt {A : Around} {s : Shared} {x : V} {v : Value} (rx : RelV x v) (fx : flatV x = true) : ∀ {xs : List V} {us : List Value}, Vals xs us → xs.all flatV = true → ∀ u ∈ us, SeqAt.EqAt A s u v (eqU x u)
  | _, _, .nil, _ => fun u hu => by cases hu
  | y :: xs, u :: us, .cons r t, f => fun u' hu => by
    rw [List.all_cons, Bool.and_eq_true] at f
    rcases List.mem_cons.mp hu with rfl | hu
    · rw [eqU_of r f.1]; exact eqAt_V r rx f.1 fx
    · exact mem_eqAt rx fx t f.2 u' hu
def inV (x : V) (xs : List V) : Bool := xs.any fun y => eqV y x
def rIn (K : PySem.W.Frag) (neg : Bool) : R2 := fun x y H Q => ∃ p xs, y = .ref p ∧ (SqL K H p xs ∨ SqT K H p xs) ∧ flatV x = true ∧ xs.all flatV = true ∧ Q (.bl (if neg then !inV x xs else inV x xs)) H
theorem op_in_seq : OpR X (compareOp .In) (rIn X.K false) := by
  intro pins s σ H x y v u Q I rx ry h
  obtain ⟨p, xs, rfl, hq, fx, fs, q⟩ := h
  cases ry
  rcases hq with hq | hq
  · obtain ⟨its, r, pl, hz⟩ := I.list hq
    refine SeqAt.in_listAt (eqU x) pl.isList (fun w hw => mem_eqAt rx fx r fs w (by simpa using hw)) ⟨.bl _, H, I, rfl, ?_⟩
    rw [show its.toArray.any (eqU x) = its.any (eqU x) by simp, any_eqU r fs]
    exact q
  · obtain ⟨its, r, pl, hz⟩ := I.tuple hq
    refine SeqAt.in_tupleAt (eqU x) pl (fun w hw => mem_eqAt rx fx r fs w (by simpa using hw)) ⟨.bl _, H, I, rfl, ?_⟩
    rw [show its.toArray.any (eqU x) = its.any (eqU x) by simp, any_eqU r fs]
    exact q

theorem call_len_seq : CallR X (.builtin "len") (fun xs H Q => ∃ p ys, xs = [.ref p] ∧ (SqL X.K H p ys ∨ SqT X.K H p ys) ∧ Q (.int ys.length) H) := by
  intro pins s σ H xs us Q I r h
  obtain ⟨p, ys, rfl, hq, q⟩ := h
  obtain ⟨u, rfl, rx⟩ := vals1 r
  cases rx
  have hn := line63
  rcases hq with hq | hq
  · obtain ⟨its, r', pl, hz⟩ := I.list hq
    have hlen := r'.length
    exact Calls.call_len_list pl.isList (by simp only [List.size_toArray] <;> omega) ⟨.int ys.length, H, I.tok _, ⟨s.toks + 1, by rw [List.size_toArray, hlen]⟩, q⟩
  · obtain ⟨its, r', pl, hz⟩ := I.tuple hq
    have hlen := r'.length
    exact len_tuple pl (by simp only [List.size_toArray] <;> omega) ⟨.int ys.length, H, I.tok _, ⟨s.toks + 1, by rw [List.size_toArray, hlen]⟩, q⟩
theorem call_len_str : CallR X (.builtin "len") (fun xs H Q => ∃ z, xs = [.str z] ∧ z.length ≤ sizeLine ∧ Q (.int z.length) H) := by
  intro pins s σ H xs us Q I r h
  obtain ⟨z, rfl, hz, q⟩ := h
  obtain ⟨u, rfl, t, rfl⟩ := vals1 r
  have hn := line63
  exact len_str (by omega) ⟨.int z.length, H, I.tok _, ⟨_, rfl⟩, q⟩
theorem CallR.or {f : Value} {r r' : List V → Hp → VK → Prop} (h : CallR X f r) (h' : CallR X f r') : CallR X f (fun xs H Q => r xs H Q ∨ r' xs H Q) := by
  intro pins s σ H xs us Q I rs q
  rcases q with q | q
  · exact h pins s σ H xs us Q I rs q
  · exact h' pins s σ H xs us Q I rs q
theorem call_tuple_of : CallR X (.type "tuple") (fun xs H Q => ∃ p ys, xs = [.ref p] ∧ ((SqL X.K H p ys ∧ ∀ l, H l = none → Q (.ref l) (upd H l (.tup ys))) ∨ (SqT X.K H p ys ∧ Q (.ref p) H))) := by
  intro pins s σ H xs us Q I r h
  obtain ⟨p, ys, rfl, h⟩ := h
  obtain ⟨u, rfl, rx⟩ := vals1 r
  cases rx
  rcases h with ⟨hq, q⟩ | ⟨hq, q⟩
  · obtain ⟨its, r', pl, hz⟩ := I.list hq
    have hlen := r'.length
    refine call_tuple_list pl.isList (fun h' kp => ?_) (by simp only [List.size_toArray] <;> omega)
    have I1 : Inw X pins σ H { s with heap := h' } := I.kept (t' := s.toks) kp
    have I2 : Inw X pins σ (upd H h'.objs.size (.tup ys)) { s with heap := h'.push { cls := .type "tuple", data := .seq its.toArray } } :=
      I1.laid (t' := s.toks) (fun b o e => Heap.get?_push_of_some _ e) (Nat.le_refl _) (show ObjOk X.prog X.w _ _ _ (.tup ys) from ⟨hz, its, r', IsTup.new _ _⟩)
    exact ⟨.ref h'.objs.size, _, I2, rfl, q _ (I1.hok.fresh (Nat.le_refl _))⟩
  · obtain ⟨its, r', pl, hz⟩ := I.tuple hq
    exact call_tuple_same pl ⟨.ref p, H, I, rfl, q⟩

def tyV (K : PySem.W.Frag) (T : String) (x : V) (H : Hp) : Prop := match x with
  | .str _ => T = "str"
  | .int _ => T = "int"
  | .ref p => (T = "list" ∧ ∃ xs, SqL K H p xs) ∨ (T = "tuple" ∧ ∃ o, K.lookup p = some o ∧ o.cls = .type "tuple" ∧ o.dict = none) ∨
      (T = "dict" ∧ ((∃ kvs, H p = some (.dK kvs)) ∨ ∃ kvs, H p = some (.dT kvs))) ∨ (T = "set" ∧ ∃ S n, H p = some (.set S n))
  | _ => False
theorem tyV_is {pins : List (Addr × Obj)} {σ : St} {H : Hp} {s : Shared} {T : String} {x : V} {v : Value} (I : Inv X pins σ H s) (r : RelV x v) (ty : tyV X.K T x H) :
    s.TypeIs v T ∧ ∀ a, v = .ref a → ∃ ob, s.heap.get? a = some ob ∧ ob.dict = none := by
  cases x with
  | str z =>
    obtain ⟨t, rfl⟩ := r
    cases (show T = "str" from ty)
    exact ⟨typeIs_str s z t, fun _ e => nomatch e⟩
  | int i =>
    obtain ⟨t, rfl⟩ := r
    cases (show T = "int" from ty)
    exact ⟨typeIs_int s i t, fun _ e => nomatch e⟩
  | ref p =>
    cases r
    rcases ty with ⟨rfl, xs, hq⟩ | ⟨rfl, o, hk, hc, hd⟩ | ⟨rfl, hk⟩ | ⟨rfl, S, n, hk⟩
    · obtain ⟨its, _, pl, _⟩ := I.list hq
      refine ⟨pl.isList.typeIs, fun a e => ?_⟩
      cases e
      obtain ⟨o, n, e, c, hd, _⟩ := pl
      exact ⟨o, e, hd⟩
    · refine ⟨⟨o, I.kIn p o hk, hc⟩, fun a e => ?_⟩
      cases e
      exact ⟨o, I.kIn _ o hk, hd⟩
    · have z : ∃ o, s.heap.get? p = some o ∧ o.ExactDict := by
        rcases hk with ⟨kvs, hk⟩ | ⟨kvs, hk⟩
        · obtain ⟨_, _, _, _, o, _, _, e, ex, _⟩ := I.hok p _ hk
          exact ⟨o, e, ex⟩
        · obtain ⟨_, _, _, _, o, _, _, e, ex, _⟩ := I.hok p _ hk
          exact ⟨o, e, ex⟩
      obtain ⟨o, e, ex⟩ := z
      refine ⟨⟨o, e, ex.1⟩, fun a e2 => ?_⟩
      cases e2
      exact ⟨o, e, ex.2.1⟩
    · obtain ⟨o, _, _, _, e, ex, _⟩ := I.hok p _ hk
      refine ⟨⟨o, e, ex.1⟩, fun a e2 => ?_⟩
      cases e2
      exact ⟨o, e, ex.2.1⟩
  | _ => exact False.elim ty
def tBM0 (K : PySem.W.Frag) (T : String) (r : V → List V → Hp → VK → Prop) (to : TE) : TE := fun σ H Q => to σ H fun x H1 => tyV K T x H1 ∧ r x [] H1 Q
def tBM (K : PySem.W.Frag) (T : String) (r : V → List V → Hp → VK → Prop) (to : TE) (t : TA) : TE := fun σ H Q => to σ H fun x H1 => tyV K T x H1 ∧ t σ H1 fun xs H2 => r x xs H2 Q
variable {o e : Expr} {es : List Expr} {to : TE} {t : TA} {name : Str} {apos cpos : Pos} {T id : String} {r : V → List V → Hp → VK → Prop}
theorem pe_bm0 (pa : PlainAttrs T) (slot : Slot T name id) (hty : typeOf (.builtin id) = pure (.type "method_descriptor")) (hm : MtR X id r) (ho : PE X o to)
    (hbase : attributeBase o name X.env (eval o X.env) = eval o X.env := by rfl) (hline : (apos.endLine == cpos.line) = true := by rfl) : PE X (.Call (.Attribute o name apos) [] [] cpos) (tBM0 X.K T r to) := by
  intro pins s σ H Q I h
  refine wpAny_Call_method0_late hbase hline (thn (ho pins s σ H _ I h) fun v s1 ⟨x, H1, I1, r1, ty, q1⟩ => ?_)
  obtain ⟨h1, h2⟩ := tyV_is I1 r1 ty
  exact ⟨T, id, pa, slot, hty, h1, h2, Calls.callWith_builtin rfl (PySem.evalArgs_none (hm pins s1 σ H1 x [] v [] Q I1 r1 .nil q1))⟩
theorem pe_bm (pa : PlainAttrs T) (slot : Slot T name id) (hty : typeOf (.builtin id) = pure (.type "method_descriptor")) (hm : MtR X id r) (ho : PE X o to) (ha : PA X (e :: es) t)
    (hbase : attributeBase o name X.env (eval o X.env) = eval o X.env := by rfl)
    (hfew : ((backTo cpos (starEach (e :: es) X.env)).all (fun x => !x.1) && (backToKw cpos (keywordEach [] X.env)).all (fun x => x.1.isSome)
      && decide ((e :: es).length + ([] : List Keyword).length + (if ([] : List Keyword).isEmpty then 0 else 1) < 30)) = true := by rfl)
    (hline : (apos.endLine == cpos.line) = true := by rfl) (hs : starEach (e :: es) X.env = (false, eval e X.env) :: starEach es X.env := by rfl) (hplain : (backTo cpos (starEach es X.env)).any (·.1) = false := by rfl) :
    PE X (.Call (.Attribute o name apos) (e :: es) [] cpos) (tBM X.K T r to t) := by
  intro pins s σ H Q I h
  refine wpAny_Call_method_late hbase hfew hline rfl (thn (ho pins s σ H _ I h) fun v s1 ⟨x, H1, I1, r1, ty, q1⟩ => ?_)
  obtain ⟨h1, h2⟩ := tyV_is I1 r1 ty
  refine ⟨T, id, pa, slot, hty, h1, h2, ?_⟩
  have hA := ha cpos pins s1 σ H1 _ I1 q1
  rw [hs] at hA ⊢
  refine Calls.callWith_builtin (by show (false || (backTo cpos (starEach es X.env)).any (·.1)) = false; rw [hplain] <;> rfl) (Calls.evalArgs_plain ?_)
  exact thn hA fun us s2 ⟨vs, H2, I2, r2, q2⟩ => hm pins s2 σ H2 x vs v us Q I2 r1 r2 q2
/- xs.append(e), list.index on a module's tuple .. are MtR facts of 06m -/
end
end L2

namespace L2
open PySem PySem.Spec PyProof.Rows

def MtM (X : Cx) (id : String) (r : V → List V → Hp → VK → Prop) : Prop :=
  ∀ (pins : List (Addr × Obj)) (s : Shared) (σ : St) (H : Hp) (x : V) (xs : List V) (v : Value) (us : List Value) (Q : VK), Inv X pins σ H s → RelV x v → Vals xs us → r x xs H Q →
    wpAny (model X.prog X.w) X.A (call (.builtin id) (v :: us)) (EP X pins σ Q) X.xe s

theorem Vals.one : ∀ {x : V} {us : List Value}, Vals [x] us → ∃ u, us = [u] ∧ RelV x u
  | _, _, .cons r .nil => ⟨_, rfl, r⟩
theorem Vals.two : ∀ {x y : V} {us : List Value}, Vals [x, y] us → ∃ u v, us = [u, v] ∧ RelV x u ∧ RelV y v
  | _, _, _, .cons r (.cons q .nil) => ⟨_, _, rfl, r, q⟩
theorem Vals.zero : ∀ {us : List Value}, Vals [] us → us = []
  | _, .nil => rfl
theorem Vals.dropLast {xs : List V} {us : List Value} (h : Vals xs us) : Vals xs.dropLast us.dropLast := by
  induction h with
  | nil => exact .nil
  | cons r t ih =>
    cases t with
    | nil => exact .nil
    | cons q t' => exact .cons r ih
theorem Vals.eraseIdx : ∀ {xs : List V} {us : List Value} (i : Nat), Vals xs us → Vals (xs.eraseIdx i) (us.eraseIdx i)
  | _, _, _, .nil => .nil
  | _, _, 0, .cons _ t => t
  | _, _, i + 1, .cons r t => .cons r (Vals.eraseIdx i t)
theorem erase_last {α : Type} (l : List α) : l.eraseIdx (l.length - 1) = l.dropLast := by
  induction l with
  | nil => rfl
  | cons a r ih =>
    cases r with
    | nil => rfl
    | cons b r =>
      have e : (a :: b :: r).length - 1 = ((b :: r).length - 1) + 1 := by
        have h1 : (a :: b :: r).length = r.length + 2 := rfl
        have h2 : (b :: r).length = r.length + 1 := rfl
        omega
      rw [e, List.eraseIdx_cons_succ, ih]
      all_goals rfl

section
variable {X : Cx} {pins : List (Addr × Obj)} {σ : St} {H : Hp} {s : Shared} {l b : Addr} {xs ys zs : List V}

theorem Inw.lset {its its' : List Value} {n : Nat} {f : Array Value → Array Value} {t' : Nat} (I : Inw X pins σ H s) (hH : H l = some (.lst xs))
    (e : s.heap.get? l = some { cls := .type "list", data := .seq its.toArray n }) (hf : f its.toArray = its'.toArray) (hv : Vals ys its') (hz : ys.length ≤ sizeLine) :
    Inw X pins σ (upd H l (.lst ys)) { s with heap := s.heap.update l (Obj.mapSeq f), toks := t' } := by
  have q := PySem.IsL.update e f
  rw [hf] at q
  refine I.write (x := l) (e := l) (by rw [hH]; exact trivial) (.inl rfl) (fun b' u hb hu => (Heap.get?_update_other s.heap (Obj.mapSeq f) (Ne.symm hb)).trans hu) ⟨_, q⟩ ?_
  exact ⟨hz, its', _, hv, q⟩
theorem Inw.lnew {its : List Value} {t' : Nat} (I : Inw X pins σ H s) (hv : Vals ys its) (hz : ys.length ≤ sizeLine) :
    Inw X pins σ (upd H s.heap.objs.size (.lst ys)) { s with heap := s.heap.push { cls := .type "list", data := .seq its.toArray }, toks := t' } :=
  I.laid (fun _ _ q => Heap.get?_push_of_some _ q) (Nat.le_refl _) ⟨hz, its, 0, hv, Heap.get?_push_size _ rfl⟩
theorem Inw.fresh (I : Inw X pins σ H s) : H s.heap.objs.size = none := I.hok.fresh (Nat.le_refl _)
theorem Inw.lstM (I : Inw X pins σ H s) (hH : H l = some (.lst xs)) : xs.length ≤ sizeLine ∧ ∃ (its : List Value) (n : Nat), Vals xs its ∧ xs.length = its.length ∧ s.heap.get? l = some { cls := .type "list", data := .seq its.toArray n } := by
  obtain ⟨z, its, n, r, e⟩ := I.hok l _ hH
  exact ⟨z, its, n, r, r.length, e⟩

end

section
variable {X : Cx}

def rAppend : V → List V → Hp → VK → Prop := fun x vs H Q => ∃ l xs y, x = .ref l ∧ vs = [y] ∧ H l = some (.lst xs) ∧ xs.length < sizeLine ∧ Q .non (upd H l (.lst (xs ++ [y])))
theorem mt_append : MtM X "list.append" rAppend := by
  intro pins s σ H x vs v us Q I rx rv h
  obtain ⟨l, xs, y, rfl, rfl, hH, hz, q⟩ := h
  cases rx
  obtain ⟨u, rfl, ru⟩ := rv.one
  obtain ⟨z, its, n, r, hl, e⟩ := I.lstM hH
  refine call_meets F.slot_list_append ⟨_, e, rfl⟩ F.entry_list_append (F.args_list_append_2 _ _) (PySem.list_append l its.toArray n u (by rw [List.size_toArray]; omega)) ⟨e, ?_⟩
  refine ⟨.non, _, I.lset (its' := its ++ [u]) hH e (by simp) (r.append (.cons ru .nil)) ?_, rfl, q⟩
  rw [List.length_append, List.length_singleton]
  omega


def rPop : V → List V → Hp → VK → Prop := fun x vs H Q => ∃ l xs y, x = .ref l ∧ vs = [] ∧ H l = some (.lst xs) ∧ xs[xs.length - 1]? = some y ∧ Q y (upd H l (.lst xs.dropLast))
theorem mt_pop : MtM X "list.pop" rPop := by
  intro pins s σ H x vs v us Q I rx rv h
  obtain ⟨l, xs, y, rfl, rfl, hH, hy, q⟩ := h
  cases rx
  have hus := rv.zero
  subst hus
  obtain ⟨z, its, n, r, hl, e⟩ := I.lstM hH
  obtain ⟨u, hu, ru⟩ := r.get hy
  have hy' : its.toArray[its.toArray.size - 1]? = some u := by
    show its.toArray[its.length - 1]? = some u
    rw [← Array.getElem?_toList, ← hl]
    exact hu
  refine call_meets F.slot_list_pop ⟨_, e, rfl⟩ F.entry_list_pop (F.args_list_pop_1 _) (MeetsSeq.list_pop_last l its.toArray n u hy' (by rw [List.size_toArray]; omega)) ⟨e, ?_⟩
  refine ⟨y, _, I.lset (its' := its.dropLast) hH e ?_ r.dropLast ?_, ru, q⟩
  · show its.toArray.eraseIdxIfInBounds (its.toArray.size - 1) = its.dropLast.toArray
    rw [List.size_toArray, List.eraseIdxIfInBounds_toArray, erase_last]
  · rw [List.length_dropLast]
    omega




def rCat : R2 := fun x y H Q => ∃ l b xs zs, x = .ref l ∧ y = .ref b ∧ H l = some (.lst xs) ∧ H b = some (.lst zs) ∧ xs.length + zs.length ≤ sizeLine ∧ ∀ p, H p = none → Q (.ref p) (upd H p (.lst (xs ++ zs)))
theorem op_cat : OpR X (binaryOp .Add) rCat := by
  intro pins s σ H x y v u Q I rx ry h
  obtain ⟨l, b, xs, zs, rfl, rfl, hH, hB, hz, q⟩ := h
  cases rx
  cases ry
  obtain ⟨z, its, n, r, hl, e⟩ := I.lstM hH
  obtain ⟨z2, its2, n2, r2, hl2, e2⟩ := I.lstM hB
  refine PySem.P.add_list e e2 ?_ (by rw [List.size_toArray, List.size_toArray]; omega)
  have ea : its.toArray ++ its2.toArray = (its ++ its2).toArray := by simp
  rw [ea]
  exact ⟨.ref _, _, I.lnew (t' := s.toks) (r.append r2) (by rw [List.length_append]; omega), rfl, q _ I.fresh⟩

end

section
variable {prog : Program} {w : World} {A : Around} {E : Value → Shared → Prop} {s : Shared}
set_option maxRecDepth 100000 in
end

section
variable {X : Cx}
end
end L2

namespace Att
open PySem PySem.W PySem.Calls PyProof.Rows

theorem ints_of_wellAll {P : Params} {h : Heap} : ∀ (ns : List Int) (vs : List Value), WellAll P h vs (ns.map WData.int) → IntsAre vs ns := by
  intro ns
  induction ns with
  | nil =>
    intro vs w
    rw [List.map_nil] at w
    cases w
    exact .nil
  | cons n ns ih =>
    intro vs w
    rw [List.map_cons] at w
    cases w with
    | cons a b =>
      cases a
      exact .cons _ _ (ih _ b)

theorem script_of {l : OpenLaw} {n : Nat} (hn : l.most = some n) {P : Params} {h : Heap} {args : List WData} {vals : List Value}
    (hpre : l.row.toRowW.claim.pre args = true) (hwl : WellAll P h vals args) :
    ∃ a vs ns, vals = [Value.ref a] ∧ args = [WData.list (ns.map WData.int)] ∧ h.get? a = some { cls := .type "list", data := .seq vs.toArray } ∧ IntsAre vs ns ∧ ns.length ≤ n := by
  have hsh : WShape.hasAll [] args [.list .int] = true := (pre_splitW hpre).1
  have hc : l.pre.holds [] { args := args } = true := (pre_splitW hpre).2
  obtain ⟨d, r, rfl, h1, h2⟩ := hasAllW_cons hsh
  obtain rfl := hasAllW_nil h2
  obtain ⟨xs, rfl, h3⟩ := hasW_list h1
  obtain ⟨ns, rfl⟩ := items_int h3
  have hlen : ns.length ≤ n := by
    unfold OpenLaw.pre at hc
    have h4 : (WTm.not (.lt (.lit (.int (n : Int))) (.len (.arg 0)))).holds [] { args := [.list (ns.map .int)] } = true := by
      have h4 := (holds_andW hc).1
      rw [hn] at h4
      exact h4
    have h5 := condW_of h4 (w_not (w_lt w_lit (w_len_list (w_arg rfl))))
    rw [List.length_map] at h5
    refine Nat.le_of_not_lt fun q => ?_
    have q' : (n : Int) < ((ns.length : Nat) : Int) := by omega
    first
      | (rw [decide_eq_true q'] at h5; exact absurd h5 (by decide))
      | (simp at h5; omega)
  cases hwl with
  | cons w1 w2 =>
    cases w2
    cases w1 with
    | list ho hall => exact ⟨_, _, ns, rfl, rfl, ho, ints_of_wellAll ns _ hall, hlen⟩

theorem post_true (l : OpenLaw) (args : List WData) : l.row.toRowW.claim.post args (.bool true) args = true :=
  postW_of (r := l.row.toRowW) (X := (true == true))
    (show WShape.has [] (.bool true) .bool = true by first | rfl | decide | simp [WShape.has, WShape.arms, WShape.armsAll])
    (show (WTm.eq .res (.lit (.bool true))).value [] { args := args, res := some (.bool true), after := args } = some (.bool (true == true)) from w_eq_bool (w_res rfl) w_lit) rfl


theorem attach_call {l : OpenLaw} {n : Nat} {q : Program} {loose : List Str} {XP : (Str → Option Value) → Heap → Prop} {YP : World → Heap → Prop} {d : DefRec}
    (hn : l.most = some n) (hdf : d.params.defaults = [])
    (call : ∀ (w : World) (s₀ s₁ : Shared) (mg mb : Str → Option Value) (fa : Addr) (o : Obj) (pm cd doc : Value) (a : Addr) (vs : List Value) (ns : List Int),
      Ground q loose [] XP w s₀ mg mb s₁.heap → YP w s₁.heap →
      s₁.heap.get? fa = some o → o.data = .func (docDef d.name d.params d.body d.scope pm cd doc) → s₁.heap.CodeRec cd d.name → mg d.name = some (.ref fa) →
      s₁.heap.get? a = some { cls := .type "list", data := .seq vs.toArray } → IntsAre vs ns → ns.length ≤ n → s₁.gens = #[] →
      codeAny (model l.prog w) callerA (.call (.ref fa) ⟨[.ref a], []⟩) (fun r s' => r = .ok (.ret (.bool true)) ∧ OldK s₁.heap s'.heap ∧ s'.os = s₁.os ∧ AllBare s'.gens) s₁) :
    WalkO q loose XP YP l.row.toRowW d [] (fun f vs => PySem.call f vs) := by
  intro w s₀ s₁ mg mb G Y fa o pm cd doc dV kV ho hd hcd hD hmg hg args vals as hpre hlay hrd hwl hlo
  obtain rfl : dV = .none := Dflts.none hD hdf
  obtain rfl : kV = .none := Dflts.noKw hD
  obtain ⟨a, vs, ns, rfl, rfl, hobj, hints, hlen⟩ := script_of hn hpre hwl
  refine enter_call (codeAny_mono (call w s₀ s₁ mg mb fa o pm cd doc a vs ns G Y ho (fd_plain hd) hcd hmg hobj hints hlen hg) fun r s' hq => ?_)
  obtain ⟨rfl, h2, h3, h4⟩ := hq
  exact ⟨.inl ⟨.bool true, .bool true, [], rfl, fun _ => rfl, .bool true, post_true l _, fun _ => ⟨List.Pairwise.nil, fun _ hm => (nomatch hm)⟩⟩, h2, h3, h4⟩


section
variable {prog : Program} {w : World} {A : Around} {E : Value → Shared → Prop} {s : Shared} {K : Frag}





def ledger (h : Heap) (L d : Addr) : List (Addr × Obj) := (List.range h.objs.size).filterMap fun a => if a = L ∨ a = d then none else (h.get? a).map fun o => (a, o)

end
end Att

namespace L2
open PySem PySem.Spec PyProof.Rows

theorem vals_ints : ∀ {vs : List Value} {ns : List Int}, IntsAre vs ns → Vals (ns.map V.int) vs
  | _, _, .nil => .nil
  | _, _, .cons n t h => .cons ⟨t, rfl⟩ (vals_ints h)

def Only (H : Hp) : Prop := ∀ b, H b = none ∨ ∃ o xs, H b = some (.frz o (.lst xs))

theorem law_call {P : Program} {w : World} {K : PySem.W.Frag} {mg mb : Str → Option Value} {CX : CXT} {k : Nat} {fa a : Addr} {fd : FuncData} {x : Str} {sp : Sp} {s₁ : Shared} {vs : List Value} {ns : List Int}
    (KX : K.In s₁.heap) (hns : s₁.heap.Ns mainGlobals mg) (hb : s₁.heap.Ns builtinsNs mb) (hbb : ∀ x : Str, x ≠ "__name__" → mb x = bootBuiltins x) (hlim : s₁.heap.NoLimit) (hg : s₁.gens = #[])
    (ha : s₁.heap.get? a = some { cls := .type "list", data := .seq vs.toArray }) (hi : IntsAre vs ns) (hl : ns.length ≤ sizeLine) (hr : Room k callerA)
    (F : ∀ base : Heap, K.In base → base.Ns mainGlobals mg → FnOkL P w K mg base CX k fa fd [x] sp) (hbind : ∀ (s : Shared) (u : Value), BindsTo s fd ⟨[u], []⟩ [(x, u)])
    (hsp : ∀ H : Hp, Only H → SqL K H a (ns.map V.int) → sp [.ref a] H (fun v _ => v = .bl true) fun _ _ _ => False)
    (hCX : ∀ H e s', CX [] H s₁ (fun _ _ _ => False) e s' → False) :
    codeAny (model P w) callerA (.call (.ref fa) ⟨[.ref a], []⟩) (fun r s' => r = .ok (.ret (.bool true)) ∧ OldK s₁.heap s'.heap ∧ s'.os = s₁.os ∧ AllBare s'.gens) s₁ := by
  have rv := vals_ints hi
  have lenV := hi.length
  -- from an abstract heap in which nothing but the script may be tracked
  have core : ∀ H : Hp, Only H → SqL K H a (ns.map V.int) → HOk P w H s₁.heap → (∀ b, H b ≠ none → b = a) → (H a ≠ none → K.lookup a = none) →
      codeAny (model P w) callerA (.call (.ref fa) ⟨[.ref a], []⟩) (fun r s' => r = .ok (.ret (.bool true)) ∧ OldK s₁.heap s'.heap ∧ s'.os = s₁.os ∧ AllBare s'.gens) s₁ := by
    intro H hO hS hok hA hK
    have base_of : ∀ {b : Addr} {o : Obj}, s₁.heap.get? b = some o → H b = none → (hidT s₁.heap H).get? b = some o := fun e n => hidT_get e n
    have noA : ∀ {b : Addr} {o : Obj} {es : Array DictEntry} {ep : Nat}, s₁.heap.get? b = some o → o.data = .dict es ep → H b = none := fun {b o es ep} e d => by
      cases q : H b with
      | none => rfl
      | some u =>
        have e' : b = a := hA b (by rw [q]; simp)
        subst e'
        rw [ha] at e; cases e
        have d' : Data.seq vs.toArray _ = Data.dict es ep := d
        cases d'
    have nsK : ∀ {b : Addr} {m : Str → Option Value}, s₁.heap.Ns b m → (hidT s₁.heap H).Ns b m := fun {b m} ⟨o, es, ep, e, d, r⟩ => ⟨o, es, ep, base_of e (noA e d), d, r⟩
    have hKb : K.In (hidT s₁.heap H) := fun b o e => base_of (KX b o e) (by
      cases q : H b with
      | none => rfl
      | some u =>
        have e' : b = a := hA b (by rw [q]; simp)
        subst e'
        rw [hK (by rw [q]; simp)] at e; cases e)
    have hM : Mod K mg (hidT s₁.heap H) := ⟨hKb, nsK hns, ⟨mb, nsK hb, hbb⟩, let ⟨mc, h1, h2⟩ := hlim; ⟨mc, nsK h1, h2⟩⟩
    have e0 : Env0w P w K mg (hidT s₁.heap H) callerA [] s₁ H := ⟨rfl, hM, fun b o e => of_hidT e, Nat.le_of_eq (hidT_size _ _), trivial, fun b hb => absurd (show b ∈ ([] : List Addr) from hb) (by simp), hok, .of_eq hg⟩
    refine codeAny_mono ((F _ hKb (nsK hns)).run callerA [] s₁ H ⟨[.ref a], []⟩ [.ref a] [.ref a] _ _ hr e0 (hbind s₁ (.ref a)) (.cons rfl .nil) (hsp H hO hS)) fun r s' h => ?_
    cases r with
    | error e => exact (hCX H e s' h).elim
    | ok fl =>
      cases fl with
      | next => exact False.elim h
      | brk => exact False.elim h
      | cont => exact False.elim h
      | ret u =>
        obtain ⟨v, H', os, bare, un, hok', r', q⟩ := h
        have q' : v = .bl true := q
        subst q'
        obtain rfl : u = Value.bool true := r'
        refine ⟨rfl, OldK.of_keep fun b o e => ?_, os, bare⟩
        cases q : H b with
        | none => exact un.keep b o e q (by intro z; exact absurd (show b ∈ ([] : List Addr) from z) (by simp)) (by simp)
        | some u =>
          rcases hO b with z | ⟨ob, xs, z⟩
          · rw [q] at z; cases z
          · have z2 := un.frzs b ob _ z
            obtain ⟨e1, _⟩ := hok b _ z
            obtain ⟨e2, _⟩ := hok' b _ z2
            rw [e] at e1; cases e1
            exact e2
  cases hk : K.lookup a with
  | some o =>
    -- the script is one of the module's own objects
    have e := KX a o hk
    rw [ha] at e
    cases e
    refine core (fun _ => none) (fun _ => .inl rfl) (.inr ⟨_, vs.toArray, _, hk, rfl, rfl, rfl, by rw [List.size_toArray, lenV]; exact hl, by simpa using rv⟩) (fun b u z => by have z' : (none : Option HO) = some u := z; cases z') (fun b z => absurd rfl z) fun z => absurd rfl z
  | none =>
    refine core (fun b => if b = a then some (.frz { cls := .type "list", data := .seq vs.toArray } (.lst (ns.map V.int))) else none) (fun b => ?_) (.inl (.inr ⟨{ cls := .type "list", data := .seq vs.toArray }, if_pos rfl⟩)) (fun b u z => ?_) (fun b z => ?_) fun _ => hk
    · by_cases hb : b = a
      · exact .inr ⟨_, _, if_pos hb⟩
      · exact .inl (if_neg hb)
    · by_cases hb : b = a
      · have z' := (if_pos hb).symm.trans z
        cases z'
        subst hb
        exact ⟨ha, by rw [List.length_map]; exact hl, vs, _, rv, ha⟩
      · have z' := (if_neg hb).symm.trans z
        cases z'
    · by_cases hb : b = a
      · exact hb
      · exact absurd (if_neg hb) z
end L2

namespace L2
open PySem PySem.Spec PyProof.Rows

abbrev KOf {K : PySem.W.Frag} {h : Heap} (_ : K.In h) : PySem.W.Frag := K

theorem walk_of {l : PySem.W.OpenLaw} {n k : Nat} {q : Program} {loose : List Str} {XP : (Str → Option Value) → Heap → Prop} {YP : World → Heap → Prop} {d : DefRec} {K : Params → PySem.W.Frag} {CX : World → CXT} {sp : World → Sp} {x : Str}
    (hn : l.most = some n) (hn2 : n ≤ sizeLine) (hdf : d.params.defaults = []) (hr : Room k callerA)
    (hY : ∀ (w : World) (h : Heap), YP w h → (K w.params).In h)
    (F : ∀ (w : World) (mg : Str → Option Value) (fa : Addr) (h : Heap), (K w.params).In h → h.Ns mainGlobals mg → mg d.name = some (.ref fa) →
      ∃ fd : FuncData, (∀ (s : Shared) (u : Value), BindsTo s fd ⟨[u], []⟩ [(x, u)]) ∧
        ∀ base : Heap, (K w.params).In base → base.Ns mainGlobals mg → FnOkL l.prog w (K w.params) mg base (CX w) k fa fd [x] (sp w))
    (hsp : ∀ (w : World) (H : Hp) (a : Addr) (ns : List Int), ns.length ≤ n → Only H → SqL (K w.params) H a (ns.map V.int) → sp w [.ref a] H (fun v _ => v = .bl true) fun _ _ _ => False)
    (hCX : ∀ (w : World) (H : Hp) (s : Shared) (e : Value) (s' : Shared), CX w [] H s (fun _ _ _ => False) e s' → False) :
    PySem.W.WalkO q loose XP YP l.row.toRowW d [] (fun f vs => PySem.call f vs) := by
  refine Att.attach_call hn hdf fun w s₀ s₁ mg mb fa o pm cd doc a vs ns G Y ho hd hcd hmg hobj hints hlen hg => ?_
  have KX := hY w _ Y
  obtain ⟨fd, hb, hF⟩ := F w mg fa _ KX G.T.g hmg
  exact law_call KX G.T.g G.T.b G.T.builtins G.T.nolimit hg hobj hints (Nat.le_trans hlen hn2) hr hF hb (fun H hO hS => hsp w H a ns hlen hO hS) fun H e s' => hCX w H s₁ e s'
end L2

/- THE LAST THEOREM (shape; LID, My.* are yours):
   My.Adr: a structure of the addresses that your layer names (classes, functions); My.Txt K t: a structure (Prop) of the equations over K;
   My.txt_mk : {K} {implicit addresses ..} (e1 : nsIn K mainGlobals "law" = some (some (.ref f))) (e2 : K.lookup f = some ⟨oc, od, .func (fnOf "law" "law" params body scope dV kV doc pm an cdv ct), sl⟩) (e3 : codeIn K cdv "law" = true) .. : ∃ t, My.Txt K t

set_option maxRecDepth 100000 in
set_option maxHeartbeats 0 in
theorem PySem.Challenge.cw_LID_holds : PySem.Challenge.rw_LID.Holds := by
  w_on; o_law; k_head; (case hw => w_witness2)
  k_fill
  refine L2.walk_of (l := PySem.Challenge.rw_LID) (n := 63) (k := 40) (x := "script") (CX := fun w => ..) (sp := fun _ => My.sp_law) rfl (by decide) rfl ⟨rfl, by decide, by decide⟩ (fun w h Y => PySem.W.kIn_of Y) ?F ?S ?C
  case F =>
    intro w mg fa h KX G hmg
    have T : ∃ t, My.Txt (L2.KOf KX) t := by
      dsimp only [L2.KOf]                          -- K must stand as «<heap const> w.params» for k_is
      refine' My.txt_mk ?e1 ?e2 ?e3 ..
      (case e1 => PySem.W.k_is)                    -- in the order: a name -> its address -> its object -> its parts
      (case e2 => PySem.W.k_is)
      ..
    obtain ⟨t, T⟩ := T
    have e0 := hmg.symm.trans (PySem.W.mg_of KX G T.law)
    cases e0                                       -- fa is the law's own address
    exact ⟨_, fun s u => .of_eq rfl, fun base kb nb => My.law_fn T kb nb⟩     -- if «.of_eq rfl» comes too early: refine' ⟨_, ?b, fun base kb nb => My.law_fn T kb nb⟩; exact fun s u => .of_eq rfl
  case S => exact fun w H a ns hl hO hS => ..
  case C => exact ..
(the tactic k_is has no namespace: write k_is) -/

namespace L2
open PySem PySem.Spec PyProof.Rows

def inClass (s : Stmt) (j : Nat) : Stmt := match s with
  | .ClassDef _ _ _ body _ _ _ _ _ _ _ => body.getD j (.Pass ⟨0, 0, 0, 0⟩)
  | _ => .Pass ⟨0, 0, 0, 0⟩
def defArgs (s : Stmt) : Arguments := match s with
  | .FunctionDef _ a _ _ _ _ _ _ _ _ => a
  | _ => { posonlyargs := [], args := [], vararg := none, kwonlyargs := [], kw_defaults := [], kwarg := none, defaults := [] }
def defBody (s : Stmt) : List Stmt := match s with
  | .FunctionDef _ _ b _ _ _ _ _ _ _ => b
  | _ => []
def defScope (s : Stmt) : Scope := match s with
  | .FunctionDef _ _ _ _ _ _ sc _ _ _ => sc
  | _ => { kind := .function, names := [], isGenerator := false, isCoroutine := false }

abbrev CX0 : CXT := fun _ _ _ _ _ _ => False
abbrev E0 : XK := fun _ _ _ => False
theorem pass0 {X : Cx} : Passes CX0 X E0 := fun _ _ _ _ _ _ _ h => h.elim

structure Fun (K : PySem.W.Frag) (x qual : Str) (st : Stmt) (f : Addr) (fd : FuncData) : Prop where
  ex : ∃ (oc : Value) (od : Option Addr) (kV doc pm : Value) (an : Option Addr) (cdv ct : Value) (osl : Array (Option Value)),
    fd = PySem.W.fnOf x qual (defArgs st) (defBody st) (defScope st) .none kV doc pm an cdv ct ∧ K.lookup f = some ⟨oc, od, .func fd, osl⟩ ∧ PySem.W.codeIn K cdv qual = true
  kp : PySem.W.keepIn K (.ref f) = true
section
variable {P : Program} {w : World} {K : PySem.W.Frag} {mg : Str → Option Value} {base : Heap}
theorem Fun.ok {x qual : Str} {st : Stmt} {f : Addr} {fd : FuncData} {N ps : List Str} {k : Nat} {sp : Sp} (F : Fun K x qual st f fd) (S : FnScope N ps (defScope st)) (len : ∀ vs H Q E, sp vs H Q E → vs.length = ps.length)
    (hbody : ∀ (cdv : Value) (A : Around) (outer : List Env) (s : Shared) (H : Hp) (vs : List V) (Q : VK) (E : XK), Room k (A.deeper (envOfC qual (defScope st) s.heap.objs.size f cdv)) → sp vs H Q E →
      ∃ t, PSs (cxOf CX0 P w K mg base N qual (defScope st) f cdv A outer s H E).nox (defBody st) t ∧ t { nx := fun _ H' => Q .non H', rt := Q } (start N vs) H) : FnOk P w K mg base CX0 (k + 1) f fd ps sp := by
  obtain ⟨oc, od, kV, doc, pm, an, cdv, ct, osl, rfl, lk, hcd⟩ := F.ex
  refine fn_of lk hcd S len fun A outer s H vs Q E hr hsp => ?_
  obtain ⟨t, h, q⟩ := hbody cdv A outer s H vs Q E hr hsp
  exact ⟨t, h.nox, q⟩
theorem Fun.okL {x qual : Str} {st : Stmt} {f : Addr} {fd : FuncData} {N ps : List Str} {k : Nat} {sp : Sp} (F : Fun K x qual st f fd) (S : FnScope N ps (defScope st)) (len : ∀ vs H Q E, sp vs H Q E → vs.length = ps.length)
    (hbody : ∀ (cdv : Value) (A : Around) (outer : List Env) (s : Shared) (H : Hp) (vs : List V) (Q : VK) (E : XK), Room k (A.deeper (envOfC qual (defScope st) s.heap.objs.size f cdv)) → sp vs H Q E →
      ∃ t, PSsW (cxOf CX0 P w K mg base N qual (defScope st) f cdv A outer s H E).nox (defBody st) t ∧ t { nx := fun _ H' => Q .non H', rt := Q } (start N vs) H) : FnOkL P w K mg base CX0 (k + 1) f fd ps sp := by
  obtain ⟨oc, od, kV, doc, pm, an, cdv, ct, osl, rfl, lk, hcd⟩ := F.ex
  refine fn_ofL lk hcd S len fun A outer s H vs Q E hr hsp => ?_
  obtain ⟨t, h, q⟩ := hbody cdv A outer s H vs Q E hr hsp
  exact ⟨t, h.nox, q⟩
theorem Fun.binds {x qual : Str} {st : Stmt} {f : Addr} {fd : FuncData} {ps : List Str} (F : Fun K x qual st f fd)
    (h : ∀ (kV doc pm : Value) (an : Option Addr) (cdv ct : Value) (us : List Value), us.length = ps.length → bindArgs (PySem.W.fnOf x qual (defArgs st) (defBody st) (defScope st) .none kV doc pm an cdv ct) ⟨us, []⟩ = pure (ps.zip us)) : Binds K fd ps [] := by
  obtain ⟨oc, od, kV, doc, pm, an, cdv, ct, osl, rfl, lk, hcd⟩ := F.ex
  exact .all (h kV doc pm an cdv ct)
theorem fun_mk {x qual : Str} {st : Stmt} {f : Addr} {oc : Value} {od an : Option Addr} {osl : Array (Option Value)} {kV doc pm cdv ct : Value} (l : K.lookup f = some ⟨oc, od, .func (PySem.W.fnOf x qual (defArgs st) (defBody st) (defScope st) .none kV doc pm an cdv ct), osl⟩)
    (c : PySem.W.codeIn K cdv qual = true) (k : PySem.W.keepIn K (.ref f) = true) : Fun K x qual st f (PySem.W.fnOf x qual (defArgs st) (defBody st) (defScope st) .none kV doc pm an cdv ct) := ⟨⟨oc, od, kV, doc, pm, an, cdv, ct, osl, rfl, l, c⟩, k⟩
end
theorem hu_of {A : Around} {k : Nat} (hr : Room k A) : A.units + 1 < cLine := Nat.lt_of_le_of_lt (Nat.add_le_add_left (by decide : 1 ≤ 64) _) hr.units
theorem small1000 {n : Nat} (h : n ≤ 1000) : n < sizeLine := Nat.lt_of_le_of_lt h (by decide)

section
variable {X : Cx}
theorem pv (i : Nat) {x : Str} {pos : Pos} (hN : X.N[i]? = some x := by rfl) (hv : Vis X.env.scope x := by first | exact Or.inl rfl | exact Or.inr (Or.inl rfl) | exact Or.inr (Or.inr rfl)) (hd : (x == ("__debug__" : Str)) = false := by decide)
    (hcd : (x == ("__classdict__" : Str)) = false := by decide) : PE X (.Name x pos) (tVar i) := pe_var hN hv hd hcd
end

theorem iteF {A B : Prop} (h : B) : if false = true then A else B := by
  rw [if_neg Bool.false_ne_true]
  exact h
theorem iteT {A B : Prop} (h : A) : if true = true then A else B := by
  rw [if_pos rfl]
  exact h
theorem ite2 {c A B : Prop} [Decidable c] (h1 : c → A) (h2 : ¬ c → B) : if c then A else B := by
  by_cases h : c
  · rw [if_pos h]
    exact h1 h
  · rw [if_neg h]
    exact h2 h
theorem iteNS {c A B : Prop} [Decidable c] (hc : c) (h : B) : if (!decide c) = true then A else B := by
  rw [decide_eq_true hc]
  exact iteF h

def Same (H H' : Hp) : Prop := ∀ b o, H b = some o → H' b = some o
theorem Same.refl (H : Hp) : Same H H := fun _ _ h => h
theorem Same.trans {H H1 H2 : Hp} (a : Same H H1) (b : Same H1 H2) : Same H H2 := fun c o h => b c o (a c o h)
theorem Same.free {H H' : Hp} (e : Same H H') {l : Addr} (h : H' l = Option.none) : H l = Option.none := by
  cases q : H l with
  | none => rfl
  | some o =>
    rw [e l o q] at h
    cases h
theorem Same.seq {K : PySem.W.Frag} {H H' : Hp} {a : Addr} {xs : List V} (e : Same H H') (h : SqL K H a xs) : SqL K H' a xs := by
  rcases h with (h | ⟨o, h⟩) | h
  · exact .inl (.inl (e _ _ h))
  · exact .inl (.inr ⟨o, e _ _ h⟩)
  · exact .inr h

end L2

set_option maxHeartbeats 4000000
namespace L2
open PySem
def closOf (env : Env) : List (Str × NameKind) → List (Str × Addr) → List (Str × Addr)
  | [], cs => cs
  | (n, k) :: r, cs => if (k == .free) = true then closOf env r ((n, (env.cells.lookup n).getD 0) :: cs) else closOf env r cs
theorem closureFor_of {sc : Scope} {env : Env} (h : ∀ n, (n, NameKind.free) ∈ sc.names → ∃ c, env.cells.lookup n = some c) : closureFor sc env = pure (closOf env sc.names []) := by
  simp only [closureFor]
  generalize sc.names = l at h
  generalize ([] : List (Str × Addr)) = cs
  induction l generalizing cs with
  | nil => rfl
  | cons x r ih =>
    obtain ⟨n, k⟩ := x
    have hr : ∀ n, (n, NameKind.free) ∈ r → ∃ c, env.cells.lookup n = some c := fun n hn => h n (List.mem_cons_of_mem _ hn)
    rw [List.forIn_cons, closOf]
    by_cases hk : (k == NameKind.free) = true
    · have hk' : k = .free := by cases k <;> first | rfl | exact absurd hk (by decide)
      subst hk'
      obtain ⟨c, hc⟩ := h n List.mem_cons_self
      have e : cellOf env n = pure c := by unfold cellOf; rw [hc]
      simp only [e]
      rw [if_pos hk, if_pos hk, hc]
      exact ih hr _
    · rw [if_neg hk, if_neg hk]
      exact ih hr _
theorem closOf_lookup {env : Env} {x : Str} {c : Addr} : ∀ (l : List (Str × NameKind)) (cs : List (Str × Addr)), (∀ n, (n, NameKind.free) ∈ l → ∃ c, env.cells.lookup n = some c) → (∀ y d, cs.lookup y = some d → env.cells.lookup y = some d) →
    (closOf env l cs).lookup x = some c → env.cells.lookup x = some c
  | [], cs, _, hc, e => hc x c e
  | (n, k) :: r, cs, h, hc, e => by
    have hr : ∀ n, (n, NameKind.free) ∈ r → ∃ c, env.cells.lookup n = some c := fun n hn => h n (List.mem_cons_of_mem _ hn)
    rw [closOf] at e
    split at e
    · rename_i hk
      have hk' : k = .free := by cases k <;> first | rfl | exact absurd hk (by decide)
      subst hk'
      obtain ⟨c', hc'⟩ := h n List.mem_cons_self
      refine closOf_lookup r _ hr (fun y d hy => ?_) e
      rw [List.lookup_cons] at hy
      split at hy
      · rename_i hyn
        have : y = n := eq_of_beq hyn
        subst this
        rw [hc'] at hy
        rw [hc']; exact hy
      · exact hc y d hy
    · exact closOf_lookup r cs hr hc e
theorem closOf_has {env : Env} {x : Str} : ∀ (l : List (Str × NameKind)) (cs : List (Str × Addr)), ((x, NameKind.free) ∈ l ∨ ∃ d, cs.lookup x = some d) → ∃ d, (closOf env l cs).lookup x = some d
  | [], cs, h => by
    rcases h with h | h
    · cases h
    · exact h
  | (n, k) :: r, cs, h => by
    rw [closOf]
    split
    · rename_i hk
      refine closOf_has r _ ?_
      by_cases hx : x = n
      · subst hx; exact .inr ⟨_, by rw [List.lookup_cons]; simp; rfl⟩
      · rcases h with h | ⟨d, h⟩
        · rcases List.mem_cons.mp h with e | e
          · exact absurd (congrArg Prod.fst e) hx
          · exact .inl e
        · refine .inr ⟨d, ?_⟩
          rw [List.lookup_cons]
          have : (x == n) = false := by simpa using hx
          rw [this]; exact h
    · rename_i hk
      refine closOf_has r _ ?_
      rcases h with h | h
      · rcases List.mem_cons.mp h with e | e
        · have : k = .free := (congrArg Prod.snd e).symm
          subst this
          exact absurd rfl hk
        · exact .inl e
      · exact .inr h

theorem relabel_of {env : Env} {x : Str} {k' : NameKind} : ∀ {names : List (Str × NameKind)}, (names.map fun (n, k) => if (k == NameKind.free && env.scope.kind == .function && env.kindOf n == some .cell) then (n, NameKind.cell) else (n, k)).lookup x = some k' →
    ∃ k, names.lookup x = some k ∧ (k' = k ∨ (k = .free ∧ k' = .cell))
  | [], h => by simp at h
  | (n, k) :: r, h => by
    have ih := @relabel_of env x k' r
    have h' : List.lookup x ((if (k == NameKind.free && env.scope.kind == .function && env.kindOf n == some .cell) = true then (n, NameKind.cell) else (n, k)) :: (r.map fun (n, k) => if (k == NameKind.free && env.scope.kind == .function && env.kindOf n == some .cell) then (n, NameKind.cell) else (n, k))) = some k' := h
    cases hx : x == n with
    | true =>
      refine ⟨k, by rw [List.lookup_cons, hx], ?_⟩
      by_cases hc : (k == NameKind.free && env.scope.kind == .function && env.kindOf n == some .cell) = true
      · rw [if_pos hc, List.lookup_cons, hx] at h'
        have hk : (k == NameKind.free) = true := by
          rw [Bool.and_eq_true, Bool.and_eq_true] at hc
          exact hc.1.1
        exact .inr ⟨eq_of_beq hk, (Option.some.inj h').symm⟩
      · rw [if_neg hc, List.lookup_cons, hx] at h'
        exact .inl (Option.some.inj h').symm
    | false =>
      rw [List.lookup_cons, hx]
      by_cases hc : (k == NameKind.free && env.scope.kind == .function && env.kindOf n == some .cell) = true
      · rw [if_pos hc, List.lookup_cons, hx] at h'; exact ih h'
      · rw [if_neg hc, List.lookup_cons, hx] at h'; exact ih h'
theorem relabel_cell {env : Env} {x : Str} (hf : env.scope.kind = .function) (hx : env.kindOf x = some .cell) : ∀ {names : List (Str × NameKind)}, names.lookup x = some .free →
    (names.map fun (n, k) => if (k == NameKind.free && env.scope.kind == .function && env.kindOf n == some .cell) then (n, NameKind.cell) else (n, k)).lookup x = some .cell
  | [], h => by simp at h
  | (n, k) :: r, h => by
    have ih := @relabel_cell env x hf hx r
    show List.lookup x ((if (k == NameKind.free && env.scope.kind == .function && env.kindOf n == some .cell) = true then (n, NameKind.cell) else (n, k)) :: (r.map fun (n, k) => if (k == NameKind.free && env.scope.kind == .function && env.kindOf n == some .cell) then (n, NameKind.cell) else (n, k))) = some .cell
    cases hxn : x == n with
    | true =>
      rw [List.lookup_cons, hxn] at h
      have hk : k = .free := Option.some.inj h
      have hn : n = x := (eq_of_beq hxn).symm
      subst hk hn
      rw [if_pos (by rw [hf, hx]; decide), List.lookup_cons, hxn]
    | false =>
      rw [List.lookup_cons, hxn] at h
      by_cases hc : (k == NameKind.free && env.scope.kind == .function && env.kindOf n == some .cell) = true
      · rw [if_pos hc, List.lookup_cons, hxn]; exact ih h
      · rw [if_neg hc, List.lookup_cons, hxn]; exact ih h
def compOk (NX : List Str) (sX sc : Scope) (N : List Str) (pick : List (Option Nat)) : Bool :=
  decide (sc.kind = .function) && (sc.names.all fun y => decide (y.2 ≠ .cell)) && (sc.names.all fun y => decide (y.2 ≠ .local) || decide (sc.names.lookup y.1 = some .local)) &&
  (sc.names.all fun y => decide (y.2 ≠ .free) || decide (sX.names.lookup y.1 = some .cell)) && decide (pick.length = N.length) &&
  ((List.range N.length).all fun i => match pick[i]?, N[i]? with
    | some (some j), some x => decide (NX[j]? = some x) && decide (sc.names.lookup x = some .free) && decide (sX.names.lookup x = some .cell)
    | _, _ => true)
structure CompSc (NX : List Str) (sX sc : Scope) (N : List Str) (pick : List (Option Nat)) : Prop where
  kind : sc.kind = .function
  nocell : ∀ y ∈ sc.names, y.2 ≠ .cell
  names : ∀ y ∈ sc.names, y.2 = .local → sc.names.lookup y.1 = some .local
  free : ∀ n, (n, NameKind.free) ∈ sc.names → sX.names.lookup n = some .cell
  len : pick.length = N.length
  pk : ∀ (i j : Nat) (x : Str), pick[i]? = some (some j) → N[i]? = some x → NX[j]? = some x ∧ sc.names.lookup x = some .free ∧ sX.names.lookup x = some .cell
theorem compSc_of {NX : List Str} {sX sc : Scope} {N : List Str} {pick : List (Option Nat)} (h : compOk NX sX sc N pick = true) : CompSc NX sX sc N pick := by
  unfold compOk at h
  rw [Bool.and_eq_true, Bool.and_eq_true, Bool.and_eq_true, Bool.and_eq_true, Bool.and_eq_true] at h
  obtain ⟨⟨⟨⟨⟨h1, h2⟩, h3⟩, h4⟩, h5⟩, h6⟩ := h
  rw [List.all_eq_true] at h2 h3 h4 h6
  refine ⟨of_decide_eq_true h1, fun y hy => of_decide_eq_true (h2 y hy), fun y hy hl => ?_, fun n hn => ?_, of_decide_eq_true h5, fun i j x e1 e2 => ?_⟩
  · have q := h3 y hy
    rw [Bool.or_eq_true] at q
    rcases q with q | q
    · exact absurd hl (of_decide_eq_true q)
    · exact of_decide_eq_true q
  · have q := h4 _ hn
    rw [Bool.or_eq_true] at q
    rcases q with q | q
    · exact absurd rfl (of_decide_eq_true q)
    · exact of_decide_eq_true q
  · have q := h6 i (List.mem_range.mpr (List.getElem?_eq_some_iff.mp e2).1)
    rw [e1, e2] at q
    have q' : (decide (NX[j]? = some x) && decide (sc.names.lookup x = some .free) && decide (sX.names.lookup x = some .cell)) = true := q
    rw [Bool.and_eq_true, Bool.and_eq_true] at q'
    exact ⟨of_decide_eq_true q'.1.1, of_decide_eq_true q'.1.2, of_decide_eq_true q'.2⟩

section
variable {prog : Program} {w : World} {A : Around} {E : Value → Shared → Prop} {R : Result → Shared → Prop} {s : Shared}
theorem compLoop_any {elt target iter : Expr} {ifs : List Expr} {scope : Scope} {pos : Pos} {it acc : Value} {env : Env} (I : Nat → Shared → Prop)
    (turn : ∀ n s, I n s → wpAny (model prog w) A (pyNext it) (fun r s₁ => match r with
      | none => R (.ok .next) s₁
      | some v => wpAny (model prog w) A (letOwnedTupleGo target it v) (fun _ s₀ => wpAny (model prog w) A (assign target env v) (fun _ s₂ =>
          wpAny (model prog w) A (forIn ifs true fun c r => if r = true then do let ok ← isTrue c env (eval c env); pure (ForInStep.yield ok) else pure (ForInStep.yield r)) (fun ok s₃ =>
            if ok = true then wpAny (model prog w) A (eval elt env) (fun x s₄ =>
              wpAny (model prog w) A (call (.builtin "list.append") [acc, x]) (fun _ s₅ => ∃ m, m < n ∧ I m s₅) (notedBy (model prog w) A env fun e s' => R (.error e) s') s₄) (notedBy (model prog w) A env fun e s' => R (.error e) s') s₃
            else ∃ m, m < n ∧ I m s₃) (notedBy (model prog w) A env fun e s' => R (.error e) s') s₂) (notedBy (model prog w) A env fun e s' => R (.error e) s') s₀) (notedBy (model prog w) A env fun e s' => R (.error e) s') s₁) (notedBy (model prog w) A env fun e s' => R (.error e) s') s)
    (n : Nat) (h : I n s) :
    codeAny (model prog w) A (.compLoop (.ListComp elt [⟨target, iter, ifs, 0⟩] scope pos) 0 it acc env) R s := by
  refine codeAny_loop rfl I (fun n s hI => ?_) n h
  show wpAny _ A ((compTurn (.ListComp elt [⟨target, iter, ifs, 0⟩] scope pos) 0 it acc env).onRaise (fun x => do noteFrame x env; theTreesLotGoes x)) _ _ s
  refine wpAny_noted ?_
  rw [compTurn_list]
  refine wpAny_bind (wpAny_standAt (wpAny_bind (wpAny_mono (turn n s hI) (fun r s₁ h₁ => ?_) fun _ _ h' => h')))
  cases r with
  | none => exact wpAny_pure h₁
  | some v =>
    refine wpAny_bind (wpAny_mono h₁ (fun _ s₀ h₀ => ?_) fun _ _ h' => h')
    refine wpAny_bind (wpAny_mono h₀ (fun _ s₂ h₂ => wpAny_bind (wpAny_mono h₂ (fun ok s₃ h₃ => ?_) fun _ _ h' => h')) fun _ _ h' => h')
    cases ok with
    | false => exact wpAny_pure ⟨rfl, h₃⟩
    | true =>
      exact wpAny_bind (wpAny_bind (wpAny_mono h₃ (fun x s₄ h₄ => wpAny_bind (wpAny_mono h₄ (fun _ s₅ h₅ => wpAny_pure (wpAny_pure ⟨rfl, h₅⟩)) fun _ _ h' => h')) fun _ _ h' => h'))
end
end L2

namespace L2
open PySem PySem.Spec PyProof.Rows
theorem Inw.track {X : Cx} {pins : List (Addr × Obj)} {σ : St} {H : Hp} {s : Shared} {a : Addr} {o : HO} (I : Inw X pins σ H s) (hn : H a = none) (hL : a ≠ X.env.locals) (h1 : X.s₀.heap.objs.size ≤ a)
    (h2 : ∀ x c, X.env.cells.lookup x = some c → c ≠ a) (h3 : ∀ p ∈ X.pn ++ pins, p.1 ≠ a) (new : ObjOk X.prog X.w (upd H a o) s.heap a o) : Inw X pins σ (upd H a o) s := by
  have ne : ∀ b u, H b = some u → b ≠ a := fun b u e => ne_of_none e hn
  have old : ∀ b ob, X.s₀.heap.get? b = some ob → b ≠ a := fun b ob e z => by
    subst z; exact absurd (Nat.lt_of_lt_of_le (Heap.lt_size e) h1) (Nat.lt_irrefl _)
  refine ⟨I.ok, I.os, I.bare, ⟨I.base.keep, I.base.slot, fun b ob e n hx => ?_, I.base.there, fun b xs e => ?_, fun b ob u e => ?_, fun b ps e => ?_⟩, I.loc, I.cell, ?_, fun x c e => ?_, fun p hp => ?_, fun b u e => ?_, I.len⟩
  · rw [upd_ne (old b ob e)]; exact I.base.free b ob e n hx
  · have q := I.base.tups b xs e; rw [upd_ne (ne b _ q)]; exact q
  · have q := I.base.frzs b ob u e; rw [upd_ne (ne b _ q)]; exact q
  · obtain ⟨more, q⟩ := I.base.tbls b ps e; exact ⟨more, by rw [upd_ne (ne b _ q)]; exact q⟩
  · rw [upd_ne (Ne.symm hL)]; exact I.free
  · rw [upd_ne (h2 x c e)]; exact I.freeC x c e
  · obtain ⟨e, n, ne', nf, d⟩ := I.pin p hp
    exact ⟨e, by rw [upd_ne (h3 p hp)]; exact n, ne', nf, d⟩
  · by_cases hb : b = a
    · subst hb; rw [upd_same] at e; cases e; exact new
    · rw [upd_ne hb] at e
      exact (I.hok b u e).stay (fun _ _ _ q => q) (fun c q => by rw [upd_ne (ne c _ q)]; exact q) fun c xs q => by rw [upd_ne (ne c _ q)]; exact q

def Cx.blk (X : Cx) (sc : Scope) (N : List Str) (C : Addr) (s₀ : Shared) (H₀ : Hp) (ex : List Addr) : Cx :=
  { X with N := N, s₀ := s₀, H₀ := H₀, env := compEnvC sc (closOf X.env sc.names []) C X.env, outer := X.stack, ex := ex, fn := fun _ => false, pn := [], xe := fun _ _ => False }
def pickS (pick : List (Option Nat)) (σ : St) : St := pick.map fun o => match o with
  | none => none
  | some j => match σ[j]? with
    | some (some v) => some v
    | _ => none
theorem pickS_get {pick : List (Option Nat)} {σ : St} {i : Nat} {v : V} (h : (pickS pick σ)[i]? = some (some v)) : ∃ j, pick[i]? = some (some j) ∧ σ[j]? = some (some v) := by
  unfold pickS at h
  rw [List.getElem?_map] at h
  cases e : pick[i]? with
  | none => rw [e] at h; cases h
  | some o =>
    rw [e] at h
    cases o with
    | none => cases h
    | some j =>
      refine ⟨j, rfl, ?_⟩
      have h' : (match σ[j]? with | some (some v) => some v | _ => none) = some v := Option.some.inj h
      cases e2 : σ[j]? with
      | none => rw [e2] at h'; cases h'
      | some o2 =>
        rw [e2] at h'
        cases o2 with
        | none => cases h'
        | some v' => cases h'; rfl
section
variable {X : Cx} {pins : List (Addr × Obj)} {σ : St} {H : Hp} {s₂ : Shared} {NX N : List Str} {sX sc : Scope} {pick : List (Option Nat)} {fp : List Addr}
theorem blk_cell (I : Inv X pins σ H s₂) (ck : CompSc NX sX sc N pick) (hX : X.env.scope = sX) {x : Str} {c : Addr} (e : (closOf X.env sc.names []).lookup x = some c) : X.env.cells.lookup x = some c :=
  closOf_lookup sc.names [] (fun n hn => I.ok.has n (.inl (by show X.env.scope.names.lookup n = _; rw [hX]; exact ck.free n hn))) (fun _ _ h => by simp at h) e
theorem blk_clos (I : Inv X pins σ H s₂) (ck : CompSc NX sX sc N pick) (hX : X.env.scope = sX) : closureFor sc X.env = pure (closOf X.env sc.names []) :=
  closureFor_of fun n hn => I.ok.has n (.inl (by show X.env.scope.names.lookup n = _; rw [hX]; exact ck.free n hn))
theorem blk_fp (I : Inv X pins σ H s₂) (ck : CompSc NX sX sc N pick) (hX : X.env.scope = sX) {C D : Addr} {od : Obj} {H' : Hp} (hC : s₂.heap.objs.size ≤ C) (hD : s₂.heap.objs.size ≤ D) (hf : ∀ b ∈ fp, FpOk X pins H b) (hfl : ∀ b ∈ fp, b < s₂.heap.objs.size) (hn : ∀ b ∈ fp, H' b = none) :
    ∀ b ∈ fp, FpOk (X.blk sc N C s₂ H fp) [(D, od)] H' b := fun b hb => by
  obtain ⟨f0, f1, f2, f3, f4, f5⟩ := hf b hb
  have hlt := hfl b hb
  refine ⟨hn b hb, Nat.ne_of_lt (Nat.lt_of_lt_of_le hlt hC), fun z => ?_, .inl hb, fun x c e => f4 x c (blk_cell I ck hX e), fun p hp => ?_⟩
  · rcases List.mem_cons.mp (I.stkSub b z) with e | e
    · exact f1 e
    · exact f2 e
  · have hp' : p ∈ [(D, od)] := hp
    rw [List.mem_singleton] at hp'
    subst hp'
    exact Nat.ne_of_gt (Nat.lt_of_lt_of_le hlt hD)
theorem blk_inv (I : Inv X pins σ H s₂) (ck : CompSc NX sX sc N pick) (hN : X.N = NX) (hX : X.env.scope = sX) (hf : ∀ b ∈ fp, FpOk X pins H b) (hfl : ∀ b ∈ fp, b < s₂.heap.objs.size) {h₁ : Heap} {C D : Addr} {od : Obj} {m : Str → Option Value} {tk : Nat}
    (old : ∀ b o, s₂.heap.get? b = some o → h₁.get? b = some o) (hD : s₂.heap.objs.size ≤ D) (hC : s₂.heap.objs.size ≤ C) (hDC : D ≠ C) (hod : h₁.get? D = some od) (hodc : ∀ v, od.data ≠ .cell v) (ns : h₁.Ns C m) :
    Inw (X.blk sc N C s₂ H fp) [(D, od)] (pickS pick σ) H { s₂ with heap := h₁, toks := tk } := by
  have kX : X.env.scope.kind = .function := I.ok.kind
  have noStk : ∀ b, s₂.heap.objs.size ≤ b → b ∉ frs X.stack := fun b hb z => by
    rcases List.mem_cons.mp (I.stkSub b z) with e | e
    · exact absurd (Nat.lt_of_lt_of_le I.lt (by rw [← e]; exact hb)) (Nat.lt_irrefl _)
    · exact I.nofs hb e
  have ok : (X.blk sc N C s₂ H fp).Ok := by
    refine ⟨I.ok.mod, ck.kind, I.ok.glob, I.ok.blt, hC, fun x y c h1 h2 => ?_, fun x hx => ?_, fun x c h _ => ?_, I.ok.hd, I.ok.frames, .inl rfl, fun b hb => ?_, I.bs, Nat.le_trans I.ok.bsz I.sz, fun b o e hb => ?_, fun b hb z => ?_, I.stack, I.stkFree⟩
    · exact I.ok.inj x y c (blk_cell I ck hX h1) (blk_cell I ck hX h2)
    · have hx' : (relabel sc X.env).names.lookup x = some .cell ∨ (relabel sc X.env).names.lookup x = some .free := hx
      refine closOf_has sc.names [] (.inl ?_)
      rcases hx' with h | h
      · obtain ⟨k, h1, h2⟩ := relabel_of h
        rcases h2 with h2 | ⟨h2, _⟩
        · exact absurd h2.symm (ck.nocell _ (PySem.mem_of_lookup h1))
        · rw [h2] at h1; exact PySem.mem_of_lookup h1
      · obtain ⟨k, h1, h2⟩ := relabel_of h
        rcases h2 with h2 | ⟨_, h2⟩
        · rw [← h2] at h1; exact PySem.mem_of_lookup h1
        · cases h2
    · cases h
    · have hlt := hfl b hb
      exact ⟨Nat.ne_of_lt (Nat.lt_of_lt_of_le hlt hC), fun x c e => (hf b hb).2.2.2.2.1 x c (blk_cell I ck hX e)⟩
    · rcases (hf b hb).2.2.2.1 with z | z
      · exact I.ok.noex b o e z
      · exact absurd (Nat.lt_of_lt_of_le (Heap.lt_size e) (Nat.le_trans I.ok.bsz z)) (Nat.lt_irrefl _)
    · rcases List.mem_cons.mp (I.stkSub b z) with e | e
      · exact (hf b hb).2.1 e
      · exact (hf b hb).2.2.1 e
  refine ⟨ok, rfl, I.bare, Un.kept old, ⟨m, ns, fun i x v h1 h2 h3 => ?_⟩, fun x c e => ?_, I.hok.fresh hC, fun x c e => I.freeC x c (blk_cell I ck hX e), fun p hp => ?_, I.hok.kept old, ?_⟩
  · obtain ⟨j, hp, hσ⟩ := pickS_get h2
    obtain ⟨hNX, hfr, hcl⟩ := ck.pk i j x hp h1
    have kx : X.env.kindOf x = some .cell := by show X.env.scope.names.lookup x = _; rw [hX]; exact hcl
    obtain ⟨mX, _, hl⟩ := I.loc
    obtain ⟨u, r, l⟩ := hl j x v (by rw [hN]; exact hNX) hσ (.inr (.inl kx))
    refine ⟨u, r, .inr ⟨.inl (relabel_cell kX kx hfr), ?_⟩⟩
    rcases l with ⟨k, _⟩ | ⟨_, c, e, z⟩
    · rw [kx] at k; cases k
    · obtain ⟨d, hd⟩ := closOf_has (env := X.env) (x := x) sc.names [] (.inl (PySem.mem_of_lookup hfr))
      have hd' := blk_cell I ck hX hd
      rw [e] at hd'; cases hd'
      obtain ⟨o, ho, hc⟩ := z
      exact ⟨c, hd, o, old _ _ ho, hc⟩
  · obtain ⟨v, o, ho, hc⟩ := I.cell x c (blk_cell I ck hX e)
    exact ⟨v, o, old _ _ ho, hc⟩
  · have hp' : p ∈ [(D, od)] := hp
    rw [List.mem_singleton] at hp'
    subst hp'
    exact ⟨hod, I.hok.fresh hD, hDC, noStk D hD, hodc⟩
  · unfold pickS
    rw [List.length_map]
    exact ck.len
end

def PIfs (X : Cx) (ifs : List Expr) (t : TT) : Prop :=
  ∀ (pins : List (Addr × Obj)) (s : Shared) (σ : St) (H : Hp) (Q : Bool → Hp → Prop), Inv X pins σ H s → t σ H Q →
    wpAny (model X.prog X.w) X.A (forIn ifs true fun c r => if r = true then do let ok ← isTrue c X.env (eval c X.env); pure (ForInStep.yield ok) else pure (ForInStep.yield r)) (TP X pins σ Q) X.xe s
def tYes : TT := fun _ H Q => Q true H
theorem pifs_nil {X : Cx} : PIfs X [] tYes := fun _ _ _ H _ I h => wpAny_tests_nil ⟨H, I, h⟩
theorem pifs_one {X : Cx} {c : Expr} {t : TT} (h : PT X c t) : PIfs X [c] t := fun pins s σ H Q I q => wpAny_tests_one (h pins s σ H Q I q)

def tComp (wi : TI) (pick : List (Option Nat)) (g : TG) (ti : TT) (te : TE) : TE := fun σ H Q => wi σ H fun J H1 => ∃ W : Nat → Nat → List V → St → Hp → Prop, (∃ m, W 0 m [] (pickS pick σ) H1) ∧ ∀ i m ys σ' H', W i m ys σ' H' → ys.length ≤ sizeLine ∧
  ((J.stop i H' ∧ ∀ p, H' p = none → Q (.ref p) (upd H' p (.lst ys))) ∨
   (J.go i H' ∧ ∃ N : List V → St → Hp → Prop, (∀ zs τ L, N zs τ L → ∃ m', m' < m ∧ W (i + 1) m' zs τ L) ∧ ∀ x H2, J.yld i H' x H2 → g x σ' H2 fun σ3 H3 => ti σ3 H3 fun b H4 => if b = true then te σ3 H4 fun v H5 => N (ys ++ [v]) σ3 H5 else N ys σ3 H4))

section
variable {X : Cx} {tg iter elt : Expr} {ifs : List Expr} {NX N : List Str} {sX sc : Scope} {pick : List (Option Nat)} {wi : TI} {g : TG} {ti : TT} {te : TE} {pos : Pos}
theorem comp_block {pins : List (Addr × Obj)} {σ : St} {H : Hp} {s₂ : Shared} {it : Addr} {fp : List Addr} {tn : Nat → Heap → Prop} {J : It} {Qv : V → Hp → Prop} {E : Value → Shared → Prop} {RR : Value → Addr → Result → Shared → Prop}
    (ck : CompSc NX sX sc N pick) (hN : X.N = NX) (hX : X.env.scope = sX) (hc : X.calm = true)
    (hg : ∀ C s₀ H₀ ex, PG (X.blk sc N C s₀ H₀ ex) tg g) (hifs : ∀ C s₀ H₀ ex, PIfs (X.blk sc N C s₀ H₀ ex) ifs ti) (he : ∀ C s₀ H₀ ex, PE (X.blk sc N C s₀ H₀ ex) elt te)
    (I : Inv X pins σ H s₂) (T : Turn X.prog X.w X.K tg J fp it tn) (st : tn 0 s₂.heap) (hf : ∀ b ∈ fp, FpOk X pins H b)
    (hW : ∃ W : Nat → Nat → List V → St → Hp → Prop, (∃ m, W 0 m [] (pickS pick σ) H) ∧ ∀ i m ys σ' H', W i m ys σ' H' → ys.length ≤ sizeLine ∧
      ((J.stop i H' ∧ ∀ p, H' p = none → Qv (.ref p) (upd H' p (.lst ys))) ∨
       (J.go i H' ∧ ∃ N : List V → St → Hp → Prop, (∀ zs τ L, N zs τ L → ∃ m', m' < m ∧ W (i + 1) m' zs τ L) ∧ ∀ x H2, J.yld i H' x H2 → g x σ' H2 fun σ3 H3 => ti σ3 H3 fun b H4 => if b = true then te σ3 H4 fun v H5 => N (ys ++ [v]) σ3 H5 else N ys σ3 H4)))
    (fin : ∀ (D C : Addr) (s' : Shared) (H' : Hp) (ys : List V) (m : Str → Option Value), D ≠ C → s₂.heap.objs.size ≤ C → H' C = none → s'.heap.Ns C m → Inw X pins σ (upd H' D (.lst ys)) s' → Qv (.ref D) (upd H' D (.lst ys)) → RR (.ref D) C (.ok .next) s') :
    wpAny (model X.prog X.w) X.A (newList []) (fun acc s₃ => wpAny (model X.prog X.w) X.A (newFunctionEnv sc X.env.globals (closOf X.env sc.names []) [] X.env.qual none .none (some X.env)) (fun cenv s₄ =>
      codeAny (model X.prog X.w) X.A (.compStart (.ListComp elt [⟨tg, iter, ifs, 0⟩] sc pos) 0 (.ref it) acc { cenv with scope := relabel sc X.env }) (RR acc cenv.locals) s₄) E s₃) E s₂ := by
  obtain ⟨W, ⟨m0, w0⟩, turn⟩ := hW
  refine wpAny_newObj_type (wpAny_newFunctionEnv ck.nocell (by intro y hy; simp at hy) (fun h₁ hns₁ hsb₁ => ?_) ck.kind)
  dsimp only at hns₁ hsb₁ ⊢
  generalize hH2 : s₂.heap.push { cls := .type "list", dict := none, data := .seq ([] : List Value).toArray } = H2 at hns₁ hsb₁ ⊢
  have hC : H2.objs.size = s₂.heap.objs.size + 1 := by rw [← hH2, Heap.size_push]
  have hDC : s₂.heap.objs.size ≠ H2.objs.size := by rw [hC]; exact Nat.ne_of_lt (Nat.lt_succ_self _)
  have hCle : s₂.heap.objs.size ≤ H2.objs.size := by rw [hC]; exact Nat.le_succ _
  have old : ∀ b o, s₂.heap.get? b = some o → h₁.get? b = some o := fun b o e =>
    hsb₁.extBut b o (Nat.ne_of_lt (Nat.lt_of_lt_of_le (Heap.lt_size e) hCle)) (Heap.get?_push_of_some _ (hH2 ▸ Heap.get?_push_of_some _ e))
  have hacc : h₁.get? s₂.heap.objs.size = some { cls := .type "list", data := .seq ([] : List Value).toArray } := hsb₁.extBut _ _ hDC (Heap.get?_push_of_some _ (hH2 ▸ Heap.get?_push_size _ rfl))
  have hfl : ∀ b ∈ fp, b < s₂.heap.objs.size := fun b hb => by
    obtain ⟨o, e, _⟩ := T.obj 0 _ st b hb
    exact Heap.lt_size e
  have st₁ : tn 0 h₁ := T.keep 0 _ _ st fun b _ o e => old b o e
  generalize hDd : s₂.heap.objs.size = D at *
  generalize hCc : H2.objs.size = C at *
  have loop : ∀ s₃ : Shared, s₃ = { s₂ with heap := h₁, toks := s₂.toks + ([] : List (Str × Value)).length } →
      codeAny (model X.prog X.w) X.A (.compLoop (.ListComp elt [⟨tg, iter, ifs, 0⟩] sc pos) 0 (.ref it) (.ref D) (X.blk sc N C s₂ H fp).env) (RR (.ref D) C) s₃ := by
    rintro s₃ rfl
    have I0 : Inw (X.blk sc N C s₂ H fp) [(D, { cls := .type "list", data := .seq ([] : List Value).toArray })] (pickS pick σ) H { s₂ with heap := h₁, toks := s₂.toks + ([] : List (Str × Value)).length } :=
      blk_inv I ck hN hX hf (fun b hb => by rw [hDd]; exact hfl b hb) old (Nat.le_of_eq hDd) (by rw [hDd]; exact hCle) hDC hacc (fun v z => by cases z) hns₁
    have fpk : ∀ {od : Obj} {H' : Hp}, (∀ b ∈ fp, H' b = none) → ∀ b ∈ fp, FpOk (X.blk sc N C s₂ H fp) [(D, od)] H' b := fun {od H'} hn =>
      blk_fp I ck hX (by rw [hDd]; exact hCle) (Nat.le_of_eq hDd) hf (fun b hb => by rw [hDd]; exact hfl b hb) hn
    refine compLoop_any (fun n s' => ∃ (i : Nat) (ys : List V) (its : List Value) (c : Nat) (σ' : St) (H' : Hp), Inv (X.blk sc N C s₂ H fp) [(D, { cls := .type "list", data := .seq its.toArray c })] σ' H' s' ∧ Vals ys its ∧ tn i s'.heap ∧ (∀ b ∈ fp, H' b = none) ∧ W i n ys σ' H') ?_ m0
      ⟨0, [], [], 0, pickS pick σ, H, ⟨I0, I.pos⟩, .nil, st₁, fun b hb => (hf b hb).1, w0⟩
    rintro n s' ⟨i, ys, its, c, σ', H', I', rv, st', fr, w⟩
    obtain ⟨hlen, tw⟩ := turn i n ys σ' H' w
    rcases tw with ⟨stop, qn⟩ | ⟨go, Nx, hNx, step⟩
    · refine thn (T.done (X.blk sc N C s₂ H fp) rfl rfl rfl hc i _ s' σ' H' _ I' (fpk fr) st' stop) fun r s4 ⟨hr, I4⟩ => ?_
      subst hr
      obtain ⟨m, hn, _⟩ := I4.loc
      obtain ⟨p1, p2, p3, p4, _⟩ := I4.pin (D, _) (List.mem_append_right _ (List.mem_singleton.mpr rfl))
      have Jx : Inw X pins σ H' s4 := I.call' (ch := fp) I4.os I4.base I4.hok I4.bare fun b hb => ⟨(hf b hb).2.2.2.1, (hf b hb).2.1, (hf b hb).2.2.2.2.1, (hf b hb).2.2.2.2.2⟩
      obtain ⟨k0, k1, k2, k3, k4, k5⟩ := I.fpOk (H' := H') (b := D) (Nat.le_of_eq hDd) p2
      have Jt : Inw X pins σ (upd H' D (.lst ys)) s4 := Jx.track p2 k1 (by rw [← hDd]; exact I.sz) k4 k5 ⟨hlen, its, c, rv, p1⟩
      exact fin D C s4 H' ys m hDC hCle I4.free hn Jt (qn D p2)
    · refine thnZ I'.pos (T.item (X.blk sc N C s₂ H fp) rfl rfl rfl hc i _ s' σ' H' _ I' (fpk fr) st' go) fun r s4 z4 ⟨u, hr, h4⟩ => ?_
      subst hr
      refine thnZ z4 h4 fun _ s5 z5 ⟨x, H5, I5, r5, y5, st5, fr5⟩ => ?_
      have I5' : Inv _ _ _ _ s5 := ⟨I5.pinned (fpk fr5) (T.obj _ _ st5), z5⟩
      refine wpAny_tok z5 (wpAny_mono (hg C s₂ H fp _ s5 σ' H5 x u _ I5' r5 (step x H5 y5)) (fun _ s6 ⟨σ6, H6, I6, q6⟩ z6 => ?_) fun _ _ z _ => False.elim z)
      refine wpAny_tok z6 (wpAny_mono (hifs C s₂ H fp _ s6 σ6 H6 _ ⟨I6, z6⟩ q6) (fun b s7 ⟨H7, I7, q7⟩ z7 => ?_) fun _ _ z _ => False.elim z)
      -- what the pins say behind any step
      have keeps : ∀ {σ' : St} {H' : Hp} {s' : Shared}, Inw (X.blk sc N C s₂ H fp) ([(D, { cls := .type "list", data := .seq its.toArray c })] ++ pinsAt fp s5.heap) σ' H' s' →
          (∀ b ∈ fp, ∀ o, s5.heap.get? b = some o → s'.heap.get? b = some o) ∧ (∀ b ∈ fp, H' b = none) := fun {σ' H' s'} Iz =>
        ⟨fun b hb o e => (Iz.pin (b, o) (List.mem_append_right _ (List.mem_append_right _ (mem_pinsAt hb e)))).1, fun b hb => by
          obtain ⟨o, e, d⟩ := T.obj _ _ st5 b hb
          exact (Iz.pin (b, o) (List.mem_append_right _ (List.mem_append_right _ (mem_pinsAt hb e)))).2.1⟩
      cases b with
      | false =>
        rw [if_neg Bool.false_ne_true] at q7 ⊢
        obtain ⟨m', hm, w7⟩ := hNx _ _ _ q7
        obtain ⟨k1, k2⟩ := keeps I7
        exact ⟨m', hm, i + 1, ys, its, c, σ6, H7, ⟨I7.unpinned, z7⟩, rv, T.keep _ _ _ st5 k1, k2, w7⟩
      | true =>
        rw [if_pos rfl] at q7 ⊢
        refine wpAny_tok z7 (wpAny_mono (he C s₂ H fp _ s7 σ6 H7 _ ⟨I7, z7⟩ q7) (fun y s8 ⟨v, H8, I8, r8, q8⟩ z8 => ?_) fun _ _ z _ => False.elim z)
        obtain ⟨m', hm, w8⟩ := hNx _ _ _ q8
        obtain ⟨k1, k2⟩ := keeps I8
        obtain ⟨p1, p2, p3, p4, p5⟩ := I8.pin (D, _) (List.mem_append_right _ (List.mem_append_left _ (List.mem_singleton.mpr rfl)))
        have hsz : its.toArray.size ≤ sizeLine := by
          rw [List.size_toArray, ← rv.length]; exact hlen
        refine wpAny_list_append_plain (hsz := hsz) ⟨c, p1⟩ fun h₉ ⟨c9, e9⟩ hs₉ => ?_
        have J0 : Inw (X.blk sc N C s₂ H fp) [] σ6 H8 s8 := I8.pins_of fun p hp => absurd hp (by simp)
        have J1 : Inw (X.blk sc N C s₂ H fp) [] σ6 H8 { s8 with heap := h₉ } := J0.turned (t' := s8.toks) (it := D) (fun b o hb e => hs₉.extBut b o hb e) p2 p3 (.inr (Nat.le_of_eq hDd)) (fun x c' e z => by
          obtain ⟨v', o', ho', _⟩ := I.cell x c' (blk_cell I ck hX e)
          have := Heap.lt_size ho'
          rw [hDd, z] at this
          exact absurd this (Nat.lt_irrefl _)) (fun p hp => absurd hp (by intro z; cases z))
        have eArr : its.toArray.push y = (its ++ [y]).toArray := by simp
        rw [eArr] at e9
        refine ⟨m', hm, i + 1, ys ++ [v], its ++ [y], c9, σ6, H8, ⟨J1.pins_of fun p hp => ?_, z8⟩, rv.append (.cons r8 .nil), T.keep _ _ _ st5 fun b hb o e => hs₉.extBut b o (Nat.ne_of_lt (hfl b hb)) (k1 b hb o e), k2, w8⟩
        rw [List.mem_singleton] at hp
        subst hp
        exact ⟨e9, p2, p3, p4, fun v z => by cases z⟩
  exact codeAny_compStart_list (loop _ rfl) (T.self X.A 0 _ _ _ st₁ (loop _ rfl))

theorem pe_comp (ck : compOk NX sX sc N pick = true) (hN : X.N = NX) (hX : X.env.scope = sX) (hc : X.calm = true) (hi : PI X tg iter wi)
    (hg : ∀ C s₀ H₀ ex, PG (X.blk sc N C s₀ H₀ ex) tg g) (hifs : ∀ C s₀ H₀ ex, PIfs (X.blk sc N C s₀ H₀ ex) ifs ti) (he : ∀ C s₀ H₀ ex, PE (X.blk sc N C s₀ H₀ ex) elt te)
    (hs : ∀ x, foldedSetIterable iter X.env x = pure x := by intro _; rfl) : PE X (.ListComp elt [⟨tg, iter, ifs, 0⟩] sc pos) (tComp wi pick g ti te) := by
  intro pins s σ H Q I h
  have ck := compSc_of ck
  rw [eval_ListComp]
  refine wpAny_comprehension_free (use := none) (cl := closOf X.env sc.names []) rfl hs (blk_clos I ck hX) ck.kind ck.names (thn (hi pins s σ H _ I h) fun v s1 g1 => ?_)
  refine thnZ g1.pos g1.run fun itv s2 z2 h2 => ?_
  obtain ⟨it, fp, tn, J, H2, e, I2, T, st2, f2, hW⟩ := h2
  subst e
  refine comp_block (Qv := Q) (RR := fun acc C => compPost (model X.prog X.w) X.A X.xe none (EP X pins σ Q) acc C) ck hN hX hc hg hifs he ⟨I2, z2⟩ T st2 f2 hW ?_
  intro D C s' H' ys m hDC hC hCn ns Jt q
  refine ⟨m, ns, fun h' hs' => ?_⟩
  obtain ⟨k0, k1, k2, k3, k4, k5⟩ := I2.fpOk (H' := upd H' D (.lst ys)) (b := C) hC (by rw [upd_ne (Ne.symm hDC)]; exact hCn)
  exact ⟨.ref D, _, Jt.turned (t' := s'.toks) (it := C) (fun b o hb e => hs'.extBut b o hb e) k0 k1 k3 k4 k5, rfl, q⟩

theorem ps_setC {i : Nat} {x : Str} {px spos : Pos} (hNd : X.N.Nodup) (hi' : X.N[i]? = some x) (hx : X.env.scope.names.lookup x = some .local) (ck : compOk NX sX sc N pick = true) (hN : X.N = NX) (hX : X.env.scope = sX) (hc : X.calm = true) (hi : PI X tg iter wi)
    (hg : ∀ C s₀ H₀ ex, PG (X.blk sc N C s₀ H₀ ex) tg g) (hifs : ∀ C s₀ H₀ ex, PIfs (X.blk sc N C s₀ H₀ ex) ifs ti) (he : ∀ C s₀ H₀ ex, PE (X.blk sc N C s₀ H₀ ex) elt te)
    (hsw : swapsWith (.ListComp elt [⟨tg, iter, ifs, 0⟩] sc pos) (some (.Name x px)) spos.line X.env = pure true := by rfl)
    (hs : ∀ x, foldedSetIterable iter X.env x = pure x := by intro _; rfl) : PS X (.Assign [.Name x px] (.ListComp elt [⟨tg, iter, ifs, 0⟩] sc pos) spos) (tAsg (tComp wi pick g ti te) (gName i)) := by
  intro pins s σ H D I h
  have ck := compSc_of ck
  rw [exec_Assign_Name_used _ _ _ _ hsw]
  refine wpAny_bind (wpAny_standAt (wpAny_bind ?_))
  show wpAny _ X.A (do let _ ← comprehension (.ListComp elt [⟨tg, iter, ifs, 0⟩] sc pos) sc X.env _ (newList []) false (eval iter X.env) (some (assign (.Name x px) X.env))) _ _ s
  refine wpAny_bind (wpAny_mono (wpAny_comprehension_free (use := some (assign (.Name x px) X.env)) (cl := closOf X.env sc.names []) (Q := fun _ s' => SP X pins D .next s') rfl hs (blk_clos I ck hX) ck.kind ck.names
    (thn (hi pins s σ H _ I h) fun v s1 g1 => ?_)) (fun _ s' q => ?_) fun _ _ z => z)
  · refine thnZ g1.pos g1.run fun itv s2 z2 h2 => ?_
    obtain ⟨it, fp, tn, J, H2, e, I2, T, st2, f2, hW⟩ := h2
    subst e
    refine comp_block (Qv := fun v H' => D.nx (σ.set i (some v)) H') (RR := fun acc C => compPost (model X.prog X.w) X.A X.xe (some (assign (.Name x px) X.env)) (fun _ s' => SP X pins D .next s') acc C) ck hN hX hc hg hifs he ⟨I2, z2⟩ T st2 f2 hW ?_
    intro D' C s' H' ys m hDC hC hCn ns Jt q
    refine wpAny_assign_Name (store_ok2 (v := .ref D') Jt hNd hi' (.inl hx) rfl (fun s'' J' ⟨a, sb, ha⟩ => ?_) (.inr hx))
    obtain ⟨k0, k1, k2, k3, k4, k5⟩ := I2.fpOk (H' := upd H' D' (.lst ys)) (b := C) hC (by rw [upd_ne (Ne.symm hDC)]; exact hCn)
    have hCa : C ≠ a := by
      rcases ha with z | z
      · rw [z]; exact k1
      · exact fun e => k4 x a z e.symm
    refine ⟨m, ns.sameBut sb hCa, fun h' hs' => ?_⟩
    exact ⟨_, _, J'.turned (t' := s''.toks) (it := C) (fun b o hb e => hs'.extBut b o hb e) k0 k1 k3 k4 k5, q⟩
  · first
      | exact wpAny_pure (wpAny_pure q)
      | exact wpAny_pure q
end

section
variable {g : TG} {ti : TT} {te : TE} {Q : VK} {σ : St} {H : Hp}
theorem comp_list {K : PySem.W.Frag} {a : Addr} {xs : List V} (Pv : Nat → List V → St → Hp → Prop) (h0 : Pv 0 [] σ H) (hl : ∀ i ys σ H, i ≤ xs.length → Pv i ys σ H → SqL K H a xs ∧ ys.length ≤ sizeLine)
    (hs : ∀ i x ys σ H, xs[i]? = some x → Pv i ys σ H → g x σ H fun σ3 H3 => ti σ3 H3 fun b H4 => if b = true then te σ3 H4 fun v H5 => Pv (i + 1) (ys ++ [v]) σ3 H5 else Pv (i + 1) ys σ3 H4)
    (hd : ∀ ys σ H, Pv xs.length ys σ H → ∀ p, H p = none → Q (.ref p) (upd H p (.lst ys))) :
    ∃ W : Nat → Nat → List V → St → Hp → Prop, (∃ m, W 0 m [] σ H) ∧ ∀ i m ys σ' H', W i m ys σ' H' → ys.length ≤ sizeLine ∧
      (((Itl K a).stop i H' ∧ ∀ p, H' p = none → Q (.ref p) (upd H' p (.lst ys))) ∨
       ((Itl K a).go i H' ∧ ∃ N : List V → St → Hp → Prop, (∀ zs τ L, N zs τ L → ∃ m', m' < m ∧ W (i + 1) m' zs τ L) ∧ ∀ x H2, (Itl K a).yld i H' x H2 → g x σ' H2 fun σ3 H3 => ti σ3 H3 fun b H4 => if b = true then te σ3 H4 fun v H5 => N (ys ++ [v]) σ3 H5 else N ys σ3 H4)) := by
  refine ⟨fun i m ys σ H => m = xs.length - i ∧ i ≤ xs.length ∧ Pv i ys σ H, ⟨xs.length, by simp, Nat.zero_le _, h0⟩, ?_⟩
  rintro i m ys σ H ⟨rfl, hi, p⟩
  obtain ⟨q, hz⟩ := hl i ys σ H hi p
  refine ⟨hz, ?_⟩
  by_cases hlt : i < xs.length
  · refine .inr ⟨⟨xs, xs[i], q, by simp [hlt]⟩, Pv (i + 1), fun zs σ' H' p' => ⟨xs.length - (i + 1), by omega, rfl, hlt, p'⟩, fun x H' y => ?_⟩
    obtain ⟨e, y⟩ := y
    subst e
    exact hs i x ys σ _ (y xs q) p
  · have e : i = xs.length := by omega
    subst e
    exact .inl ⟨⟨xs, q, Nat.le_refl _⟩, hd ys σ H p⟩
theorem comp_range {lo : Int} {n : Nat} (Pv : Nat → List V → St → Hp → Prop) (h0 : Pv 0 [] σ H) (hl : ∀ i ys σ H, i ≤ n → Pv i ys σ H → ys.length ≤ sizeLine)
    (hs : ∀ i ys σ H, i < n → Pv i ys σ H → g (.int (lo + i)) σ H fun σ3 H3 => ti σ3 H3 fun b H4 => if b = true then te σ3 H4 fun v H5 => Pv (i + 1) (ys ++ [v]) σ3 H5 else Pv (i + 1) ys σ3 H4)
    (hd : ∀ ys σ H, Pv n ys σ H → ∀ p, H p = none → Q (.ref p) (upd H p (.lst ys))) :
    ∃ W : Nat → Nat → List V → St → Hp → Prop, (∃ m, W 0 m [] σ H) ∧ ∀ i m ys σ' H', W i m ys σ' H' → ys.length ≤ sizeLine ∧
      (((Itr lo n).stop i H' ∧ ∀ p, H' p = none → Q (.ref p) (upd H' p (.lst ys))) ∨
       ((Itr lo n).go i H' ∧ ∃ N : List V → St → Hp → Prop, (∀ zs τ L, N zs τ L → ∃ m', m' < m ∧ W (i + 1) m' zs τ L) ∧ ∀ x H2, (Itr lo n).yld i H' x H2 → g x σ' H2 fun σ3 H3 => ti σ3 H3 fun b H4 => if b = true then te σ3 H4 fun v H5 => N (ys ++ [v]) σ3 H5 else N ys σ3 H4)) := by
  refine ⟨fun i m ys σ H => m = n - i ∧ i ≤ n ∧ Pv i ys σ H, ⟨n, by simp, Nat.zero_le _, h0⟩, ?_⟩
  rintro i m ys σ H ⟨rfl, hi, p⟩
  refine ⟨hl i ys σ H hi p, ?_⟩
  by_cases hlt : i < n
  · refine .inr ⟨hlt, Pv (i + 1), fun zs σ' H' p' => ⟨n - (i + 1), by omega, rfl, hlt, p'⟩, fun x H' y => ?_⟩
    obtain ⟨e, y⟩ := y
    subst e y
    exact hs i ys σ _ hlt p
  · have e : i = n := by omega
    subst e
    exact .inl ⟨Nat.le_refl _, hd ys σ H p⟩
end

end L2

namespace L2
open PySem PySem.Spec PyProof.Rows
def ItrS (lo st : Int) (n : Nat) : It := ⟨fun i _ => i < n, fun i H x H' => H' = H ∧ x = .int (lo + i * st), fun i _ => n ≤ i⟩
section
variable {X : Cx} {tg : Expr}
def iRng3 (ta : TA) : TI := fun σ H R => ta σ H fun vs H1 => ∃ j c : Int, vs = [.int 0, .int j, .int c] ∧ (0 ≤ j ∧ j ≤ 16777216 ∧ 1 ≤ c ∧ c ≤ 1000000) ∧ R (ItrS 0 c ((j + c - 1) / c).toNat) H1
end

def Ite (K : PySem.W.Frag) (a : Addr) : It :=
  ⟨fun i H => ∃ xs x, SqL K H a xs ∧ xs[i]? = some x, fun i H x H' => ∃ (T : Addr) (y : V), H T = none ∧ x = .ref T ∧ H' = upd H T (.tup [.int i, y]) ∧ ∀ xs, SqL K H a xs → xs[i]? = some y, fun i H => ∃ xs, SqL K H a xs ∧ xs.length ≤ i⟩
theorem turn_enum {P : Program} {w : World} {K : PySem.W.Frag} {es : List Expr} {k : Nat} {tp : Pos} (a e it : Addr) (hei : e ≠ it) : Turn P w K (.Tuple es k tp) (Ite K a) [e, it] e (fun i h => (∃ old, IsEnum h e it i old) ∧ h.IsListIter it a i) where
  mem := by simp
  obj := fun i h q b hb => by
    obtain ⟨⟨old, he⟩, o, ho, c, d⟩ := q
    have hb' : b = e ∨ b = it := by simpa using hb
    rcases hb' with z | z
    · subst z
      exact ⟨_, he, fun v z => by
        have z' : Data.fields _ = Data.cell v := z
        cases z'⟩
    · subst z
      exact ⟨o, ho, fun v z => by rw [d] at z; cases z⟩
  keep := fun i h h' q kk => ⟨let ⟨old, he⟩ := q.1; ⟨old, kk e (by simp) _ he⟩, q.2.at fun o x => kk it (by simp) o x⟩
  item := by
    intro X hP hw hK hc i pins s σ H E I hf q hg
    subst hP hw hK
    obtain ⟨xs, x, hq, hx⟩ := hg
    obtain ⟨its, rv, p, hz⟩ := I.list hq
    obtain ⟨u, hu, ru⟩ := rv.get hx
    obtain ⟨⟨old, he⟩, hit⟩ := q
    obtain ⟨f0, f1, f2, f3, f4, f5⟩ := hf e (by simp)
    obtain ⟨g0, g1, g2, g3, g4, g5⟩ := hf it (by simp)
    refine wpAny_pyNext_enum_item he hit p.isList (x := u) (by simpa using hu) hei fun h' ho hit' hT hsz hk => ?_
    refine ⟨_, rfl, wpAny_letOwnedTupleGo_enum ho fun h2 he2 hs2 => ?_⟩
    have helt : e < s.heap.objs.size := Heap.lt_size he
    -- both records have turned, the tuple is new
    have k2 : ∀ b o, b ≠ e → b ≠ it → s.heap.get? b = some o → h2.get? b = some o := fun b o b1 b2 q => hs2.extBut b o b1 (hk b o b1 b2 q)
    have hT2 : h2.get? s.heap.objs.size = some { cls := .type "tuple", data := .seq #[.int i s.toks, u] } := hs2.extBut _ _ (Nat.ne_of_gt helt) hT
    have fn : H s.heap.objs.size = none := I.hok.fresh (Nat.le_refl _)
    have I1 : Inw X pins σ (upd H s.heap.objs.size (.tup [.int i, x])) { s with heap := h2, toks := s.toks + 1 } := by
      obtain ⟨m, ⟨oL, es, ep, hoL, rL⟩, _⟩ := id I.loc
      refine I.step (g' := s.gens) (d' := s.drawn) (ch := [e, it]) (fun b hb => ?_) (fun b o _ _ hcx q _ => k2 b o (fun z => hcx (by simp [z])) (fun z => hcx (by simp [z])) q)
        (fun b o _ _ hcx q _ => ⟨o.slots, k2 b o (fun z => hcx (by simp [z])) (fun z => hcx (by simp [z])) q⟩) (fun b o _ q n => ?_) (fun b o hcx q => ⟨o, k2 b o (fun z => hcx (by simp [z])) (fun z => hcx (by simp [z])) q⟩)
        (fun b ys q => by rw [upd_ne (ne_of_none q fn)]; exact q) (fun b o u q => by rw [upd_ne (ne_of_none q fn)]; exact q) (fun b ps q => ⟨#[], by rw [upd_ne (ne_of_none q fn), q]; simp⟩) (fun m' hm => ?_) (fun b v q => ?_) I.bare
      · have hb' : b = e ∨ b = it := by simpa using hb
        rcases hb' with z | z
        · subst z; exact ⟨f3, f1, f4, f5⟩
        · subst z; exact ⟨g3, g1, g4, g5⟩
      · rw [upd_ne (Nat.ne_of_lt (Heap.lt_size q))]; exact n
      · obtain ⟨o', es', ep', ho', r'⟩ := hm
        exact ⟨o', es', ep', k2 _ _ (Ne.symm f1) (Ne.symm g1) ho', r'⟩
      · by_cases hb : b = s.heap.objs.size
        · subst hb
          rw [upd_same] at q
          cases q
          exact ⟨by show 2 ≤ sizeLine; decide, [.int i s.toks, u], .cons ⟨_, rfl⟩ (.cons ru .nil), _, hT2, rfl, _, rfl⟩
        · rw [upd_ne hb] at q
          refine (I.hok b v q).stay (fun c w hcx r => k2 c w ?_ ?_ r) (fun c r => by rw [upd_ne (ne_of_none r fn)]; exact r) fun c ys r => by rw [upd_ne (ne_of_none r fn)]; exact r
          · intro z; subst z
            rcases hcx with z | z
            · rw [← z, f0] at q; cases q
            · rw [f0] at z; cases z
          · intro z; subst z
            rcases hcx with z | z
            · rw [← z, g0] at q; cases q
            · rw [g0] at z; cases z
    refine ⟨.ref s.heap.objs.size, _, I1, rfl, ⟨_, x, fn, rfl, rfl, fun ys hy => by rw [I.list_inj hy hq]; exact hx⟩, ⟨⟨_, by simpa using he2⟩, hit'.at fun o y => (hs2.2 it hei.symm).trans y⟩, fun b hb => ?_⟩
    have hb' : b = e ∨ b = it := by simpa using hb
    rcases hb' with z | z
    · subst z; rw [upd_ne (Nat.ne_of_lt helt)]; exact f0
    · subst z
      obtain ⟨o, ho', _⟩ := hit
      rw [upd_ne (Nat.ne_of_lt (Heap.lt_size ho'))]; exact g0
  done := by
    intro X hP hw hK hc i pins s σ H E I hf q hg
    subst hP hw hK
    obtain ⟨xs, hq, hx⟩ := hg
    obtain ⟨its, rv, p, hz⟩ := I.list hq
    obtain ⟨⟨old, he⟩, hit⟩ := q
    obtain ⟨g0, g1, g2, g3, g4, g5⟩ := hf it (by simp)
    have hl := rv.length
    exact wpAny_pyNext_enum_end (I.ok.hd hc) he hit p.isList (by simp; omega) fun h' eb => ⟨rfl, I.turned (t' := s.toks) (fun b o hb e => eb b o hb e) g0 g1 g3 g4 g5⟩
  self := fun _ _ _ _ _ q h => let ⟨⟨_, he⟩, _⟩ := q; wpAny_pyIter_enum he h
section
variable {X : Cx} {es : List Expr} {k : Nat} {tp : Pos}
def iEnum (K : PySem.W.Frag) (ta : TA) : TI := fun σ H R => ta σ H fun vs H1 => ∃ a, vs = [.ref a] ∧ (∃ xs, SqL K H1 a xs) ∧ R (Ite K a) H1
theorem boot_enum : bootBuiltins "enumerate" = some (.type "enumerate") := by decide +kernel
theorem pi_enum {a : Expr} {ta : TA} {p pos : Pos} (hg : Gl X "enumerate") (hm : X.mg "enumerate" = none) (ha : PA X [a] ta) (hs : starEach [a] X.env = [(false, eval a X.env)] := by rfl) :
    PI X (.Tuple es k tp) (.Call (.Name "enumerate" p) [a] [] pos) (iEnum X.K ta) := by
  intro pins s σ H R I h
  refine Call_ (ld_blt I hg hm boot_enum (PyProof.Rows.callWith_type1 (thn (ha pos pins s σ H _ I h) fun us s1 ⟨vs, H1, I1, r1, q1⟩ => ?_) hs rfl))
  obtain ⟨a', e, ⟨xs, hq⟩, q⟩ := q1
  subst e
  obtain ⟨u, rfl, ru⟩ := vals1 r1
  cases ru
  obtain ⟨its, rv, pl, hz⟩ := I1.list hq
  refine call_enumerate_list pl.isList fun h' he hit hsz kp => ?_
  refine wpAny_pyIter_enum he ?_
  have I2 : Inw X pins σ H1 { s1 with heap := h' } := I1.kept (t' := s1.toks) kp
  refine ⟨s1.heap.objs.size + 1, [s1.heap.objs.size + 1, s1.heap.objs.size], _, _, H1, rfl, I2, turn_enum a' _ _ (Nat.succ_ne_self _), ⟨⟨_, he⟩, hit⟩, fun b hb => ?_, q⟩
  have hb' : b = s1.heap.objs.size + 1 ∨ b = s1.heap.objs.size := by simpa using hb
  rcases hb' with z | z
  · subst z; exact I1.fpOk (Nat.le_succ _) (I1.hok.fresh (Nat.le_succ _))
  · subst z; exact I1.fpOk (Nat.le_refl _) (I1.hok.fresh (Nat.le_refl _))
theorem for_enum {K : PySem.W.Frag} {a : Addr} {xs : List V} {g : TG} {tb : TS} {D : Ends} {σ : St} {H : Hp} (Pv : Nat → St → Hp → Prop) (h0 : Pv 0 σ H) (hl : ∀ i σ H, i ≤ xs.length → Pv i σ H → SqL K H a xs)
    (hs : ∀ (i : Nat) y T σ H, xs[i]? = some y → Pv i σ H → H T = none → g (.ref T) σ (upd H T (.tup [.int i, y])) fun σ2 H2 => tb { D with nx := Pv (i + 1), ct := Pv (i + 1), bk := D.nx } σ2 H2) (hd : ∀ σ H, Pv xs.length σ H → D.nx σ H) :
    ∃ W : Nat → Nat → St → Hp → Prop, (∃ m, W 0 m σ H) ∧ ∀ i m σ H, W i m σ H →
      ((Ite K a).stop i H ∧ D.nx σ H) ∨ ((Ite K a).go i H ∧ ∃ N : St → Hp → Prop, (∀ σ' H', N σ' H' → ∃ m', m' < m ∧ W (i + 1) m' σ' H') ∧ ∀ x H', (Ite K a).yld i H x H' → g x σ H' fun σ2 H2 => tb { D with nx := N, ct := N, bk := D.nx } σ2 H2) := by
  refine ⟨fun i m σ H => m = xs.length - i ∧ i ≤ xs.length ∧ Pv i σ H, ⟨xs.length, by simp, Nat.zero_le _, h0⟩, ?_⟩
  rintro i m σ H ⟨rfl, hi, p⟩
  have q := hl i σ H hi p
  by_cases hlt : i < xs.length
  · refine .inr ⟨⟨xs, xs[i], q, by simp [hlt]⟩, Pv (i + 1), fun σ' H' p' => ⟨xs.length - (i + 1), by omega, rfl, hlt, p'⟩, fun x H' y => ?_⟩
    obtain ⟨T, y, hT, e1, e2, e3⟩ := y
    subst e1 e2
    exact hs i y T σ H (e3 xs q) p hT
  · have e : i = xs.length := by omega
    subst e
    exact .inl ⟨⟨xs, q, Nat.le_refl _⟩, hd σ H p⟩
end

section
variable {X : Cx}
end

inductive DV where
  | non | bl (b : Bool) | int (i : Int) | str (x : Str) | lst (ds : List DV) | tup (ds : List DV)
mutual
def Deep (K : PySem.W.Frag) (H : Hp) : DV → V → Prop
  | .non, v => v = .non
  | .bl b, v => v = .bl b
  | .int i, v => v = .int i
  | .str x, v => v = .str x
  | .lst ds, v => ∃ a xs, v = .ref a ∧ SqL K H a xs ∧ Deeps K H ds xs
  | .tup ds, v => ∃ a xs, v = .ref a ∧ SqT K H a xs ∧ Deeps K H ds xs
def Deeps (K : PySem.W.Frag) (H : Hp) : List DV → List V → Prop
  | [], xs => xs = []
  | d :: ds, xs => ∃ y ys, xs = y :: ys ∧ Deep K H d y ∧ Deeps K H ds ys
end
theorem Deeps.length {K : PySem.W.Frag} {H : Hp} : ∀ {ds : List DV} {xs : List V}, Deeps K H ds xs → xs.length = ds.length
  | [], xs, h => by rw [Deeps] at h; subst h; rfl
  | d :: ds, xs, h => by rw [Deeps] at h; obtain ⟨y, ys, rfl, _, h⟩ := h; rw [List.length_cons, List.length_cons, Deeps.length h]
mutual
def dep : DV → Nat
  | .lst ds => deps ds + 1
  | .tup ds => deps ds + 1
  | _ => 0
def deps : List DV → Nat
  | [] => 0
  | d :: ds => max (dep d) (deps ds)
end
def stays {K : PySem.W.Frag} {H H' : Hp} : Prop := (∀ a xs, SqL K H a xs → SqL K H' a xs) ∧ ∀ a xs, SqT K H a xs → SqT K H' a xs
theorem Same.tup {K : PySem.W.Frag} {H H' : Hp} {a : Addr} {xs : List V} (e : Same H H') (h : SqT K H a xs) : SqT K H' a xs := by
  rcases h with (h | ⟨o, h⟩) | h
  · exact .inl (.inl (e _ _ h))
  · exact .inl (.inr ⟨o, e _ _ h⟩)
  · exact .inr h
mutual
theorem Deep.same {K : PySem.W.Frag} {H H' : Hp} (e : Same H H') : ∀ (d : DV) (v : V), Deep K H d v → Deep K H' d v
  | .non, v, h => by rw [Deep] at h ⊢; exact h
  | .bl b, v, h => by rw [Deep] at h ⊢; exact h
  | .int i, v, h => by rw [Deep] at h ⊢; exact h
  | .str x, v, h => by rw [Deep] at h ⊢; exact h
  | .lst ds, v, h => by rw [Deep] at h ⊢; obtain ⟨a, xs, r, q, t⟩ := h; exact ⟨a, xs, r, e.seq q, Deeps.same e ds xs t⟩
  | .tup ds, v, h => by rw [Deep] at h ⊢; obtain ⟨a, xs, r, q, t⟩ := h; exact ⟨a, xs, r, e.tup q, Deeps.same e ds xs t⟩
theorem Deeps.same {K : PySem.W.Frag} {H H' : Hp} (e : Same H H') : ∀ (ds : List DV) (xs : List V), Deeps K H ds xs → Deeps K H' ds xs
  | [], xs, h => by rw [Deeps] at h ⊢; exact h
  | d :: ds, xs, h => by rw [Deeps] at h ⊢; obtain ⟨y, ys, r, q, t⟩ := h; exact ⟨y, ys, r, Deep.same e d y q, Deeps.same e ds ys t⟩
end
/- the same data is equal -/
theorem all_yes : ∀ l : List Nat, (l.all fun _ => true) = true
  | [] => rfl
  | _ :: r => by rw [List.all_cons, all_yes r]; rfl
mutual
theorem eqAt_deep {X : Cx} {pins : List (Addr × Obj)} {σ : St} {H : Hp} {s : Shared} (I : Inv X pins σ H s) : ∀ (d : DV) (x y : V) (u v : Value) (A : Around), Deep X.K H d x → Deep X.K H d y → RelV x u → RelV y v → A.units + dep d < cLine → SeqAt.EqAt A s u v true
  | .non, x, y, u, v, A, hx, hy, rx, ry, hu => by
    rw [Deep] at hx hy; subst hx hy; cases rx; cases ry; exact SeqAt.EqAt.same _
  | .bl b, x, y, u, v, A, hx, hy, rx, ry, hu => by
    rw [Deep] at hx hy; subst hx hy; cases rx; cases ry; exact SeqAt.EqAt.same _
  | .int i, x, y, u, v, A, hx, hy, rx, ry, hu => by
    rw [Deep] at hx hy; subst hx hy; obtain ⟨t, rfl⟩ := rx; obtain ⟨t', rfl⟩ := ry
    have := SeqAt.EqAt.int_int (A := A) (s := s) i t i t'
    simpa using this
  | .str z, x, y, u, v, A, hx, hy, rx, ry, hu => by
    rw [Deep] at hx hy; subst hx hy; obtain ⟨t, rfl⟩ := rx; obtain ⟨t', rfl⟩ := ry
    have := SeqAt.EqAt.str_str (A := A) (s := s) z t z t'
    simpa using this
  | .lst ds, x, y, u, v, A, hx, hy, rx, ry, hu => by
    rw [Deep] at hx hy
    obtain ⟨a, xs, rfl, hq, hd⟩ := hx
    obtain ⟨b, ys, rfl, hq', hd'⟩ := hy
    cases rx; cases ry
    by_cases hab : a = b
    · subst hab; exact SeqAt.EqAt.same _
    · obtain ⟨its, r, pl, hz⟩ := I.list hq
      obtain ⟨its', r', pl', hz'⟩ := I.list hq'
      have l1 := r.length; have l2 := r'.length; have l3 := hd.length; have l4 := hd'.length
      have hu' : A.units + (deps ds + 1) < cLine := hu
      have q := SeqAt.RcAt.lists (A := A) (e := fun _ => true) pl.isList pl'.isList (by simp only [List.size_toArray]; omega) (by omega) fun j h1 h2 => by
        have := eqsAt_deep I ds xs ys its its' A.in1 hd hd' r r' (by rw [Around.in1_units]; omega) j (by simpa using h1) (by simpa using h2)
        simpa using this
      refine SeqAt.EqAt.of_refs hab ?_
      rw [all_yes] at q
      exact q
  | .tup ds, x, y, u, v, A, hx, hy, rx, ry, hu => by
    rw [Deep] at hx hy
    obtain ⟨a, xs, rfl, hq, hd⟩ := hx
    obtain ⟨b, ys, rfl, hq', hd'⟩ := hy
    cases rx; cases ry
    by_cases hab : a = b
    · subst hab; exact SeqAt.EqAt.same _
    · obtain ⟨its, r, pl, hz⟩ := I.tuple hq
      obtain ⟨its', r', pl', hz'⟩ := I.tuple hq'
      have l1 := r.length; have l2 := r'.length; have l3 := hd.length; have l4 := hd'.length
      have hu' : A.units + (deps ds + 1) < cLine := hu
      have q := SeqAt.RcAt.tuples (A := A) (e := fun _ => true) pl pl' (by omega) fun j h1 h2 => by
        have := eqsAt_deep I ds xs ys its its' A.in1 hd hd' r r' (by rw [Around.in1_units]; omega) j (by simpa using h1) (by simpa using h2)
        simpa using this
      refine SeqAt.EqAt.of_refs hab ?_
      have e : its.length = its'.length := by omega
      rw [all_yes] at q
      simpa [e] using q
theorem eqsAt_deep {X : Cx} {pins : List (Addr × Obj)} {σ : St} {H : Hp} {s : Shared} (I : Inv X pins σ H s) : ∀ (ds : List DV) (xs ys : List V) (us vs : List Value) (A : Around), Deeps X.K H ds xs → Deeps X.K H ds ys → Vals xs us → Vals ys vs → A.units + deps ds < cLine →
    ∀ (j : Nat) (h1 : j < us.length) (h2 : j < vs.length), SeqAt.EqAt A s us[j] vs[j] true
  | [], xs, ys, us, vs, A, hx, hy, rx, ry, hu, j, h1, h2 => by
    rw [Deeps] at hx; subst hx; cases rx; exact absurd h1 (Nat.not_lt_zero _)
  | d :: ds, xs, ys, us, vs, A, hx, hy, rx, ry, hu, j, h1, h2 => by
    rw [Deeps] at hx hy
    obtain ⟨x, xs, rfl, dx, hx⟩ := hx
    obtain ⟨y, ys, rfl, dy, hy⟩ := hy
    cases rx with
    | cons rx rxs =>
      cases ry with
      | cons ry rys =>
        have hu' : A.units + max (dep d) (deps ds) < cLine := hu
        cases j with
        | zero => exact eqAt_deep I d x y _ _ A dx dy rx ry (by omega)
        | succ j => exact eqsAt_deep I ds xs ys _ _ A hx hy rxs rys (by omega) j (by simpa using h1) (by simpa using h2)
end
section
variable {X : Cx}
theorem op_eqD {k : Nat} (hr : Room k X.A) : OpR X (compareOp .Eq) (fun x y H Q => ∃ d ds, (d = .lst ds ∨ d = .tup ds) ∧ dep d ≤ 60 ∧ Deep X.K H d x ∧ Deep X.K H d y ∧ Q (.bl true) H) := by
  intro pins s σ H x y v u Q I rx ry h
  obtain ⟨d, ds, hd, hdp, dx, dy, q⟩ := h
  have hcl : X.A.units + 64 < cLine := hr.units
  rcases hd with rfl | rfl
  · rw [Deep] at dx dy
    obtain ⟨a, xs, rfl, hq, hd⟩ := dx
    obtain ⟨b, ys, rfl, hq', hd'⟩ := dy
    cases rx; cases ry
    obtain ⟨its, r, pl, hz⟩ := I.list hq
    obtain ⟨its', r', pl', hz'⟩ := I.list hq'
    have l1 := r.length; have l2 := r'.length; have l3 := hd.length; have l4 := hd'.length
    have hdp' : deps ds + 1 ≤ 60 := hdp
    refine SeqAt.eq_listAt (e := fun _ => true) pl.isList pl'.isList (by simp only [List.size_toArray]; omega) (by omega) (fun j h1 h2 => ?_) ⟨.bl true, H, I, ?_, q⟩
    · have := eqsAt_deep I ds xs ys its its' X.A.in1 hd hd' r r' (by rw [Around.in1_units]; omega) j (by simpa using h1) (by simpa using h2)
      simpa using this
    · show Value.bool _ = Value.bool true
      rw [all_yes]
  · rw [Deep] at dx dy
    obtain ⟨a, xs, rfl, hq, hd⟩ := dx
    obtain ⟨b, ys, rfl, hq', hd'⟩ := dy
    cases rx; cases ry
    obtain ⟨its, r, pl, hz⟩ := I.tuple hq
    obtain ⟨its', r', pl', hz'⟩ := I.tuple hq'
    have l1 := r.length; have l2 := r'.length; have l3 := hd.length; have l4 := hd'.length
    have hdp' : deps ds + 1 ≤ 60 := hdp
    have e : its.length = its'.length := by omega
    refine SeqAt.eq_tupleAt (e := fun _ => true) pl pl' (by omega) (fun j h1 h2 => ?_) ⟨.bl true, H, I, ?_, q⟩
    · have := eqsAt_deep I ds xs ys its its' X.A.in1 hd hd' r r' (by rw [Around.in1_units]; omega) j (by simpa using h1) (by simpa using h2)
      simpa using this
    · show Value.bool _ = Value.bool true
      rw [all_yes]
      simp [e]
end

theorem Deeps.get {K : PySem.W.Frag} {H : Hp} : ∀ {ds : List DV} {xs : List V} {i : Nat} {x : V}, Deeps K H ds xs → xs[i]? = some x → ∃ d, ds[i]? = some d ∧ Deep K H d x
  | [], xs, i, x, h, e => by rw [Deeps] at h; subst h; simp at e
  | d :: ds, xs, 0, x, h, e => by
    rw [Deeps] at h; obtain ⟨y, ys, rfl, q, t⟩ := h
    simp at e; subst e; exact ⟨d, rfl, q⟩
  | d :: ds, xs, i + 1, x, h, e => by
    rw [Deeps] at h; obtain ⟨y, ys, rfl, q, t⟩ := h
    obtain ⟨d', e1, e2⟩ := Deeps.get (i := i) t (by simpa using e)
    exact ⟨d', by simpa using e1, e2⟩
theorem Deeps.get' {K : PySem.W.Frag} {H : Hp} {ds : List DV} {xs : List V} {i : Nat} {d : DV} (h : Deeps K H ds xs) (e : ds[i]? = some d) : ∃ x, xs[i]? = some x ∧ Deep K H d x := by
  have hl := h.length
  have hi : i < xs.length := by rw [hl]; exact (List.getElem?_eq_some_iff.mp e).1
  obtain ⟨d', e1, e2⟩ := h.get (List.getElem?_eq_getElem hi)
  rw [e] at e1; cases e1
  exact ⟨_, List.getElem?_eq_getElem hi, e2⟩
theorem Deeps.app {K : PySem.W.Frag} {H : Hp} : ∀ {ds es : List DV} {xs ys : List V}, Deeps K H ds xs → Deeps K H es ys → Deeps K H (ds ++ es) (xs ++ ys)
  | [], es, xs, ys, h, q => by rw [Deeps] at h; subst h; exact q
  | d :: ds, es, xs, ys, h, q => by
    rw [Deeps] at h; obtain ⟨y, zs, rfl, r, t⟩ := h
    show Deeps K H (d :: (ds ++ es)) _
    rw [Deeps]
    exact ⟨y, zs ++ ys, rfl, r, Deeps.app t q⟩
theorem Deeps.one {K : PySem.W.Frag} {H : Hp} {d : DV} {x : V} (h : Deep K H d x) : Deeps K H [d] [x] := by
  rw [Deeps]; exact ⟨x, [], rfl, h, by rw [Deeps]⟩
theorem Deeps.nil {K : PySem.W.Frag} {H : Hp} : Deeps K H [] [] := by rw [Deeps]
theorem Deeps.take {K : PySem.W.Frag} {H : Hp} : ∀ {ds : List DV} {xs : List V} (n : Nat), Deeps K H ds xs → Deeps K H (ds.take n) (xs.take n)
  | ds, xs, 0, _ => by simp [Deeps]
  | [], xs, n + 1, h => by rw [Deeps] at h; subst h; simp [Deeps]
  | d :: ds, xs, n + 1, h => by
    rw [Deeps] at h; obtain ⟨y, zs, rfl, r, t⟩ := h
    rw [List.take_succ_cons, List.take_succ_cons, Deeps]
    exact ⟨y, _, rfl, r, Deeps.take n t⟩
theorem Deeps.drop {K : PySem.W.Frag} {H : Hp} : ∀ {ds : List DV} {xs : List V} (n : Nat), Deeps K H ds xs → Deeps K H (ds.drop n) (xs.drop n)
  | ds, xs, 0, h => by simpa using h
  | [], xs, n + 1, h => by rw [Deeps] at h; subst h; simp [Deeps]
  | d :: ds, xs, n + 1, h => by
    rw [Deeps] at h; obtain ⟨y, zs, rfl, r, t⟩ := h
    rw [List.drop_succ_cons, List.drop_succ_cons]
    exact Deeps.drop n t
theorem Deeps.set {K : PySem.W.Frag} {H : Hp} {d : DV} {x : V} (q : Deep K H d x) : ∀ {ds : List DV} {xs : List V} (n : Nat), Deeps K H ds xs → Deeps K H (ds.set n d) (xs.set n x)
  | [], xs, n, h => by rw [Deeps] at h; subst h; simp [Deeps]
  | e :: ds, xs, 0, h => by
    rw [Deeps] at h; obtain ⟨y, zs, rfl, r, t⟩ := h
    rw [List.set_cons_zero, List.set_cons_zero, Deeps]
    exact ⟨x, _, rfl, q, t⟩
  | e :: ds, xs, n + 1, h => by
    rw [Deeps] at h; obtain ⟨y, zs, rfl, r, t⟩ := h
    rw [List.set_cons_succ, List.set_cons_succ, Deeps]
    exact ⟨y, _, rfl, r, Deeps.set q n t⟩
theorem Deeps.ints {K : PySem.W.Frag} {H : Hp} : ∀ (ns : List Int), Deeps K H (ns.map DV.int) (ns.map V.int)
  | [] => by simp [Deeps]
  | n :: r => by
    rw [List.map_cons, List.map_cons, Deeps]
    exact ⟨_, _, rfl, by rw [Deep], Deeps.ints r⟩
/- no list within -/
mutual
def noLst : DV → Bool
  | .lst _ => false
  | .tup ds => noLsts ds
  | _ => true
def noLsts : List DV → Bool
  | [] => true
  | d :: ds => noLst d && noLsts ds
end
theorem SqT.upd {K : PySem.W.Frag} {H : Hp} {a p : Addr} {xs ys : List V} {o : HO} (hp : H p = some (.lst ys)) (h : SqT K H a xs) : SqT K (upd H p o) a xs := by
  rcases h with (h | ⟨o', h⟩) | h
  · exact .inl (.inl (by rw [upd_ne (ne_of h hp (by intro z; cases z))]; exact h))
  · exact .inl (.inr ⟨o', by rw [upd_ne (ne_of h hp (by intro z; cases z))]; exact h⟩)
  · exact .inr h
mutual
theorem Deep.updL {K : PySem.W.Frag} {H : Hp} {p : Addr} {ys : List V} {o : HO} (hp : H p = some (.lst ys)) : ∀ (d : DV) (v : V), noLst d = true → Deep K H d v → Deep K (L2.upd H p o) d v
  | .non, v, _, h => by rw [Deep] at h ⊢; exact h
  | .bl b, v, _, h => by rw [Deep] at h ⊢; exact h
  | .int i, v, _, h => by rw [Deep] at h ⊢; exact h
  | .str x, v, _, h => by rw [Deep] at h ⊢; exact h
  | .lst ds, v, n, h => by rw [noLst] at n; cases n
  | .tup ds, v, n, h => by
    rw [noLst] at n
    rw [Deep] at h ⊢
    obtain ⟨a, xs, r, q, t⟩ := h
    exact ⟨a, xs, r, q.upd hp, Deeps.updL hp ds xs n t⟩
theorem Deeps.updL {K : PySem.W.Frag} {H : Hp} {p : Addr} {ys : List V} {o : HO} (hp : H p = some (.lst ys)) : ∀ (ds : List DV) (xs : List V), noLsts ds = true → Deeps K H ds xs → Deeps K (L2.upd H p o) ds xs
  | [], xs, _, h => by rw [Deeps] at h ⊢; exact h
  | d :: ds, xs, n, h => by
    rw [noLsts, Bool.and_eq_true] at n
    rw [Deeps] at h ⊢
    obtain ⟨y, ys, r, q, t⟩ := h
    exact ⟨y, ys, r, Deep.updL hp d y n.1 q, Deeps.updL hp ds ys n.2 t⟩
end
theorem same_new {H : Hp} {p : Addr} (h : H p = none) (o : HO) : Same H (upd H p o) := fun b u q => by rw [upd_ne (ne_of_none q h)]; exact q
theorem Same.newer {H H' : Hp} {p : Addr} (e : Same H H') (h : H p = none) (o : HO) : Same H (upd H' p o) := fun b u q => by rw [upd_ne (ne_of_none q h)]; exact e b u q
theorem small {n : Nat} (h : n ≤ 1000) : n ≤ sizeLine := Nat.le_of_lt (small1000 h)
theorem atI_of {α : Type} {xs : List α} {k : Int} (h0 : 0 ≤ k) (h : k < (xs.length : Int)) : ∃ v, atI xs k = some v ∧ xs[k.toNat]? = some v := by
  have hk : k.toNat < xs.length := by omega
  have ek : k = ((k.toNat : Nat) : Int) := by omega
  refine ⟨xs[k.toNat], ?_, List.getElem?_eq_getElem hk⟩
  have q : atI xs ((k.toNat : Nat) : Int) = some xs[k.toNat] := atI_nat (List.getElem?_eq_getElem hk)
  rw [← ek] at q
  exact q

section
variable {X : Cx}
theorem ixL (K : PySem.W.Frag) (h : X.K = K := by rfl) : IxR X (rIxL K) := by subst h; exact ix_list
theorem ixT (K : PySem.W.Frag) (h : X.K = K := by rfl) : IxR X (rIxT K) := by subst h; exact ix_tup
theorem slL (K : PySem.W.Frag) (h : X.K = K := by rfl) : SlR X (rSlL K) := by subst h; exact sl_list
theorem lenK (K : PySem.W.Frag) (h : X.K = K := by rfl) : CallR X (.builtin "len") (fun xs H Q => ∃ p ys, xs = [.ref p] ∧ (SqL K H p ys ∨ SqT K H p ys) ∧ Q (.int ys.length) H) := by subst h; exact call_len_seq
theorem pgT (K : PySem.W.Frag) {es : List Expr} {k : Nat} {t : TGs} {n : Nat} {pos : Pos} (hc : X.calm = true) (h : PGs X es t) (hK : X.K = K := by rfl)
    (hn : (assignEach es X.env).length = n := by rfl) (hst : (assignEach es X.env).findIdx? (·.1) = none := by rfl) : PG X (.Tuple es k pos) (gTup K n t) := by subst hK; exact pg_tup hc h hn hst
theorem inK (K : PySem.W.Frag) (h : X.K = K := by rfl) : OpR X (compareOp .In) (rIn K false) := by subst h; exact op_in_seq
theorem pi_listK (K : PySem.W.Frag) {tg l : Expr} {tl : TE} (hl : PE X l tl) (h : X.K = K := by rfl) : PI X tg l (iList K tl) := by subst h; exact pi_list hl
variable {o e : Expr} {es : List Expr} {to : TE} {t : TA} {name : Str} {apos cpos : Pos} {T id : String} {r : V → List V → Hp → VK → Prop}
theorem bm0K (K : PySem.W.Frag) (pa : PlainAttrs T) (slot : Slot T name id) (hty : typeOf (.builtin id) = pure (.type "method_descriptor")) (hm : MtR X id r) (ho : PE X o to) (h : X.K = K := by rfl)
    (hbase : attributeBase o name X.env (eval o X.env) = eval o X.env := by rfl) (hline : (apos.endLine == cpos.line) = true := by rfl) : PE X (.Call (.Attribute o name apos) [] [] cpos) (tBM0 K T r to) := by subst h; exact pe_bm0 pa slot hty hm ho hbase hline
theorem bmK (K : PySem.W.Frag) (pa : PlainAttrs T) (slot : Slot T name id) (hty : typeOf (.builtin id) = pure (.type "method_descriptor")) (hm : MtR X id r) (ho : PE X o to) (ha : PA X (e :: es) t) (h : X.K = K := by rfl)
    (hbase : attributeBase o name X.env (eval o X.env) = eval o X.env := by rfl)
    (hfew : ((backTo cpos (starEach (e :: es) X.env)).all (fun x => !x.1) && (backToKw cpos (keywordEach [] X.env)).all (fun x => x.1.isSome)
      && decide ((e :: es).length + ([] : List Keyword).length + (if ([] : List Keyword).isEmpty then 0 else 1) < 30)) = true := by rfl)
    (hline : (apos.endLine == cpos.line) = true := by rfl) (hs : starEach (e :: es) X.env = (false, eval e X.env) :: starEach es X.env := by rfl) (hplain : (backTo cpos (starEach es X.env)).any (·.1) = false := by rfl) :
    PE X (.Call (.Attribute o name apos) (e :: es) [] cpos) (tBM K T r to t) := by subst h; exact pe_bm pa slot hty hm ho ha hbase hfew hline hs hplain
end

def ForW (g : TG) (tb : TS) (D : Ends) (σ : St) (J : It) (H1 : Hp) : Prop := ∃ W : Nat → Nat → St → Hp → Prop, (∃ m, W 0 m σ H1) ∧ ∀ i m σ H, W i m σ H →
  (J.stop i H ∧ D.nx σ H) ∨ (J.go i H ∧ ∃ N : St → Hp → Prop, (∀ σ' H', N σ' H' → ∃ m', m' < m ∧ W (i + 1) m' σ' H') ∧ ∀ x H', J.yld i H x H' → g x σ H' fun σ2 H2 => tb { D with nx := N, ct := N, bk := D.nx } σ2 H2)
theorem tFor_eq (wi : TI) (g : TG) (tb : TS) (D : Ends) (σ : St) (H : Hp) : tFor wi g tb D σ H = wi σ H fun J H1 => ForW g tb D σ J H1 := rfl
def CompW (pick : List (Option Nat)) (g : TG) (ti : TT) (te : TE) (Q : VK) (σ : St) (J : It) (H1 : Hp) : Prop := ∃ W : Nat → Nat → List V → St → Hp → Prop, (∃ m, W 0 m [] (pickS pick σ) H1) ∧ ∀ i m ys σ' H', W i m ys σ' H' → ys.length ≤ sizeLine ∧
  ((J.stop i H' ∧ ∀ p, H' p = none → Q (.ref p) (upd H' p (.lst ys))) ∨
   (J.go i H' ∧ ∃ N : List V → St → Hp → Prop, (∀ zs τ L, N zs τ L → ∃ m', m' < m ∧ W (i + 1) m' zs τ L) ∧ ∀ x H2, J.yld i H' x H2 → g x σ' H2 fun σ3 H3 => ti σ3 H3 fun b H4 => if b = true then te σ3 H4 fun v H5 => N (ys ++ [v]) σ3 H5 else N ys σ3 H4))
theorem tComp_eq (wi : TI) (pick : List (Option Nat)) (g : TG) (ti : TT) (te : TE) (σ : St) (H : Hp) (Q : VK) : tComp wi pick g ti te σ H Q = wi σ H fun J H1 => CompW pick g ti te Q σ J H1 := rfl
def WhileW (c : TT) (tb : TS) (D : Ends) (σ : St) (H : Hp) : Prop := tWhile c tb D σ H
theorem tWhile_eq (c : TT) (tb : TS) (D : Ends) (σ : St) (H : Hp) : tWhile c tb D σ H = WhileW c tb D σ H := rfl

def hide (p : Addr) (H : Hp) : Hp := fun b => if b = p then none else H b
theorem hide_same (p : Addr) (H : Hp) : Same (hide p H) H := fun b o e => by
  unfold hide at e
  split at e
  · cases e
  · exact e
theorem hide_at (p : Addr) (H : Hp) : hide p H p = none := by unfold hide; rw [if_pos rfl]
theorem hide_ne {p b : Addr} {H : Hp} (h : b ≠ p) : hide p H b = H b := by unfold hide; rw [if_neg h]
theorem hide_upd (p : Addr) (H : Hp) (o : HO) : hide p (upd H p o) = hide p H := by
  funext b
  unfold hide
  split
  · rfl
  · rename_i h; rw [upd_ne h]
theorem hide_mono {p : Addr} {H H' : Hp} (e : Same H H') : Same (hide p H) (hide p H') := fun b o q => by
  have hb : b ≠ p := fun z => by subst z; rw [hide_at] at q; cases q
  rw [hide_ne hb] at q ⊢
  exact e b o q
theorem upd_at {H : Hp} {p q : Addr} {o u : HO} (h : H q = some u) (hp : H p = none) : upd H p o q = some u := by rw [upd_ne (ne_of_none h hp)]; exact h
theorem atI_ints {ns : List Int} {k : Int} (h0 : 0 ≤ k) (h : k < (ns.length : Int)) : ∃ v, atI (ns.map V.int) k = some (.int v) := by
  obtain ⟨v, hv, hv'⟩ := atI_of (xs := ns.map V.int) h0 (by rw [List.length_map]; exact h)
  rw [List.getElem?_map] at hv'
  cases e : ns[k.toNat]? with
  | none => rw [e] at hv'; cases hv'
  | some z =>
    rw [e] at hv'
    have : v = V.int z := (Option.some.inj hv').symm
    subst this
    exact ⟨z, hv⟩
section
variable {g : TG} {ti : TT} {te : TE} {Q : VK} {σ : St} {H : Hp} {pick : List (Option Nat)} {tb : TS} {D : Ends} {K : PySem.W.Frag} {a : Addr} {xs : List V}
theorem compW_list (xs : List V) (Pv : Nat → List V → St → Hp → Prop) (h0 : Pv 0 [] (pickS pick σ) H) (hl : ∀ i ys σ H, i ≤ xs.length → Pv i ys σ H → SqL K H a xs ∧ ys.length ≤ sizeLine)
    (hs : ∀ i x ys σ H, xs[i]? = some x → Pv i ys σ H → g x σ H fun σ3 H3 => ti σ3 H3 fun b H4 => if b = true then te σ3 H4 fun v H5 => Pv (i + 1) (ys ++ [v]) σ3 H5 else Pv (i + 1) ys σ3 H4)
    (hd : ∀ ys σ H, Pv xs.length ys σ H → ∀ p, H p = none → Q (.ref p) (upd H p (.lst ys))) : CompW pick g ti te Q σ (Itl K a) H := comp_list Pv h0 hl hs hd
theorem compW_range {lo : Int} {n : Nat} (Pv : Nat → List V → St → Hp → Prop) (h0 : Pv 0 [] (pickS pick σ) H) (hl : ∀ i ys σ H, i ≤ n → Pv i ys σ H → ys.length ≤ sizeLine)
    (hs : ∀ i ys σ H, i < n → Pv i ys σ H → g (.int (lo + i)) σ H fun σ3 H3 => ti σ3 H3 fun b H4 => if b = true then te σ3 H4 fun v H5 => Pv (i + 1) (ys ++ [v]) σ3 H5 else Pv (i + 1) ys σ3 H4)
    (hd : ∀ ys σ H, Pv n ys σ H → ∀ p, H p = none → Q (.ref p) (upd H p (.lst ys))) : CompW pick g ti te Q σ (Itr lo n) H := comp_range Pv h0 hl hs hd
theorem forW_list (xs : List V) (Pv : Nat → St → Hp → Prop) (h0 : Pv 0 σ H) (hl : ∀ i σ H, i ≤ xs.length → Pv i σ H → SqL K H a xs)
    (hs : ∀ i x σ H, xs[i]? = some x → Pv i σ H → g x σ H fun σ2 H2 => tb { D with nx := Pv (i + 1), ct := Pv (i + 1), bk := D.nx } σ2 H2) (hd : ∀ σ H, Pv xs.length σ H → D.nx σ H) : ForW g tb D σ (Itl K a) H := for_list Pv h0 hl hs hd
theorem forW_enum (xs : List V) (Pv : Nat → St → Hp → Prop) (h0 : Pv 0 σ H) (hl : ∀ i σ H, i ≤ xs.length → Pv i σ H → SqL K H a xs)
    (hs : ∀ (i : Nat) y T σ H, xs[i]? = some y → Pv i σ H → H T = none → g (.ref T) σ (upd H T (.tup [.int i, y])) fun σ2 H2 => tb { D with nx := Pv (i + 1), ct := Pv (i + 1), bk := D.nx } σ2 H2) (hd : ∀ σ H, Pv xs.length σ H → D.nx σ H) : ForW g tb D σ (Ite K a) H := for_enum Pv h0 hl hs hd
theorem forW_range {lo : Int} {n : Nat} (Pv : Nat → St → Hp → Prop) (h0 : Pv 0 σ H) (hs : ∀ i σ H, i < n → Pv i σ H → g (.int (lo + i)) σ H fun σ2 H2 => tb { D with nx := Pv (i + 1), ct := Pv (i + 1), bk := D.nx } σ2 H2) (hd : ∀ σ H, Pv n σ H → D.nx σ H) :
    ForW g tb D σ (Itr lo n) H := for_range Pv h0 hs hd
end
theorem deps_le {n : Nat} : ∀ {ds : List DV}, (∀ d ∈ ds, dep d ≤ n) → deps ds ≤ n
  | [], _ => by rw [deps]; exact Nat.zero_le _
  | d :: ds, h => by
    rw [deps]
    exact Nat.max_le.mpr ⟨h d List.mem_cons_self, deps_le fun e he => h e (List.mem_cons_of_mem _ he)⟩

end L2

namespace L2
open PySem PySem.Spec PyProof.Rows
abbrev Str.cs (x : Str) : List Nat := x.cps.toList
def cutL {α : Type} (xs : List α) (lo hi : Option Int) : List α := (xs.drop (HT.sIx xs.length 0 lo)).take (HT.sIx xs.length xs.length hi - HT.sIx xs.length 0 lo)
theorem cutL_nat {α : Type} (xs : List α) {j k : Nat} (h : j ≤ k) : cutL xs (some (j : Int)) (some (k : Int)) = (xs.drop j).take (k - j) := by
  unfold cutL
  rw [HT.sIx_nat, HT.sIx_nat]
  apply List.ext_getElem?
  intro i
  rw [List.getElem?_take, List.getElem?_take, List.getElem?_drop, List.getElem?_drop]
  by_cases h1 : i < k - j
  · rw [if_pos h1]
    by_cases h2 : j + i < xs.length
    · rw [if_pos (by omega)]
      congr 1
      omega
    · rw [if_neg (by omega), List.getElem?_eq_none (by omega)]
  · rw [if_neg h1, if_neg (by omega)]
theorem strIdx_gen (lo hi : Option Int) (n : Nat) : Builtin.Str.strSliceIndices lo hi 1 n = Builtin.Str.strSliceIndices (some ((HT.sIx n 0 lo : Nat) : Int)) (some ((HT.sIx n n hi : Nat) : Int)) 1 n := by
  have clipS : ∀ (v : Int) (d : Nat), max 0 (min (if v < 0 then v + (n : Int) else v) (n : Int)) = ((HT.sIx n d (some v) : Nat) : Int) := fun v d => by
    show max 0 (min (if v < 0 then v + (n : Int) else v) (n : Int)) = (((if v < 0 then (v + (n : Int)).toNat else min v.toNat n) : Nat) : Int)
    by_cases hv : v < 0
    · simp only [if_pos hv]; omega
    · simp only [if_neg hv]; omega
  have clipN : ∀ k : Nat, k ≤ n → max 0 (min (if (k : Int) < 0 then (k : Int) + (n : Int) else (k : Int)) (n : Int)) = (k : Int) := fun k hk => by
    rw [if_neg (by omega)]; omega
  have h1 : (1 : Int) > 0 := by omega
  have l1 := HT.sIx_le n 0 (Nat.zero_le _) lo
  have l2 := HT.sIx_le n n (Nat.le_refl _) hi
  unfold Builtin.Str.strSliceIndices
  simp only [h1, if_true]
  rw [clipN _ l1, clipN _ l2]
  cases lo with
  | none =>
    cases hi with
    | none => rfl
    | some u => dsimp only; rw [clipS u n]; rfl
  | some v =>
    cases hi with
    | none => dsimp only; rw [clipS v 0]; rfl
    | some u => dsimp only; rw [clipS v 0, clipS u n]
theorem sliceText_gen (x : Str) (lo hi : Option Int) : StrLaws.sliceText x lo hi = ⟨(cutL x.cps.toList lo hi).toArray⟩ := by
  have hn : x.cps.toList.length = x.length := by simp [Str.length]
  unfold cutL
  rw [hn]
  have l1 := HT.sIx_le x.length 0 (Nat.zero_le _) lo
  have l2 := HT.sIx_le x.length x.length (Nat.le_refl _) hi
  have e : StrLaws.sliceText x lo hi = StrLaws.sliceText x (some ((HT.sIx x.length 0 lo : Nat) : Int)) (some ((HT.sIx x.length x.length hi : Nat) : Int)) := by
    unfold StrLaws.sliceText
    rw [strIdx_gen]
  rw [e]
  generalize HT.sIx x.length 0 lo = a at *
  generalize HT.sIx x.length x.length hi = b at *
  by_cases hab : a ≤ b
  · exact StrLaws.sliceText_nat x hab l2
  · have e0 : b - a = 0 := by omega
    rw [e0, List.take_zero]
    have ei : Builtin.Str.strSliceIndices (some (a : Int)) (some (b : Int)) 1 x.length = [] := by
      unfold Builtin.Str.strSliceIndices
      simp only [show (1 : Int) > 0 by omega, if_true]
      rw [if_neg (by omega), if_neg (by omega)]
      have q1 : max 0 (min (a : Int) (x.length : Int)) = (a : Int) := by omega
      have q2 : max 0 (min (b : Int) (x.length : Int)) = (b : Int) := by omega
      rw [q1, q2]
      unfold sliceRange
      simp only [show (1 : Int) > 0 by omega, if_true]
      rw [if_neg (by omega)]
      rfl
    unfold StrLaws.sliceText
    rw [ei]
    split
    · rename_i h
      have hl : x.length = 0 := by simp at h; omega
      apply Str.ext'
      have : x.cps = #[] := Array.eq_empty_of_size_eq_zero (by simpa [Str.length] using hl)
      rw [this]
    · rfl
section
variable {X : Cx}
def rSlS : V → Option Int → Option Int → Hp → VK → Prop := fun x lo hi H Q => ∃ z, x = .str z ∧ z.length ≤ sizeLine ∧ Q (.str ⟨(cutL z.cps.toList lo hi).toArray⟩) H
theorem sl_str : SlR X rSlS := by
  intro pins s σ H x v vl vu lo hi sl Q I rx hs pl pu h
  obtain ⟨z, rfl, hz, q⟩ := h
  obtain ⟨t, rfl⟩ := rx
  refine ⟨"str", _, F.slot_str_getitem.lookup, typeIs_str _ _ _, ?_⟩
  obtain ⟨o, ho, hc, hd⟩ := hs
  obtain ⟨l, hl, el⟩ : ∃ l : Option (Int × Tok), vl = partValue l ∧ l.map (·.1) = lo := by
    cases pl with
    | none => exact ⟨none, rfl, rfl⟩
    | int i t => exact ⟨some (i, t), rfl, rfl⟩
  obtain ⟨u, hu, eu⟩ : ∃ l : Option (Int × Tok), vu = partValue l ∧ l.map (·.1) = hi := by
    cases pu with
    | none => exact ⟨none, rfl, rfl⟩
    | int i t => exact ⟨some (i, t), rfl, rfl⟩
  subst hl hu el eu
  refine wpAny_getItem_str_slice (l := l) (u := u) (st := none) ⟨o, ho, hc, hd⟩ rfl ?_
  have e := sliceText_gen z (l.map (·.1)) (u.map (·.1))
  unfold sliceMade
  refine post_val_or_made (fun _ => ?_) fun t' k => ⟨.str ⟨(cutL z.cps.toList (l.map (·.1)) (u.map (·.1))).toArray⟩, H, I.tok _, ⟨t', ?_⟩, q⟩
  · rename_i hno
    have e2 : StrLaws.sliceText z (l.map (·.1)) (u.map (·.1)) = ⟨((slicePicked z l u none).filterMap (z.cps[·]?)).toArray⟩ := by
      unfold StrLaws.sliceText
      exact if_neg hno
    rw [← e2, e]
    show (cutL z.cps.toList (l.map (·.1)) (u.map (·.1))).toArray.size ≤ sizeLine
    rw [List.size_toArray]
    unfold cutL
    rw [List.length_take, List.length_drop]
    have : z.cps.toList.length = z.length := by simp [Str.length]
    omega
  · rw [← e]
    rfl
theorem op_le_str : OpR X (compareOp .LtE) (fun x y H Q => ∃ i j, x = .str i ∧ y = .str j ∧ Q (.bl (!decide (j.cps.toList < i.cps.toList))) H) := by
  intro pins s σ H x y v u Q I rx ry h
  obtain ⟨i, j, rfl, rfl, q⟩ := h
  obtain ⟨t, rfl⟩ := rx
  obtain ⟨t', rfl⟩ := ry
  exact PySem.P.le_str ⟨.bl _, H, I, rfl, q⟩
def rLower : V → List V → Hp → VK → Prop := fun x vs H Q => ∃ z, x = .str z ∧ vs = [] ∧ z.length ≤ 1000000 ∧ (∀ c ∈ z.cps.toList, c < 128) ∧ Q (.str ⟨z.cps.map lo1⟩) H
def rIndex : V → List V → Hp → VK → Prop := fun x vs H Q => ∃ z c, x = .str z ∧ vs = [.str ⟨#[c]⟩] ∧ c ∈ z.cps.toList ∧ Q (.int (Txt.find z ⟨#[c]⟩)) H
theorem call_isi (K : PySem.W.Frag) (hK : X.K = K := by rfl) : CallR X (.builtin "isinstance") (fun xs H Q => ∃ x T t b, xs = [x, .ty T] ∧ TyOf K H x t ∧ PySem.W.kitOne K t (.type T) = some b ∧ Q (.bl b) H) := by
  subst hK
  intro pins s σ H xs us Q I r h
  obtain ⟨x, T, t, b, rfl, ty, e, q⟩ := h
  obtain ⟨u, v, rfl, ru, rv⟩ := vals2 r
  cases rv
  exact isinst_ok I ru ty e fun tk => ⟨.bl b, H, I.tok _, rfl, q⟩
theorem op_eqE (K : PySem.W.Frag) {k : Nat} (hr : Room k X.A) (hK : X.K = K := by rfl) : OpR X (compareOp .Eq) (fun x y H Q => ∃ p xs q, x = .ref p ∧ y = .ref q ∧ SqL K H p xs ∧ SqL K H q [] ∧ Q (.bl xs.isEmpty) H) := by
  subst hK
  intro pins s σ H x y v u Q I rx ry h
  obtain ⟨p, xs, q, rfl, rfl, hp, hq, k⟩ := h
  cases rx; cases ry
  have hcl : X.A.units + 64 < cLine := hr.units
  obtain ⟨its, r, pl, hz⟩ := I.list hp
  obtain ⟨its', r', pl', hz'⟩ := I.list hq
  cases r'
  cases r with
  | nil => exact SeqAt.eq_listAt (e := fun _ => true) pl.isList pl'.isList rfl (by omega) (fun j h1 h2 => absurd h1 (by simp)) ⟨.bl true, H, I, rfl, k⟩
  | cons r0 rs => exact SeqAt.eq_list_lengthsAt pl.isList pl'.isList (by simp) (by omega) ⟨.bl false, H, I, rfl, k⟩
theorem op_neE (K : PySem.W.Frag) {k : Nat} (hr : Room k X.A) (hK : X.K = K := by rfl) : OpR X (compareOp .NotEq) (fun x y H Q => ∃ p xs q, x = .ref p ∧ y = .ref q ∧ SqL K H p xs ∧ SqL K H q [] ∧ Q (.bl (!xs.isEmpty)) H) := by
  subst hK
  intro pins s σ H x y v u Q I rx ry h
  obtain ⟨p, xs, q, rfl, rfl, hp, hq, k⟩ := h
  cases rx; cases ry
  have hcl : X.A.units + 64 < cLine := hr.units
  obtain ⟨its, r, pl, hz⟩ := I.list hp
  obtain ⟨its', r', pl', hz'⟩ := I.list hq
  cases r'
  cases r with
  | nil => exact SeqAt.RcNeAt.lists (A := X.A) (s := s) (e := fun _ => true) pl.isList pl'.isList rfl (by omega) (fun j h1 h2 => absurd h1 (by simp)) X.prog X.w X.xe _ ⟨.bl false, H, I, rfl, k⟩
  | cons r0 rs => exact SeqAt.RcNeAt.lists_lengths (A := X.A) (s := s) pl.isList pl'.isList (by simp) (by omega) X.prog X.w X.xe _ ⟨.bl true, H, I, rfl, k⟩
def CDivB (_ j : Int) : Prop := 0 < j ∧ j < 2 ^ 62
theorem op_fdivB : OpR X (binaryOp .FloorDiv) (rI CDivB fun i j => .int (i / j)) := opI fun i j _ _ _ _ _ hc q => by
  have h0 := hc.1
  have h1 := hc.2
  refine floordiv_int (by omega) ?_ (.inl (PyProof.noPylong_of_log2 ?_))
  · rw [Int.fdiv_eq_ediv_of_nonneg _ (by omega)]; exact q
  · have : j.natAbs < 2 ^ 62 := by omega
    have := (Nat.log2_lt (by omega)).mpr this
    omega
end

end L2

namespace L2
open PySem PySem.Spec PyProof.Rows

mutual
def DeepT (H : Hp) : DV → V → Prop
  | .non, v => v = .non
  | .bl b, v => v = .bl b
  | .int i, v => v = .int i
  | .str x, v => v = .str x
  | .lst ds, v => ∃ a xs, v = .ref a ∧ H a = some (.lst xs) ∧ DeepTs H ds xs
  | .tup ds, v => ∃ a xs, v = .ref a ∧ H a = some (.tup xs) ∧ DeepTs H ds xs
def DeepTs (H : Hp) : List DV → List V → Prop
  | [], xs => xs = []
  | d :: ds, xs => ∃ y ys, xs = y :: ys ∧ DeepT H d y ∧ DeepTs H ds ys
end
mutual
theorem DeepT.deep {K : PySem.W.Frag} {H : Hp} : ∀ (d : DV) (v : V), DeepT H d v → Deep K H d v
  | .non, v, h => by rw [DeepT] at h; rw [Deep]; exact h
  | .bl b, v, h => by rw [DeepT] at h; rw [Deep]; exact h
  | .int i, v, h => by rw [DeepT] at h; rw [Deep]; exact h
  | .str x, v, h => by rw [DeepT] at h; rw [Deep]; exact h
  | .lst ds, v, h => by rw [DeepT] at h; rw [Deep]; obtain ⟨a, xs, r, q, t⟩ := h; exact ⟨a, xs, r, SqL.of q, DeepTs.deep ds xs t⟩
  | .tup ds, v, h => by rw [DeepT] at h; rw [Deep]; obtain ⟨a, xs, r, q, t⟩ := h; exact ⟨a, xs, r, SqT.of q, DeepTs.deep ds xs t⟩
theorem DeepTs.deep {K : PySem.W.Frag} {H : Hp} : ∀ (ds : List DV) (xs : List V), DeepTs H ds xs → Deeps K H ds xs
  | [], xs, h => by rw [DeepTs] at h; rw [Deeps]; exact h
  | d :: ds, xs, h => by rw [DeepTs] at h; rw [Deeps]; obtain ⟨y, ys, r, q, t⟩ := h; exact ⟨y, ys, r, DeepT.deep d y q, DeepTs.deep ds ys t⟩
end
theorem DeepTs.length {H : Hp} : ∀ {ds : List DV} {xs : List V}, DeepTs H ds xs → xs.length = ds.length
  | [], xs, h => by rw [DeepTs] at h; subst h; rfl
  | d :: ds, xs, h => by rw [DeepTs] at h; obtain ⟨y, ys, rfl, _, h⟩ := h; rw [List.length_cons, List.length_cons, DeepTs.length h]
mutual
theorem DeepT.same {H H' : Hp} (e : Same H H') : ∀ (d : DV) (v : V), DeepT H d v → DeepT H' d v
  | .non, v, h => by rw [DeepT] at h ⊢; exact h
  | .bl b, v, h => by rw [DeepT] at h ⊢; exact h
  | .int i, v, h => by rw [DeepT] at h ⊢; exact h
  | .str x, v, h => by rw [DeepT] at h ⊢; exact h
  | .lst ds, v, h => by rw [DeepT] at h ⊢; obtain ⟨a, xs, r, q, t⟩ := h; exact ⟨a, xs, r, e _ _ q, DeepTs.same e ds xs t⟩
  | .tup ds, v, h => by rw [DeepT] at h ⊢; obtain ⟨a, xs, r, q, t⟩ := h; exact ⟨a, xs, r, e _ _ q, DeepTs.same e ds xs t⟩
theorem DeepTs.same {H H' : Hp} (e : Same H H') : ∀ (ds : List DV) (xs : List V), DeepTs H ds xs → DeepTs H' ds xs
  | [], xs, h => by rw [DeepTs] at h ⊢; exact h
  | d :: ds, xs, h => by rw [DeepTs] at h ⊢; obtain ⟨y, ys, r, q, t⟩ := h; exact ⟨y, ys, r, DeepT.same e d y q, DeepTs.same e ds ys t⟩
end
theorem DeepTs.get {H : Hp} : ∀ {ds : List DV} {xs : List V} {i : Nat} {x : V}, DeepTs H ds xs → xs[i]? = some x → ∃ d, ds[i]? = some d ∧ DeepT H d x
  | [], xs, i, x, h, e => by rw [DeepTs] at h; subst h; simp at e
  | d :: ds, xs, 0, x, h, e => by
    rw [DeepTs] at h; obtain ⟨y, ys, rfl, q, t⟩ := h
    simp at e; subst e; exact ⟨d, rfl, q⟩
  | d :: ds, xs, i + 1, x, h, e => by
    rw [DeepTs] at h; obtain ⟨y, ys, rfl, q, t⟩ := h
    obtain ⟨d', e1, e2⟩ := DeepTs.get (i := i) t (by simpa using e)
    exact ⟨d', by simpa using e1, e2⟩
theorem DeepTs.get' {H : Hp} {ds : List DV} {xs : List V} {i : Nat} {d : DV} (h : DeepTs H ds xs) (e : ds[i]? = some d) : ∃ x, xs[i]? = some x ∧ DeepT H d x := by
  have hl := h.length
  have hi : i < xs.length := by rw [hl]; exact (List.getElem?_eq_some_iff.mp e).1
  obtain ⟨d', e1, e2⟩ := h.get (List.getElem?_eq_getElem hi)
  rw [e] at e1; cases e1
  exact ⟨_, List.getElem?_eq_getElem hi, e2⟩
theorem DeepTs.app {H : Hp} : ∀ {ds es : List DV} {xs ys : List V}, DeepTs H ds xs → DeepTs H es ys → DeepTs H (ds ++ es) (xs ++ ys)
  | [], es, xs, ys, h, q => by rw [DeepTs] at h; subst h; exact q
  | d :: ds, es, xs, ys, h, q => by
    rw [DeepTs] at h; obtain ⟨y, zs, rfl, r, t⟩ := h
    show DeepTs H (d :: (ds ++ es)) _
    rw [DeepTs]
    exact ⟨y, zs ++ ys, rfl, r, DeepTs.app t q⟩
theorem DeepTs.one {H : Hp} {d : DV} {x : V} (h : DeepT H d x) : DeepTs H [d] [x] := by
  rw [DeepTs]; exact ⟨x, [], rfl, h, by rw [DeepTs]⟩
theorem DeepTs.nil {H : Hp} : DeepTs H [] [] := by rw [DeepTs]
theorem DeepTs.take {H : Hp} : ∀ {ds : List DV} {xs : List V} (n : Nat), DeepTs H ds xs → DeepTs H (ds.take n) (xs.take n)
  | ds, xs, 0, _ => by simp [DeepTs]
  | [], xs, n + 1, h => by rw [DeepTs] at h; subst h; simp [DeepTs]
  | d :: ds, xs, n + 1, h => by
    rw [DeepTs] at h; obtain ⟨y, zs, rfl, r, t⟩ := h
    rw [List.take_succ_cons, List.take_succ_cons, DeepTs]
    exact ⟨y, _, rfl, r, DeepTs.take n t⟩
theorem DeepTs.drop {H : Hp} : ∀ {ds : List DV} {xs : List V} (n : Nat), DeepTs H ds xs → DeepTs H (ds.drop n) (xs.drop n)
  | ds, xs, 0, h => by simpa using h
  | [], xs, n + 1, h => by rw [DeepTs] at h; subst h; simp [DeepTs]
  | d :: ds, xs, n + 1, h => by
    rw [DeepTs] at h; obtain ⟨y, zs, rfl, r, t⟩ := h
    rw [List.drop_succ_cons, List.drop_succ_cons]
    exact DeepTs.drop n t
theorem DeepTs.set {H : Hp} {d : DV} {x : V} (q : DeepT H d x) : ∀ {ds : List DV} {xs : List V} (n : Nat), DeepTs H ds xs → DeepTs H (ds.set n d) (xs.set n x)
  | [], xs, n, h => by rw [DeepTs] at h; subst h; simp [DeepTs]
  | e :: ds, xs, 0, h => by
    rw [DeepTs] at h; obtain ⟨y, zs, rfl, r, t⟩ := h
    rw [List.set_cons_zero, List.set_cons_zero, DeepTs]
    exact ⟨x, _, rfl, q, t⟩
  | e :: ds, xs, n + 1, h => by
    rw [DeepTs] at h; obtain ⟨y, zs, rfl, r, t⟩ := h
    rw [List.set_cons_succ, List.set_cons_succ, DeepTs]
    exact ⟨y, _, rfl, r, DeepTs.set q n t⟩
theorem DeepTs.ints {H : Hp} : ∀ (ns : List Int), DeepTs H (ns.map DV.int) (ns.map V.int)
  | [] => by simp [DeepTs]
  | n :: r => by
    rw [List.map_cons, List.map_cons, DeepTs]
    exact ⟨_, _, rfl, by rw [DeepT], DeepTs.ints r⟩

theorem whileW2 {c : TT} {tb : TS} {D : Ends} {σ : St} {H : Hp} (Pv : St → Hp → Prop) (μ : St → Hp → Nat) (h0 : Pv σ H)
    (hs : ∀ σ H, Pv σ H → c σ H fun b H1 => if b = true then ∃ N : St → Hp → Prop, (∀ σ' H', N σ' H' → ∃ m', m' < μ σ H ∧ m' = μ σ' H' ∧ Pv σ' H') ∧ tb { D with nx := N, ct := N, bk := D.nx } σ H1 else D.nx σ H1) : WhileW c tb D σ H :=
  ⟨fun m σ H => m = μ σ H ∧ Pv σ H, ⟨_, rfl, h0⟩, fun m σ H ⟨e, p⟩ => by subst e; exact hs σ H p⟩
theorem int_of_map {ns : List Int} {i : Nat} {x : V} (h : (ns.map V.int)[i]? = some x) : ∃ z, x = .int z ∧ ns[i]? = some z := by
  rw [List.getElem?_map] at h
  cases e : ns[i]? with
  | none => rw [e] at h; cases h
  | some z => rw [e] at h; exact ⟨z, (Option.some.inj h).symm, rfl⟩
theorem ixN_of {n : Nat} {k : Int} (h0 : 0 ≤ k) (h : k < n) : ixN n k = some k.toNat := by
  unfold ixN
  rw [if_pos h0, if_pos h]

end L2

namespace L2
open PySem PySem.Spec PyProof.Rows
def Its (z : Str) : It := ⟨fun i _ => i < z.length, fun i H x H' => H' = H ∧ ∃ c, z.cps.toList[i]? = some c ∧ x = .str ⟨#[c]⟩, fun i _ => z.length ≤ i⟩
theorem turn_strA {P : Program} {w : World} {K : PySem.W.Frag} {tg : Expr} (it : Addr) (z : Str) (t : Tok) : Turn P w K tg (Its z) [it] it (fun i h => h.IsStrIter it "str_ascii_iterator" z t i) where
  mem := by simp
  obj := fun i h st b hb => by
    have e : b = it := by simpa using hb
    subst e
    obtain ⟨o, e, c, d⟩ := st
    exact ⟨o, e, fun v z => by rw [d] at z; cases z⟩
  keep := fun i h h' st k => let ⟨o, ho, r⟩ := st; ⟨o, k it (by simp) o ho, r⟩
  item := by
    intro X hP hw hK hc i pins s σ H E I hf st hg
    subst hP hw hK
    obtain ⟨f0, f1, f2, f3, f4, f5⟩ := hf it (by simp)
    have hi : i < z.cps.size := hg
    refine wpAny_pyNext_ascii_item st (c := z.cps[i]) (by simp [hi]) fun h' st' sb => ?_
    have I1 : Inw X pins σ H { s with heap := h', toks := s.toks + 1 } := I.turned (t' := s.toks + 1) (fun b o hb e => (sb.2 b hb).trans e) f0 f1 f3 f4 f5
    obtain ⟨o, e, c, d⟩ := id st'
    exact ⟨_, rfl, go_of (s := { s with heap := h', toks := s.toks + 1 }) e c d (by decide) ⟨.str ⟨#[z.cps[i]]⟩, H, I1, ⟨_, rfl⟩, ⟨rfl, z.cps[i], by simp [hi], rfl⟩, st', fun b hb => (hf b hb).1⟩⟩
  done := by
    intro X hP hw hK hc i pins s σ H E I hf st hg
    subst hP hw hK
    obtain ⟨f0, f1, f2, f3, f4, f5⟩ := hf it (by simp)
    have hi : z.cps.size ≤ i := hg
    exact wpAny_pyNext_ascii_end (I.ok.hd hc) st (by simp [hi]) fun h' eb => ⟨rfl, I.turned (t' := s.toks) (fun b o hb e => eb b o hb e) f0 f1 f3 f4 f5⟩
  self := fun _ _ _ _ _ st h => wpAny_pyIter_striter_ascii st h
theorem turn_strW {P : Program} {w : World} {K : PySem.W.Frag} {tg : Expr} (it : Addr) (z : Str) (t : Tok) : Turn P w K tg (Its z) [it] it (fun i h => h.IsStrIter it "str_iterator" z t i) where
  mem := by simp
  obj := fun i h st b hb => by
    have e : b = it := by simpa using hb
    subst e
    obtain ⟨o, e, c, d⟩ := st
    exact ⟨o, e, fun v z => by rw [d] at z; cases z⟩
  keep := fun i h h' st k => let ⟨o, ho, r⟩ := st; ⟨o, k it (by simp) o ho, r⟩
  item := by
    intro X hP hw hK hc i pins s σ H E I hf st hg
    subst hP hw hK
    obtain ⟨f0, f1, f2, f3, f4, f5⟩ := hf it (by simp)
    have hi : i < z.cps.size := hg
    refine wpAny_pyNext_wide_item st (c := z.cps[i]) (by simp [hi]) fun h' st' sb => ?_
    have I1 : Inw X pins σ H { s with heap := h', toks := s.toks + 1 } := I.turned (t' := s.toks + 1) (fun b o hb e => (sb.2 b hb).trans e) f0 f1 f3 f4 f5
    obtain ⟨o, e, c, d⟩ := id st'
    exact ⟨_, rfl, go_of (s := { s with heap := h', toks := s.toks + 1 }) e c d (by decide) ⟨.str ⟨#[z.cps[i]]⟩, H, I1, ⟨_, rfl⟩, ⟨rfl, z.cps[i], by simp [hi], rfl⟩, st', fun b hb => (hf b hb).1⟩⟩
  done := by
    intro X hP hw hK hc i pins s σ H E I hf st hg
    subst hP hw hK
    obtain ⟨f0, f1, f2, f3, f4, f5⟩ := hf it (by simp)
    have hi : z.cps.size ≤ i := hg
    exact wpAny_pyNext_wide_end (I.ok.hd hc) st (by simp [hi]) fun h' eb => ⟨rfl, I.turned (t' := s.toks) (fun b o hb e => eb b o hb e) f0 f1 f3 f4 f5⟩
  self := fun _ _ _ _ _ st h => wpAny_pyIter_striter_wide st h
def iStr (tl : TE) : TI := fun σ H R => tl σ H fun x H1 => ∃ z, x = .str z ∧ R (Its z) H1
theorem pi_str {X : Cx} {tg l : Expr} {tl : TE} (hl : PE X l tl) : PI X tg l (iStr tl) := by
  intro pins s σ H R I h
  refine thn (hl pins s σ H _ I h) fun v s1 ⟨x, H1, I1, r1, q1⟩ => ?_
  obtain ⟨z, e, q⟩ := q1
  subst e
  obtain ⟨t, rfl⟩ := r1
  have fp : ∀ b ∈ [s1.heap.objs.size], FpOk X pins H1 b := fun b hb => by
    have e : b = s1.heap.objs.size := by simpa using hb
    subst e
    exact I1.fpOk (Nat.le_refl _) (I1.hok.fresh (Nat.le_refl _))
  cases ha : z.cps.all (· < 128)
  · exact wpAny_pyIter_wide ha ⟨s1.heap.objs.size, [s1.heap.objs.size], _, _, H1, rfl, I1.kept (t' := s1.toks) fun b o e => Heap.get?_push_of_some _ e, turn_strW _ z t, ⟨_, Heap.get?_push_size _ rfl, rfl, rfl⟩, fp, q⟩
  · exact wpAny_pyIter_ascii ha ⟨s1.heap.objs.size, [s1.heap.objs.size], _, _, H1, rfl, I1.kept (t' := s1.toks) fun b o e => Heap.get?_push_of_some _ e, turn_strA _ z t, ⟨_, Heap.get?_push_size _ rfl, rfl, rfl⟩, fp, q⟩
section
variable {g : TG} {ti : TT} {te : TE} {Q : VK} {σ : St} {H : Hp} {pick : List (Option Nat)}
theorem compW_str {z : Str} (Pv : Nat → List V → St → Hp → Prop) (h0 : Pv 0 [] (pickS pick σ) H) (hl : ∀ i ys σ H, i ≤ z.length → Pv i ys σ H → ys.length ≤ sizeLine)
    (hs : ∀ i c ys σ H, z.cps.toList[i]? = some c → Pv i ys σ H → g (.str ⟨#[c]⟩) σ H fun σ3 H3 => ti σ3 H3 fun b H4 => if b = true then te σ3 H4 fun v H5 => Pv (i + 1) (ys ++ [v]) σ3 H5 else Pv (i + 1) ys σ3 H4)
    (hd : ∀ ys σ H, Pv z.length ys σ H → ∀ p, H p = none → Q (.ref p) (upd H p (.lst ys))) : CompW pick g ti te Q σ (Its z) H := by
  refine ⟨fun i m ys σ H => m = z.length - i ∧ i ≤ z.length ∧ Pv i ys σ H, ⟨z.length, by simp, Nat.zero_le _, h0⟩, ?_⟩
  rintro i m ys σ H ⟨rfl, hi, p⟩
  refine ⟨hl i ys σ H hi p, ?_⟩
  by_cases hlt : i < z.length
  · refine .inr ⟨hlt, Pv (i + 1), fun zs σ' H' p' => ⟨z.length - (i + 1), by omega, rfl, hlt, p'⟩, fun x H' y => ?_⟩
    obtain ⟨e, c, hc, y⟩ := y
    subst e y
    exact hs i c ys σ _ hc p
  · have e : i = z.length := by omega
    subst e
    exact .inl ⟨Nat.le_refl _, hd ys σ H p⟩
theorem forW_str {tb : TS} {D : Ends} {z : Str} (Pv : Nat → St → Hp → Prop) (h0 : Pv 0 σ H)
    (hs : ∀ i c σ H, z.cps.toList[i]? = some c → Pv i σ H → g (.str ⟨#[c]⟩) σ H fun σ2 H2 => tb { D with nx := Pv (i + 1), ct := Pv (i + 1), bk := D.nx } σ2 H2) (hd : ∀ σ H, Pv z.length σ H → D.nx σ H) : ForW g tb D σ (Its z) H := by
  refine ⟨fun i m σ H => m = z.length - i ∧ i ≤ z.length ∧ Pv i σ H, ⟨z.length, by simp, Nat.zero_le _, h0⟩, ?_⟩
  rintro i m σ H ⟨rfl, hi, p⟩
  by_cases hlt : i < z.length
  · refine .inr ⟨hlt, Pv (i + 1), fun σ' H' p' => ⟨z.length - (i + 1), by omega, rfl, hlt, p'⟩, fun x H' y => ?_⟩
    obtain ⟨e, c, hc, y⟩ := y
    subst e y
    exact hs i c σ _ hc p
  · have e : i = z.length := by omega
    subst e
    exact .inl ⟨Nat.le_refl _, hd σ H p⟩
end
section
variable {X : Cx}
theorem op_eqDK (K : PySem.W.Frag) {k : Nat} (hr : Room k X.A) (hK : X.K = K := by rfl) : OpR X (compareOp .Eq) (fun x y H Q => ∃ d ds, (d = .lst ds ∨ d = .tup ds) ∧ dep d ≤ 60 ∧ Deep K H d x ∧ Deep K H d y ∧ Q (.bl true) H) := by subst hK; exact op_eqD hr
end

end L2

namespace L2
open PySem PySem.Spec PyProof.Rows
def XObj (h : Heap) (e : Addr) (C : Value) (dx : Option Addr) (tb : Value) : Prop := ∃ (oe : Obj) (vs : Array Value), h.get? e = some oe ∧ oe.cls = C ∧ oe.dict = dx ∧ oe.data = .fields vs ∧ vs[1]? = some tb ∧ (dx ≠ none → vs[2]? = some .none)
def TbAt (h : Heap) (T : Addr) (fl : Value) : Prop := ∃ (o : Obj) (ts : Array Value), h.get? T = some o ∧ o.data = .fields ts ∧ ts[3]? = some fl
def TbOk (h : Heap) (tb : Value) : Prop := tb = .none ∨ ∃ T, tb = .ref T ∧ TbAt h T .none
def KeptX (fr : List Addr) (e : Addr) (tb : Value) (h h' : Heap) : Prop :=
  ∀ b o, h.get? b = some o → b ≠ e → tb ≠ .ref b → ∃ sl, h'.get? b = some { o with slots := sl } ∧ (b ∉ fr → sl = o.slots)
theorem KeptX.there {fr : List Addr} {e : Addr} {tb : Value} {h h' : Heap} (k : KeptX fr e tb h h') {b : Addr} {o : Obj} (q : h.get? b = some o) (n : b ≠ e) (n' : tb ≠ .ref b) (f : b ∉ fr) : h'.get? b = some o := by
  obtain ⟨sl, x, y⟩ := k b o q n n'
  rw [x, y f]
section
variable {M : Model} {A : Around} {E : Value → Shared → Prop} {s : Shared} {base : Heap} {env : Env} {outer : List Env} {L e : Addr} {C : Value} {dx : Option Addr} {tb : Value} {Q : Unit → Shared → Prop}
theorem entry_x {hadNext : Bool} {hdv : Value} (hfr : A.frames = some (env :: outer)) (hl : s.heap.FunFrames base (env :: outer)) (hf : env.frame = some L) (x : XObj s.heap e C dx tb)
    (q : ∀ h' T, s.heap.objs.size ≤ T → XObj h' e C dx (.ref T) → TbAt h' T (rawInt L) → KeptX (frs (env :: outer)) e .none s.heap h' → Q () { s with heap := h' }) :
    wpAny M A (do let a ← frameOf env; let pl ← entryPlaceOf L hadNext; let b ← EntryCells.newEntry hdv a .none (rawInt L) .none pl; setField (.ref e) 1 b) Q E s := by
  obtain ⟨oe, vs, he, hc, hd, hv, h1, hcn⟩ := x
  have h1s : 1 < vs.size := (Array.getElem?_eq_some_iff.mp h1).1
  refine wpAny_bind (wpAny_frameOf_fun hfr hl hf fun g1 so => wpAny_bind (wpAny_entryPlaceOf fun pl ip => ?_))
  obtain ⟨sz, oth, all⟩ := so
  obtain ⟨sle, he1⟩ := all e oe he
  unfold EntryCells.newEntry newFields
  refine wpAny_bind (wpAny_newObj_type ?_ (ip.sizeOk5 _ _ _ _ _))
  dsimp only
  have hlt : e < g1.objs.size := Heap.lt_size he1
  refine wpAny_setField (Heap.get?_push_of_some _ he1) (show ({ oe with slots := sle } : Obj).data = .fields vs from hv) h1s (q _ g1.objs.size (Nat.le_of_eq sz.symm) ?_ ?_ fun b o hb hbe _ => ?_)
  · refine ⟨_, _, Heap.get?_update_self _ (Heap.get?_push_of_some _ he1) (Obj.isFreed_of_fields (Obj.data_mapFields (show ({ oe with slots := sle } : Obj).data = .fields vs from hv) _)), ?_, ?_, Obj.data_mapFields (show ({ oe with slots := sle } : Obj).data = .fields vs from hv) _, by simp [h1s], fun z => by have := hcn z; rw [Array.getElem?_setIfInBounds_ne (by decide)]; exact this⟩
    · rw [Obj.cls_mapFields]; exact hc
    · unfold Obj.mapFields
      rw [show ({ oe with slots := sle } : Obj).data = .fields vs from hv]
      exact hd
  · refine ⟨_, _, (Heap.get?_update_other _ _ (Nat.ne_of_lt hlt)).trans (Heap.get?_push_size _ rfl), rfl, ?_⟩
    first
      | (simp; done)
      | (rcases ip with rfl | ⟨_, _, _, _, _, _, _, rfl⟩ <;> simp)
  · obtain ⟨sl, k⟩ := all b o hb
    refine ⟨sl, (Heap.get?_update_other _ _ (Ne.symm hbe)).trans (Heap.get?_push_of_some _ k), fun nf => ?_⟩
    have k2 := (oth b nf).trans hb
    rw [k] at k2
    exact congrArg Obj.slots (Option.some.inj k2)
end
section
variable {M : Model} {A : Around} {E : Value → Shared → Prop} {s : Shared} {base : Heap} {env : Env} {outer : List Env} {L e : Addr} {C : Value} {dx : Option Addr} {tb : Value} {Q : Unit → Shared → Prop}
theorem upd_tb {h : Heap} {T : Addr} {o : Obj} {ts : Array Value} {v : Value} (hT : h.get? T = some o) (hd : o.data = .fields ts) (n : 3 < ts.size) : (∀ b, b ≠ T → (h.update T (Obj.mapFields (·.setIfInBounds 3 v))).get? b = h.get? b) ∧ TbAt (h.update T (Obj.mapFields (·.setIfInBounds 3 v))) T v :=
  ⟨fun b hb => Heap.get?_update_other _ _ (Ne.symm hb), _, _, Heap.get?_update_self _ hT (Obj.isFreed_of_fields (Obj.data_mapFields hd _)), Obj.data_mapFields hd _, by simp [n]⟩
theorem note_x (hfr : A.frames = some (env :: outer)) (hl : s.heap.FunFrames base (env :: outer)) (hf : env.frame = some L) (x : XObj s.heap e C dx tb) (t : TbOk s.heap tb) (hte : tb ≠ .ref e)
    (q : ∀ h' T, s.heap.objs.size ≤ T → XObj h' e C dx (.ref T) → TbAt h' T (rawInt L) → KeptX (frs (env :: outer)) e tb s.heap h' → Q () { s with heap := h' }) : wpAny M A (noteFrame (.ref e) env) Q E s := by
  obtain ⟨oe, vs, he, hc, hd, hv, h1, hcn⟩ := id x
  unfold noteFrame
  simp only [hf]
  refine wpAny_bind (wpAny_field he hv h1 ?_)
  rcases t with rfl | ⟨T0, rfl, oT, ts, hT, hdT, h3⟩
  · rw [if_neg (by decide)]
    exact entry_x hfr hl hf x q
  · have n3 : 3 < ts.size := (Array.getElem?_eq_some_iff.mp h3).1
    have eT : e ≠ T0 := fun z => hte (by rw [z])
    rw [if_pos (by simp)]
    refine wpAny_bind (wpAny_field hT hdT h3 ?_)
    rw [if_neg (by simp [rawInt])]
    obtain ⟨oth, _⟩ := upd_tb (v := Value.none) hT hdT n3
    refine wpAny_bind (wpAny_setField hT hdT n3 (entry_x (base := base) hfr ?_ hf ⟨oe, vs, (oth e eT).trans he, hc, hd, hv, h1, hcn⟩ fun h' T hs xo tt k => ?_))
    · refine hl.of_keeps fun b o hb nf => ⟨o, (oth b fun z => ?_).trans hb, rfl⟩
      subst z
      rw [hT] at hb
      cases hb
      exact nf ts hdT
    · refine q h' T ?_ xo tt fun b o hb hbe hbt => k b o ((oth b fun z => hbt (by rw [z])).trans hb) hbe (by simp)
      have : (s.heap.update T0 (Obj.mapFields (·.setIfInBounds 3 Value.none))).objs.size = s.heap.objs.size := Heap.size_after_update ..
      rw [← this]
      exact hs
theorem flight_x {T : Addr} {fl : Value} (x : XObj s.heap e C dx (.ref T)) (t : TbAt s.heap T fl) (hTe : T ≠ e)
    (q : ∀ h', XObj h' e C dx (.ref T) → TbAt h' T .none → h'.objs.size = s.heap.objs.size → (∀ b, b ≠ T → h'.get? b = s.heap.get? b) → Q () { s with heap := h' }) : wpAny M A (setFlight (.ref e) none) Q E s := by
  obtain ⟨oe, vs, he, hc, hd, hv, h1, hcn⟩ := x
  obtain ⟨oT, ts, hT, hdT, h3⟩ := t
  have n3 : 3 < ts.size := (Array.getElem?_eq_some_iff.mp h3).1
  obtain ⟨oth, tt⟩ := upd_tb (v := Value.none) hT hdT n3
  unfold setFlight
  refine wpAny_bind (wpAny_field he hv h1 ?_)
  rw [if_pos (by simp)]
  exact wpAny_setField hT hdT n3 (q _ ⟨oe, vs, (oth e (Ne.symm hTe)).trans he, hc, hd, hv, h1, hcn⟩ tt (Heap.size_after_update ..) oth)
theorem leave_x (hfr : A.frames = some (env :: outer)) (hl : s.heap.FunFrames base (env :: outer)) (hf : env.frame = some L) (x : XObj s.heap e C dx tb) (t : TbOk s.heap tb) (hte : tb ≠ .ref e)
    (q : ∀ h' T, s.heap.objs.size ≤ T → XObj h' e C dx (.ref T) → TbAt h' T .none → KeptX (frs (env :: outer)) e tb s.heap h' → Q () { s with heap := h' }) : wpAny M A (leaving env (.ref e)) Q E s := by
  unfold leaving
  have elt : e < s.heap.objs.size := let ⟨_, _, he, _⟩ := x; Heap.lt_size he
  refine wpAny_bind (note_x hfr hl hf x t hte fun h' T hs xo tt k => ?_)
  refine flight_x (s := { s with heap := h' }) xo tt (Nat.ne_of_gt (Nat.lt_of_lt_of_le elt hs)) fun h2 xo2 tt2 sz oth => q h2 T hs xo2 tt2 fun b o hb hbe hbt => ?_
  obtain ⟨sl, k1, k2⟩ := k b o hb hbe hbt
  exact ⟨sl, (oth b (Nat.ne_of_lt (Nat.lt_of_lt_of_le (Heap.lt_size hb) hs))).trans k1, k2⟩
end
def XP (e : Addr) (C : Value) (dx : Option Addr) (h : Heap) : Prop := ∃ (oe : Obj) (vs : Array Value), h.get? e = some oe ∧ oe.cls = C ∧ oe.dict = dx ∧ oe.data = .fields vs ∧ 1 < vs.size
def XO (e : Addr) (C : Value) (dx : Option Addr) : HO := .ext (XP e C dx)
theorem XObj.xp {h : Heap} {e : Addr} {C : Value} {dx : Option Addr} {tb : Value} (x : XObj h e C dx tb) : XP e C dx h :=
  let ⟨oe, vs, he, hc, hd, hv, h1, _⟩ := x; ⟨oe, vs, he, hc, hd, hv, (Array.getElem?_eq_some_iff.mp h1).1⟩
theorem XP.obj {P : Program} {w : World} {H : Hp} {h : Heap} {e : Addr} {C : Value} {dx : Option Addr} (x : XP e C dx h) : ObjOk P w H h e (XO e C dx) := by
  obtain ⟨oe, vs, he, r⟩ := id x
  refine ⟨x, ⟨oe, he⟩, fun h1 h2 y k => ?_⟩
  obtain ⟨o1, v1, g1, r1⟩ := y
  exact ⟨o1, v1, k o1 g1, r1⟩
theorem XO.at {P : Program} {w : World} {H : Hp} {h : Heap} {e : Addr} {C : Value} {dx : Option Addr} (k : HOk P w H h) (x : H e = some (XO e C dx)) : XP e C dx h := (k e _ x).1
def CXe (P : Program) (w : World) : CXT := fun outer H s E ev s' => ∃ (e : Addr) (C : Value) (dx : Option Addr) (T : Addr) (H' : Hp), ev = .ref e ∧ s'.os = s.os ∧ AllBare s'.gens ∧ Un (frs outer) [] H H' s.heap s'.heap ∧ HOk P w H' s'.heap ∧
  s.heap.objs.size ≤ e ∧ s.heap.objs.size ≤ T ∧ T ≠ e ∧ H' e = some (XO e C dx) ∧ H' T = none ∧ XObj s'.heap e C dx (.ref T) ∧ TbAt s'.heap T .none ∧ E ev none H'
section
variable {X : Cx} {pins : List (Addr × Obj)} {σ : St} {H : Hp} {s : Shared} {e : Addr} {C : Value} {dx : Option Addr} {tb : Value}
theorem KeptX.hok {h' : Heap} (I : Inw X pins σ H s) (k : KeptX (frs X.stack) e tb s.heap h') (he : H e = some (XO e C dx)) (hn : ∀ T, tb = .ref T → H T = none) (x : XP e C dx h') : HOk X.prog X.w H h' := fun b u q => by
  by_cases hb : b = e
  · subst hb
    rw [he] at q
    cases q
    exact x.obj
  · refine (I.hok b u q).stay (fun c v hc r => ?_) (fun _ z => z) fun _ _ z => z
    have hce : c ≠ e := by
      rcases hc with z | z
      · rw [z]; exact hb
      · intro z'; rw [z', he] at z; cases z
    have hc1 : ∃ w, H c = some w := by
      rcases hc with z | z
      · exact ⟨u, by rw [z]; exact q⟩
      · exact ⟨_, z⟩
    obtain ⟨w1, hw⟩ := hc1
    refine k.there r hce (fun z => ?_) fun z => ?_
    · rw [hn c z] at hw; cases hw
    · rw [I.stkFree c z] at hw; cases hw
theorem KeptX.un {h' : Heap} (k : KeptX (frs X.stack) e tb s.heap h') (I : Inw X pins σ H s) (he : H e = some (XO e C dx)) (hx : XP e C dx h') (hex : ∀ T, tb = .ref T → T ∈ X.ex ∨ X.s₀.heap.objs.size ≤ T) : Un X.fs X.ex X.H₀ H X.s₀.heap h' := by
  have ne : ∀ b o, s.heap.get? b = some o → H b = none → b ≠ e := fun b o _ n z => by rw [z, he] at n; cases n
  have nt : ∀ b o, X.s₀.heap.get? b = some o → b ∉ X.ex → tb ≠ .ref b := fun b o q hx z => by
    rcases hex b z with r | r
    · exact hx r
    · exact absurd (Nat.lt_of_lt_of_le (Heap.lt_size q) r) (Nat.lt_irrefl _)
  have nl : ∀ b o, X.s₀.heap.get? b = some o → b ≠ X.env.locals := fun b o q => Nat.ne_of_lt (Nat.lt_of_lt_of_le (Heap.lt_size q) I.ok.above)
  refine ⟨fun b o q n hb hxx => ?_, fun b o q n hb hxx => ?_, I.base.free, fun b o q hxx => ?_, I.base.tups, I.base.frzs, I.base.tbls⟩
  · have q1 := I.base.keep b o q n hb hxx
    have n1 := I.base.free b o q n hxx
    refine k.there q1 (ne b o q1 n1) (nt b o q hxx) fun z => ?_
    rcases List.mem_cons.mp (I.stkSub b z) with r | r
    · exact nl b o q r
    · exact hb r
  · obtain ⟨sl, q1⟩ := I.base.slot b o q n hb hxx
    have n1 := I.base.free b o q n hxx
    obtain ⟨sl2, q2, _⟩ := k b _ q1 (ne b _ q1 n1) (nt b o q hxx)
    exact ⟨sl2, q2⟩
  · obtain ⟨o1, q1⟩ := I.base.there b o q hxx
    by_cases hbe : b = e
    · obtain ⟨oe, _, g, _⟩ := hx
      exact ⟨oe, by rw [hbe]; exact g⟩
    · obtain ⟨sl2, q2, _⟩ := k b _ q1 hbe (nt b o q hxx)
      exact ⟨_, q2⟩
end
section
variable {P : Program} {w : World} {K : PySem.W.Frag} {mg : Str → Option Value} {base : Heap} {N : List Str} {qual : Str} {scope : Scope} {f : Addr} {cd : Value} {A : Around} {outer : List Env} {s : Shared} {H : Hp} {E : XK}
theorem leave_cx {pins : List (Addr × Obj)} {σ : St} {H1 : Hp} {s1 : Shared} {e : Addr} {C : Value} {dx : Option Addr} {tb : Value} (I : Inw (cxOf (CXe P w) P w K mg base N qual scope f cd A outer s H E) pins σ H1 s1)
    (he : H1 e = some (XO e C dx)) (x : XObj s1.heap e C dx tb) (t : TbOk s1.heap tb) (hte : tb ≠ .ref e) (hn : ∀ T, tb = .ref T → H1 T = none ∧ s.heap.objs.size ≤ T) (hs : s.heap.objs.size ≤ e) (q : E (.ref e) none H1) :
    (cxOf (CXe P w) P w K mg base N qual scope f cd A outer s H E).xe (.ref e) s1 := by
  have elt : e < s1.heap.objs.size := let ⟨_, _, he, _⟩ := x; Heap.lt_size he
  refine leave_x (base := base) I.ok.frames I.stack rfl x t hte fun h' T hT xo tt k => ?_
  exact ⟨e, C, dx, T, H1, rfl, I.os, I.bare, KeptX.un k I he xo.xp fun T0 z => .inr (hn T0 z).2, KeptX.hok I k he (fun T0 z => (hn T0 z).1) xo.xp, hs, Nat.le_trans I.sz hT, Nat.ne_of_gt (Nat.lt_of_lt_of_le elt hT), he, I.hok.fresh hT, xo, tt, q⟩
theorem passX : Passes (CXe P w) (cxOf (CXe P w) P w K mg base N qual scope f cd A outer s H E) E := by
  intro pins σ H1 s1 ev s' I h
  obtain ⟨e, C, dx, T, H', rfl, os, bare, un, hok, l1, l2, te, he, hT, xo, tt, q⟩ := h
  obtain ⟨hh, g, d, t, os'⟩ := s'
  obtain rfl : os' = s1.os := os
  have J := I.call (h' := hh) (g' := g) (d' := d) (t' := t) (ch := []) un hok bare (fun b z => absurd z (by simp))
  refine leave_cx J he xo (.inr ⟨T, rfl, tt⟩) (fun z => te (Value.ref.inj z)) (fun T0 z => ?_) (Nat.le_trans I.sz l1) q
  obtain rfl : T = T0 := Value.ref.inj z
  exact ⟨hT, Nat.le_trans I.sz l2⟩
theorem Fun.okX {x : Str} {st : Stmt} {fd : FuncData} {ps : List Str} {k : Nat} {sp : Sp} (F : Fun K x qual st f fd) (S : FnScope N ps (defScope st)) (len : ∀ vs H Q E, sp vs H Q E → vs.length = ps.length)
    (hbody : ∀ (cdv : Value) (A : Around) (outer : List Env) (s : Shared) (H : Hp) (vs : List V) (Q : VK) (E : XK), Room k (A.deeper (envOfC qual (defScope st) s.heap.objs.size f cdv)) → sp vs H Q E →
      ∃ t, PSs (cxOf (CXe P w) P w K mg base N qual (defScope st) f cdv A outer s H E) (defBody st) t ∧ t { nx := fun _ H' => Q .non H', rt := Q } (start N vs) H) : FnOk P w K mg base (CXe P w) (k + 1) f fd ps sp := by
  obtain ⟨oc, od, kV, doc, pm, an, cdv, ct, osl, rfl, lk, hcd⟩ := F.ex
  exact fn_of lk hcd S len fun A outer s H vs Q E hr hsp => hbody cdv A outer s H vs Q E hr hsp
end

end L2

namespace L2
open PySem PySem.Spec PyProof.Rows
abbrev bmV : List Value := [.type "ValueError", .type "Exception", .type "BaseException", .type "object"]
abbrev xTup (vs : List Value) : Obj := { cls := .type "tuple", data := .seq vs.toArray }
abbrev xNew (C t : Addr) : Obj := { cls := .ref C, data := .fields #[.ref t, .none, .none, .none, .bool false, .none] }
section
variable {prog : Program} {w : World} {A : Around} {E : Value → Shared → Prop} {h : Heap} {g : Array GenState} {d : Drawn} {t : Nat} {os : OsState} {K : PySem.W.Frag}
variable {nm qn : Str} {C N fI : Addr} {bs bm : List Value} {hdct : Bool} {sn : List Str} {sub : List Value} {ab : Bool} {col : Option Bool} {dd : Option Addr} {k0 k1 k2 k3 k5 : Option Value}
theorem typecall_x {rest : List Value} {Q : Fin → Shared → Prop} (X : K.In h) (hC : h.get? C = some (excClassObj nm qn C N bs bm hdct sn sub ab col dd k0 k1 k2 k3 k5 "ValueError.__new__")) (T : OwnTail h bmV bm)
    (hi : PySem.W.findIn K (.ref C) "__init__" = some (some (.ref fI))) (hf : PySem.W.isFn K (.ref fI) = true) (hrest : rest.length ≤ sizeLine)
    (q : wpAny (model prog w) A (call (.ref fI) (.ref (h.objs.size + 1) :: rest)) (fun r s' => r = .none ∧ Q (.done (.ret (.ref (h.objs.size + 1)))) s') E ⟨(h.push (xTup rest)).push (xNew C h.objs.size), g, d, t, os⟩) :
    wpAny (model prog w) A (Builtin.«type.__call__» ⟨.ref C :: rest, []⟩) Q E ⟨h, g, d, t, os⟩ := by
  have V := F.excBase_ValueError
  repeat (first
    | with_reducible refine wpAny_madeBy_exc hC ?_
    | with_reducible refine wpAny_loadPart_at hC ?_
    | wp_step)
  refine codeAny_call_builtin_code (Code.quiet_builtin _ V.quiet) (wpAny_check_new_subT V T hC (codeAny_exc_new_subT V T hC ?_ hrest))
  show wpAny _ _ _ _ _ _
  have kp : ∀ b o, h.get? b = some o → ((h.push (xTup rest)).push (xNew C h.objs.size)).get? b = some o := fun b o e => Heap.get?_push_of_some _ (Heap.get?_push_of_some _ e)
  have hx : ((h.push (xTup rest)).push (xNew C h.objs.size)).get? (h.objs.size + 1) = some (xNew C h.objs.size) := by heap_get
  have self : (Value.ref C :: bm).contains (.ref C) = true := by simp
  unfold isInstance
  repeat (first
    | with_reducible refine wpAny_loadPart_at hx ?_
    | (with_reducible refine wpAny_isSubtype_exc (kp _ _ hC) ?_; rw [self])
    | wp_step)
  show wpAny _ _ (typeLookup (.ref C) _) _ _ _
  refine PySem.W.looks_findIn X hi _ _ _ _ kp ?_
  dsimp only
  refine wpAny_holding (wpAny_bind (PySem.W.bind_fn X (.ref (h.objs.size + 1)) (beq_iff_eq.mp hf) _ _ _ _ kp (wpAny_bind (wpAny_mono q (fun r s' z => ?_) fun _ _ z => z))))
  obtain ⟨rfl, z⟩ := z
  wp_walk
  exact z
theorem call_x {rest : List Value} {Q : Value → Shared → Prop} (X : K.In h) (hC : h.get? C = some (excClassObj nm qn C N bs bm hdct sn sub ab col dd k0 k1 k2 k3 k5 "ValueError.__new__")) (T : OwnTail h bmV bm)
    (hi : PySem.W.findIn K (.ref C) "__init__" = some (some (.ref fI))) (hf : PySem.W.isFn K (.ref fI) = true) (hrest : rest.length ≤ sizeLine)
    (q : wpAny (model prog w) (A.under (.builtin "type.__call__" ⟨.ref C :: rest, []⟩)) (call (.ref fI) (.ref (h.objs.size + 1) :: rest)) (fun r s' => r = .none ∧ Q (.ref (h.objs.size + 1)) s') E ⟨(h.push (xTup rest)).push (xNew C h.objs.size), g, d, t, os⟩) :
    wpAny (model prog w) A (call (.ref C) rest) Q E ⟨h, g, d, t, os⟩ := by
  have hT : (⟨h, g, d, t, os⟩ : Shared).TypeIs (.ref C) "type" := ⟨_, hC, rfl⟩
  have look := tc_lookup
  have bnd := tc_bind (.ref C)
  refine wpAny_call (codeAny_of_tree ?_)
  show wpAny _ _ (callAny (.ref C) _) _ _ _
  repeat (any_goals (first
    | assumption
    | with_reducible refine wpAny_loadPart_at hC ?_
    | wp_step))
  refine ⟨rfl, codeAny_call_builtin_at (Code.quiet_builtin _ (by decide +kernel)) entry_typeCall (wpAny_check_type_call_sub hC (typecall_x X hC T hi hf hrest ?_))⟩
  exact q
end
section
open PySem.W Builtin Builtin.ObjectAttr
variable {prog : Program} {w : World} {A : Around} {E : Value → Shared → Prop} {s : Shared} {K : PySem.W.Frag} {C FE x : Addr} {o : Obj} {name : Str} {v : Value} {cd : ClassData} {vs : Array Value}
theorem saStep_x {tk : Tok} {R : Result → Shared → Prop} (X : K.In s.heap) (hcd : clsIn K C = some cd) (hm : cd.mro = .ref C :: .ref FE :: bmV) (hna : findIn K (.ref C) name = some none) (I : PySem.W.InstAt s.heap x o C none)
    (q : wpAny (model prog w) A.in1 (storeInOwnDict (.ref x) (.ref C) (.str name tk) name v false) (fun fin s' => match fin with | .done f => R (.ok f) s' | .again c' => c'.quiet = true ∧ codeAny (model prog w) A c' R s') (fun e s' => R (.error e) s') s) :
    codeAny (model prog w) A (.call (.builtin "object.__setattr__") ⟨[.ref x, .str name tk, v], []⟩) R s := by
  have V := PySem.F.store_ValueError
  have isO : Looks (model prog w) s.heap (isInstance (.ref x) (.type "object")) true := I.type.andThen (looks_mroIn X (by unfold mroIn; rw [hcd, Option.bind_some, hm]; rfl))
  have mro : Looks (model prog w) s.heap (mroOf (.ref C)) cd.mro := (looks_clsIn X hcd).andThen .now
  refine codeAny_call_builtin V.slot.plain V.entry (@check_slot (model prog w) _ _ s "object.__setattr__" "object" "__setattr__" (.ref x) [.str name tk, v] [] _ V.kind V.split isO (V.args _ _ _) ?_)
  rw [osa_eq, refuse_eq]
  refine wpAny_bind (wpAny_bind (I.type.here (wpAny_bind (mro.here ?_))))
  rw [hm, refuseLoop_ref, refuseLoop_ref, V.passes]
  exact wpAny_pure (wpAny_bind (I.type.here (wpAny_bind ((looks_findIn X hna).here (wpAny_bind (wpAny_pure q))))))
theorem store_x {Q : Unit → Shared → Prop} (X : K.In s.heap) (hcd : clsIn K C = some cd) (hm : cd.mro = .ref C :: .ref FE :: bmV) (hdc : cd.hasDict = true) (hna : findIn K (.ref C) name = some none)
    (hsa : findIn K (.ref C) "__setattr__" = some (some (.builtin "object.__setattr__"))) (hx : s.heap.get? x = some o) (hc : o.cls = .ref C) (hd : o.dict = none) (hv : o.data = .fields vs)
    (q : ∀ h' tk, h'.get? x = some { o with dict := some s.heap.objs.size } → h'.Ns1 s.heap.objs.size (fun y => if y = name then some v else none) → (∀ b ob, b ≠ x → s.heap.get? b = some ob → h'.get? b = some ob) → Q () { s with heap := h', toks := tk }) :
    wpAny (model prog w) A (setAttr (.ref x) name v) Q E s := by
  have I : PySem.W.InstAt s.heap x o C none := ⟨hx, hc, by obtain ⟨_, _, dt, _⟩ := o; obtain rfl : dt = _ := hv; rfl, by rw [hd]; trivial⟩
  have V := PySem.F.store_ValueError
  unfold setAttr callSpecial? specialOf
  refine wpAny_bind (wpAny_mkText (wpAny_bind (wpAny_bind (wpAny_bind (I.type _ _ _ _ (fun _ _ z => z) (looks_findIn X hsa _ _ _ _ (fun _ _ z => z) ?_))))))
  dsimp only
  refine wpAny_holding (wpAny_bind (wpAny_of_eq (V.slot.bind _) ?_))
  dsimp only
  refine wpAny_bind (wpAny_call (saStep_x (s := { s with toks := s.toks + 1 }) X hcd hm hna I ?_))
  obtain ⟨oc, od, oda, osl⟩ := o
  dsimp only at hc hd hv
  subst hc hd hv
  refine wpAny_bind (wpAny_pure (wpAny_bind (wpAny_bind (wpAny_loadPart hx (wpAny_bind (looks_clsIn X hcd _ _ _ _ (fun _ _ z => z) ?_))))))
  rw [hdc]
  dsimp only
  rw [if_neg (by decide), if_neg (by simp [typeHasDict])]
  have xlt : x < s.heap.objs.size := Heap.lt_size hx
  have hx1 := Heap.get?_push_of_some (h := s.heap) { cls := .type "dict", data := .dict #[] } hx
  refine wpAny_bind (wpAny_alloc (wpAny_bind (wpAny_update hx1 (wpAny_pure ?_))))
  dsimp only
  have gd : ((s.heap.push { cls := .type "dict", data := .dict #[] }).update x fun o => { cls := o.cls, dict := some s.heap.objs.size, data := o.data, slots := o.slots }).get? s.heap.objs.size = some { cls := .type "dict", data := .dict #[] } :=
    (Heap.get?_update_other _ _ (Nat.ne_of_lt xlt)).trans (Heap.get?_push_size _ rfl)
  have nd : ((s.heap.push { cls := .type "dict", data := .dict #[] }).update x fun o => { cls := o.cls, dict := some s.heap.objs.size, data := o.data, slots := o.slots }).Ns s.heap.objs.size (fun _ => none) := ⟨_, #[], _, gd, rfl, fun _ z => absurd z (by simp), fun _ => rfl⟩
  unfold storeInDict newKeyGuard
  refine wpAny_bind (wpAny_pure (wpAny_bind (wpAny_nsSet1 (Heap.Ns1.of_empty nd) fun h2 n2 sb => ?_)))
  obtain ⟨oD, esD, epD, hoD, hdD, hcD⟩ := n2.count (Within.cons name v Within.nil)
  refine wpAny_bind (wpAny_lookBehind hoD (by rw [hdD]; exact pastItsLine_dict (Nat.le_trans hcD (by rw [sizeLine_eq]; simp))) (wpAny_pure (wpAny_pure (wpAny_pure (q h2 _ ?_ n2 fun b ob hbx hb => ?_)))))
  · refine (sb.2 x (Nat.ne_of_lt xlt)).trans (Heap.get?_update_self _ hx1 rfl)
  · exact (sb.2 b (Nat.ne_of_lt (Heap.lt_size hb))).trans ((Heap.get?_update_other _ _ (Ne.symm hbx)).trans (Heap.get?_push_of_some _ hb))
end
def XPn (e : Addr) (C : Value) (dx : Option Addr) (h : Heap) : Prop := ∃ (oe : Obj) (vs : Array Value), h.get? e = some oe ∧ oe.cls = C ∧ oe.dict = dx ∧ oe.data = .fields vs ∧ vs[1]? = some .none ∧ vs[2]? = some .none
theorem XPn.on {h : Heap} {e : Addr} {C : Value} {dx : Option Addr} (x : XPn e C dx h) : XObj h e C dx .none := let ⟨oe, vs, he, hc, hd, hv, h1, h2⟩ := x; ⟨oe, vs, he, hc, hd, hv, h1, fun _ => h2⟩
def XN (e : Addr) (C : Value) (dx : Option Addr) : HO := .ext (XPn e C dx)
theorem XPn.obj {P : Program} {w : World} {H : Hp} {h : Heap} {e : Addr} {C : Value} {dx : Option Addr} (x : XPn e C dx h) : ObjOk P w H h e (XN e C dx) := by
  obtain ⟨oe, vs, he, r⟩ := id x
  refine ⟨x, ⟨oe, he⟩, fun h1 h2 y k => ?_⟩
  obtain ⟨o1, v1, g1, r1⟩ := y
  exact ⟨o1, v1, k o1 g1, r1⟩
theorem XN.at {P : Program} {w : World} {H : Hp} {h : Heap} {e : Addr} {C : Value} {dx : Option Addr} (k : HOk P w H h) (x : H e = some (XN e C dx)) : XPn e C dx h := (k e _ x).1
def strKeys (es : Array DictEntry) : Bool := es.toList.all fun e => match e.key with
  | .str _ _ => true
  | _ => false
structure XCls (K : PySem.W.Frag) (C FE : Addr) : Prop where
  ob : ∃ (nm qn : Str) (N : Addr) (bs : List Value) (sn : List Str) (sub : List Value) (ab : Bool) (col : Option Bool) (dd : Option Addr) (k0 k1 k2 k3 k5 : Option Value), K.lookup C = some (excClassObj nm qn C N bs (.ref FE :: bmV) true sn sub ab col dd k0 k1 k2 k3 k5 "ValueError.__new__")
  fe : ∃ (c0 : Value) (dd : Option Addr) (cd : ClassData) (sl : Array (Option Value)) (c1 : Value) (d1 : Option Addr) (es : Array DictEntry) (n : Nat) (sl1 : Array (Option Value)), K.lookup FE = some ⟨c0, dd, .cls cd, sl⟩ ∧ K.lookup cd.ns = some ⟨c1, d1, .dict es n, sl1⟩ ∧ strKeys es = true ∧ nsFind es "__init__" = none
  sa : PySem.W.findIn K (.ref C) "__setattr__" = some (some (.builtin "object.__setattr__"))
theorem XCls.cd {K : PySem.W.Frag} {C FE : Addr} (x : XCls K C FE) : ∃ cd, PySem.W.clsIn K C = some cd ∧ cd.mro = .ref C :: .ref FE :: bmV ∧ cd.hasDict = true := by
  obtain ⟨nm, qn, N, bs, sn, sub, ab, col, dd, k0, k1, k2, k3, k5, l⟩ := x.ob
  have q : PySem.W.clsIn K C = some { name := nm, bases := bs, mro := .ref C :: .ref FE :: bmV, ns := N, qualname := qn, hasDict := true, slotNames := sn, subclasses := sub, abstract := ab, collection := col, hasDel := false } := by
    unfold PySem.W.clsIn
    rw [l]
  exact ⟨_, q, rfl, rfl⟩
theorem XCls.tail {K : PySem.W.Frag} {C FE : Addr} {h : Heap} (x : XCls K C FE) (X : K.In h) : OwnTail h bmV (.ref FE :: bmV) := by
  obtain ⟨c0, dd, cd, sl, c1, d1, es, n, sl1, l1, l2, sk, ni⟩ := x.fe
  refine .own (X _ _ l1) ⟨_, es, n, X _ _ l2, rfl, fun e he => ?_, fun _ => rfl⟩ ni .base
  have z := List.all_eq_true.mp sk e (by simpa using he)
  cases ek : e.key with
  | str nm t => exact ⟨nm, t, rfl⟩
  | _ => rw [ek] at z; cases z
def tXfld (K : PySem.W.Frag) (f : Str) (ta tv : TE) : TS := fun D σ H => tv σ H fun y H1 => ta σ H1 fun x H2 => ∃ e C FE, x = .ref e ∧ H2 e = some (XN e (.ref C) none) ∧ XCls K C FE ∧ PySem.W.findIn K (.ref C) f = some none ∧
  ∀ dx, H2 dx = none → D.nx σ (upd (upd H2 e (XN e (.ref C) (some dx))) dx (.xd [(f, y)]))
theorem ps_xfld {X : Cx} {o value : Expr} {f : Str} {ta tv : TE} {pos pos' : Pos} (ha : PE X o ta) (hv : PE X value tv) (hs : swapsWith value (some (.Attribute o f pos')) pos.line X.env = pure false) : PS X (.Assign [.Attribute o f pos'] value pos) (tXfld X.K f ta tv) := by
  intro pins s σ H D I h
  refine plainObj_wpAny_Assign_Attribute (thn (hv pins s σ H _ I h) fun u s1 ⟨y, H1, I1, ry, q⟩ => thn (ha pins s1 σ H1 _ I1 q) fun ov s2 ⟨x, H2, I2, rx, e, C, FE, ex, he, xc, hna, q2⟩ => ?_) hs
  subst ex
  obtain rfl : ov = Value.ref e := rx
  obtain ⟨oe, vs, g1, g2, g3, g4, g5⟩ := XN.at I2.hok he
  obtain ⟨cd, c1, c2, c3⟩ := xc.cd
  have fr : H2 s2.heap.objs.size = none := I2.hok.fresh (Nat.le_refl _)
  have elt : e < s2.heap.objs.size := Heap.lt_size g1
  refine store_x I2.kIn c1 c2 c3 hna xc.sa g1 g2 g3 g4 fun h' tk k1 k2 k3 => ⟨σ, _, ?_, q2 _ fr⟩
  have J : Inw X pins σ (upd H2 e (XN e (.ref C) (some s2.heap.objs.size))) { s2 with heap := h', toks := tk } :=
    I2.write (x := e) (e := e) (by rw [he]; trivial) (.inl rfl) (fun b ob hb z => k3 b ob hb z) ⟨_, k1⟩ (XPn.obj ⟨_, vs, k1, g2, rfl, g4, g5⟩)
  obtain ⟨a0, a1, a2, a3, a4, a5⟩ := I2.fpOk (H' := H2) (b := s2.heap.objs.size) (Nat.le_refl _) fr
  refine J.track (by rw [upd_ne (Nat.ne_of_gt elt)]; exact fr) a1 I2.sz a4 a5 ⟨_, k2, fun g => ?_⟩
  show RelO (List.lookup g [(f, y)]) (if g = f then some u else none)
  rw [List.lookup_cons]
  by_cases z : g = f
  · subst z
    simp
    exact ry
  · rw [if_neg z, show (g == f) = false by simpa using z]
    trivial

theorem raise_x {M : Model} {A : Around} {E : Value → Shared → Prop} {s : Shared} {env : Env} {x : Sem Value} {Q : Flow → Shared → Prop} {nm qn : Str} {C N : Addr} {bs bm : List Value} {hdct : Bool} {sn : List Str} {sub : List Value} {ab : Bool} {col : Option Bool} {dd : Option Addr} {k0 k1 k2 k3 k5 : Option Value} {newId : String}
    (hb : bm.contains (.type "BaseException") = true) (hh : A.handled = none)
    (h : wpAny M A x (fun v s1 => ∃ (e : Addr) (oe : Obj) (vs : Array Value), v = .ref e ∧ s1.heap.get? C = some (excClassObj nm qn C N bs bm hdct sn sub ab col dd k0 k1 k2 k3 k5 newId) ∧ s1.heap.get? e = some oe ∧ oe.cls = .ref C ∧ oe.data = .fields vs ∧ vs[1]? = some .none ∧ E (.ref e) s1) E s) :
    wpAny M A (raiseStmt env (some x) none) Q E s := by
  have isB : (Value.ref C :: bm).contains (.type "BaseException") = true := by rw [List.contains_cons, hb, Bool.or_true]
  unfold raiseStmt
  refine wpAny_bind (wpAny_mono h (fun v s1 h1 => ?_) fun _ _ z => z)
  obtain ⟨e, oe, vs, rfl, hC, he, hc, hv, h0, hE⟩ := h1
  obtain ⟨hp, g, d, tk, os⟩ := s1
  obtain ⟨oc, od, oda, osl⟩ := oe
  dsimp only at hc hv
  subst hc hv
  repeat (first
    | with_reducible refine wpAny_loadPart_at he ?_
    | with_reducible refine wpAny_loadPart_at hC ?_
    | (with_reducible refine wpAny_isSubtype_exc hC ?_; rw [isB])
    | with_reducible refine wpAny_field he rfl h0 ?_
    | wp_step)
  exact wpAny_raiseNew_none hh hE

def spXInit (K : PySem.W.Frag) (f : Str) : Sp := fun vs H Q _ => ∃ (e C FE : Addr) (y : V), vs = [.ref e, y] ∧ H e = some (XN e (.ref C) none) ∧ XCls K C FE ∧ PySem.W.findIn K (.ref C) f = some none ∧ ∀ dx, H dx = none → Q .non (upd (upd H e (XN e (.ref C) (some dx))) dx (.xd [(f, y)]))
def tRaise (C : Addr) (f : Str) (E : XK) (te : TA) : TS := fun _ σ H => te σ H fun vs H1 => ∃ y, vs = [y] ∧ ∀ e dx H', Same H1 H' → H1 e = none → H1 dx = none → H' e = some (XO e (.ref C) (some dx)) → H' dx = some (.xd [(f, y)]) → E (.ref e) none H'
section
variable {P : Program} {w : World} {K : PySem.W.Frag} {mg : Str → Option Value} {base : Heap} {N : List Str} {qual : Str} {scope : Scope} {f0 : Addr} {cd : Value} {A : Around} {outer : List Env} {s0 : Shared} {H0 : Hp} {E : XK}
theorem ps_raiseI {x f : Str} {C FE fI : Addr} {fd : FuncData} {ps : List Str} {k : Nat} {e1 : Expr} {te : TA} {p cpos pos : Pos} (xc : XCls K C FE) (hi : PySem.W.findIn K (.ref C) "__init__" = some (some (.ref fI))) (hf : PySem.W.isFn K (.ref fI) = true) (hk : PySem.W.keepIn K (.ref C) = true)
    (hna : PySem.W.findIn K (.ref C) f = some none) (F : FnOk P w K mg base CX0 k fI fd ps (spXInit K f)) (hr : Room (k + 1) (cxOf (CXe P w) P w K mg base N qual scope f0 cd A outer s0 H0 E).A) (hb : Binds K fd ps []) (hg : Gl (cxOf (CXe P w) P w K mg base N qual scope f0 cd A outer s0 H0 E) x) (hm : mg x = some (.ref C))
    (ha : PA (cxOf (CXe P w) P w K mg base N qual scope f0 cd A outer s0 H0 E) [e1] te) (hdb : (x == ("__debug__" : Str)) = false := by decide) (he : starEach [e1] (cxOf (CXe P w) P w K mg base N qual scope f0 cd A outer s0 H0 E).env = [(false, eval e1 (cxOf (CXe P w) P w K mg base N qual scope f0 cd A outer s0 H0 E).env)] := by rfl) :
    PS (cxOf (CXe P w) P w K mg base N qual scope f0 cd A outer s0 H0 E) (.Raise (some (.Call (.Name x p) [e1] [] cpos)) none pos) (tRaise C f E te) := by
  intro pins s σ H D I h
  obtain ⟨nm, qn, Nn, bs, sn, sub, ab, col, dd, k0, k1, k2, k3, k5, l⟩ := xc.ob
  rw [arm_exec_Raise]
  refine wpAny_bind (wpAny_standAt (raise_x (C := C) (nm := nm) (qn := qn) (N := Nn) (bs := bs) (bm := .ref FE :: bmV) (hdct := true) (sn := sn) (sub := sub) (ab := ab) (col := col) (dd := dd) (k0 := k0) (k1 := k1) (k2 := k2) (k3 := k3) (k5 := k5) (newId := "ValueError.__new__") rfl (I.ok.hd rfl) ?_))
  refine wpAny_bind (wpAny_mono (wpAny_Call_Name_kw (ld_glob I hg hm ?_ hdb)) (fun v s' z => wpAny_bind (wpAny_standAt (wpAny_pure z))) fun _ _ z => z)
  refine PySem.W.callWith_K (h₀ := base) I.ok.mod.kin hk (thn (ha cpos pins s σ H _ I h) fun us s1 ⟨vs, H1, I1, r, q⟩ => ⟨I1.kIn, ?_⟩) he rfl
  obtain ⟨y, rfl, q⟩ := q
  obtain ⟨u, rfl, ry⟩ := vals1 r
  have fr : H1 (s1.heap.objs.size + 1) = none := I1.hok.fresh (Nat.le_succ _)
  have gx : ((s1.heap.push (xTup [u])).push (xNew C s1.heap.objs.size)).get? (s1.heap.objs.size + 1) = some (xNew C s1.heap.objs.size) := by heap_get
  have Ja := I1.kept (h' := s1.heap.push (xTup [u])) (t' := s1.toks) fun b o z => Heap.get?_push_of_some _ z
  have xn : XPn (s1.heap.objs.size + 1) (.ref C) none ((s1.heap.push (xTup [u])).push (xNew C s1.heap.objs.size)) := ⟨_, _, gx, rfl, rfl, rfl, rfl, rfl⟩
  have J := Ja.laid (a := s1.heap.objs.size + 1) (o := XN (s1.heap.objs.size + 1) (.ref C) none) (h' := (s1.heap.push (xTup [u])).push (xNew C s1.heap.objs.size)) (t' := s1.toks) (fun b o z => Heap.get?_push_of_some _ z) (Nat.le_of_eq (Heap.size_push _ _)) xn.obj
  refine call_x (h := s1.heap) (g := s1.gens) (d := s1.drawn) (t := s1.toks) (os := s1.os) I1.kIn (I1.kIn _ _ l) (xc.tail I1.kIn) hi hf (by show 1 ≤ sizeLine; decide) ?_
  have sp : spXInit K f [.ref (s1.heap.objs.size + 1), y] (upd H1 (s1.heap.objs.size + 1) (XN (s1.heap.objs.size + 1) (.ref C) none))
      (fun v H2 => v = .non ∧ ∃ dx, (upd H1 (s1.heap.objs.size + 1) (XN (s1.heap.objs.size + 1) (.ref C) none)) dx = none ∧ H2 = upd (upd (upd H1 (s1.heap.objs.size + 1) (XN (s1.heap.objs.size + 1) (.ref C) none)) (s1.heap.objs.size + 1) (XN (s1.heap.objs.size + 1) (.ref C) (some dx))) dx (.xd [(f, y)])) E0 :=
    ⟨_, C, FE, y, rfl, upd_same, xc, hna, fun dx hd => ⟨rfl, dx, hd, rfl⟩⟩
  have rv : Vals [V.ref (s1.heap.objs.size + 1), y] [Value.ref (s1.heap.objs.size + 1), u] := .cons rfl (.cons ry .nil)
  have hl : ([Value.ref (s1.heap.objs.size + 1), u] ++ ([] : List Value)).length = ps.length := by
    have e := F.len _ _ _ _ sp
    rw [← e]
    rfl
  refine wpAny_call (codeAny_mono (F.run _ _ _ _ ⟨[Value.ref (s1.heap.objs.size + 1), u], []⟩ _ _ _ _ (hr.make C [u] []) ((Inv.env0 ⟨J, I1.pos⟩).make C [u] []) (hb _ [Value.ref (s1.heap.objs.size + 1), u] J.kIn hl) rv sp) fun r' s' hq => ?_)
  cases r' with
  | error e => exact False.elim hq
  | ok fl =>
    cases fl with
    | next => exact False.elim hq
    | brk => exact False.elim hq
    | cont => exact False.elim hq
    | ret u' =>
      obtain ⟨v, H', I3, rv', rfl, dx, hdx, rfl⟩ := J.after hq
      cases rv'
      have ned : dx ≠ s1.heap.objs.size + 1 := fun z => by rw [z, upd_same] at hdx; cases hdx
      have hd1 : H1 dx = none := by rw [upd_ne ned] at hdx; exact hdx
      have x2 := XN.at (C := .ref C) (dx := some dx) I3.hok (by rw [upd_ne (Ne.symm ned)]; exact upd_same)
      obtain ⟨oe, vs, h1, h2, h3, h4, h5, _⟩ := id x2
      have J4 : Inw _ pins σ (upd _ (s1.heap.objs.size + 1) (XO (s1.heap.objs.size + 1) (.ref C) (some dx))) s' :=
        I3.write (x := s1.heap.objs.size + 1) (e := s1.heap.objs.size + 1) (t' := s'.toks) (by rw [upd_ne (Ne.symm ned), upd_same]; trivial) (.inl rfl) (fun b ob _ z => z) ⟨_, h1⟩ (XP.obj x2.on.xp)
      refine ⟨rfl, _, oe, vs, rfl, I3.kIn _ _ l, h1, h2, h4, h5, leave_cx J4 upd_same x2.on (.inl rfl) (by simp) (fun T z => by cases z) (Nat.le_trans I1.sz (Nat.le_succ _)) (q _ dx _ (fun b o z => ?_) fr hd1 upd_same (by rw [upd_ne ned]; exact upd_same))⟩
      have n1 := ne_of_none z fr
      rw [upd_ne n1, upd_ne (ne_of_none z hd1), upd_ne n1, upd_ne n1]
      exact z
end

end L2

namespace L2
open PySem PySem.Spec PyProof.Rows
structure XCatch (K : PySem.W.Frag) (FE : Addr) : Prop where
  lk : ∃ (dd : Option Addr) (cd : ClassData) (sl : Array (Option Value)), K.lookup FE = some ⟨.type "type", dd, .cls cd, sl⟩
  ba : PySem.W.mroIn K FE (.type "BaseException") = some true
theorem match_x {M : Model} {A : Around} {E : Value → Shared → Prop} {s : Shared} {K : PySem.W.Frag} {FE C e : Addr} {oe : Obj} {b : Bool} {Q : Bool → Shared → Prop} (X : K.In s.heap) (c : XCatch K FE) (hS : PySem.W.mroIn K C (.ref FE) = some b)
    (he : s.heap.get? e = some oe) (hc : oe.cls = .ref C) (q : Q b s) : wpAny M A (excMatches (.ref e) (.ref FE)) Q E s := by
  obtain ⟨dd, cd, sl, l⟩ := c.lk
  have hF := X _ _ l
  have f := tc_notTuple
  have g1 := PySem.W.looks_mroIn (M := M) X c.ba
  have g2 := PySem.W.looks_mroIn (M := M) X hS
  obtain ⟨hp, g, d, tk, os⟩ := s
  dsimp only at X hF he g1 g2
  have g1' : ∀ {A' : Around} {Q' : Bool → Shared → Prop} {E' : Value → Shared → Prop}, Q' true ⟨hp, g, d, tk, os⟩ → wpAny M A' (isSubtype (.ref FE) (.type "BaseException")) Q' E' ⟨hp, g, d, tk, os⟩ := fun z => g1 _ _ _ _ (fun _ _ z => z) z
  have g2' : ∀ {A' : Around} {Q' : Bool → Shared → Prop} {E' : Value → Shared → Prop}, Q' b ⟨hp, g, d, tk, os⟩ → wpAny M A' (isSubtype (.ref C) (.ref FE)) Q' E' ⟨hp, g, d, tk, os⟩ := fun z => g2 _ _ _ _ (fun _ _ z => z) z
  unfold excMatches isInstance isExcClass
  repeat (first
    | (with_reducible refine wpAny_loadPart_at he ?_; rw [hc])
    | with_reducible refine wpAny_loadPart_at hF ?_
    | with_reducible refine g1' ?_
    | with_reducible refine g2' ?_
    | wp_step)
  cases b with
  | true => wp_walk; exact q
  | false => wp_walk; exact q
def xeT (X : Cx) (pins : List (Addr × Obj)) (W : St → Addr → Hp → Prop) (ev : Value) (s' : Shared) : Prop := ∃ (e : Addr) (C : Value) (dx : Option Addr) (T : Addr) (σ : St) (H' : Hp), ev = .ref e ∧ Inw X pins σ H' s' ∧ H' e = some (XO e C dx) ∧ T ≠ e ∧ FpOk X pins H' T ∧ XObj s'.heap e C dx (.ref T) ∧ TbAt s'.heap T .none ∧ W σ e H'
def Cx.tr (X : Cx) (pins : List (Addr × Obj)) (W : St → Addr → Hp → Prop) : Cx := { X with pn := X.pn ++ pins, xe := xeT X pins W }
def Cx.hn (X : Cx) (ev : Value) : Cx := { X with A := X.A.mark (some ev), calm := false, xe := fun _ _ => False }
section
variable {X : Cx} {pins pins' : List (Addr × Obj)} {σ : St} {H : Hp} {s : Shared} {W : St → Addr → Hp → Prop} {ev : Value}
theorem Inw.tr (I : Inw X pins σ H s) : Inw (X.tr pins W) [] σ H s :=
  ⟨⟨I.ok.mod, I.ok.kind, I.ok.glob, I.ok.blt, I.ok.above, I.ok.inj, I.ok.has, I.ok.cab, I.ok.hd, I.ok.frames, I.ok.stk, I.ok.exf, I.ok.bs, I.ok.bsz, I.ok.noex, I.ok.exfs, I.ok.funs, I.ok.frf⟩,
    I.os, I.bare, I.base, I.loc, I.cell, I.free, I.freeC, fun p hp => I.pin p (by rw [List.append_nil] at hp; exact hp), I.hok, I.len⟩
theorem Inw.untr (I : Inw (X.tr pins W) pins' σ H s) : Inw X pins σ H s :=
  ⟨⟨I.ok.mod, I.ok.kind, I.ok.glob, I.ok.blt, I.ok.above, I.ok.inj, I.ok.has, I.ok.cab, I.ok.hd, I.ok.frames, I.ok.stk, I.ok.exf, I.ok.bs, I.ok.bsz, I.ok.noex, I.ok.exfs, I.ok.funs, I.ok.frf⟩,
    I.os, I.bare, I.base, I.loc, I.cell, I.free, I.freeC, fun p hp => I.pin p (List.mem_append_left _ hp), I.hok, I.len⟩
theorem Inw.hn (I : Inw X pins σ H s) : Inw (X.hn ev) pins σ H s :=
  ⟨⟨I.ok.mod, I.ok.kind, I.ok.glob, I.ok.blt, I.ok.above, I.ok.inj, I.ok.has, I.ok.cab, fun z => (by cases z), I.ok.frames, I.ok.stk, I.ok.exf, I.ok.bs, I.ok.bsz, I.ok.noex, I.ok.exfs, I.ok.funs, I.ok.frf⟩,
    I.os, I.bare, I.base, I.loc, I.cell, I.free, I.freeC, I.pin, I.hok, I.len⟩
theorem Inw.unhn (hd : X.calm = true → X.A.handled = none) (I : Inw (X.hn ev) pins σ H s) : Inw X pins σ H s :=
  ⟨⟨I.ok.mod, I.ok.kind, I.ok.glob, I.ok.blt, I.ok.above, I.ok.inj, I.ok.has, I.ok.cab, hd, I.ok.frames, I.ok.stk, I.ok.exf, I.ok.bs, I.ok.bsz, I.ok.noex, I.ok.exfs, I.ok.funs, I.ok.frf⟩,
    I.os, I.bare, I.base, I.loc, I.cell, I.free, I.freeC, I.pin, I.hok, I.len⟩
end
def tCallT (sp : Sp) (W : St → Addr → Hp → Prop) (t : TA) : TE := fun σ H Q => t σ H fun vs H1 => ∃ E : XK, sp vs H1 Q E ∧ ∀ e H', E (.ref e) none H' → W σ e H'
theorem pe_callT {X : Cx} {pins : List (Addr × Obj)} {W : St → Addr → Hp → Prop} {k : Nat} {f : Addr} {fd : FuncData} {ps : List Str} {sp : Sp} {x : Str} {p pos : Pos} {e : Expr} {es : List Expr} {t : TA} (F : FnOk X.prog X.w X.K X.mg X.base (CXe X.prog X.w) k f fd ps sp) (hr : Room k X.A) (hg : Gl X x)
    (hm : X.mg x = some (.ref f)) (hk : PySem.W.keepIn X.K (.ref f) = true) (hb : Binds X.K fd ps []) (ha : PA (X.tr pins W) (e :: es) t) (hdb : (x == ("__debug__" : Str)) = false := by decide)
    (he : starEach (e :: es) X.env = (false, eval e X.env) :: starEach es X.env := by rfl) (hpl : (backTo pos (starEach es X.env)).any (·.1) = false := by rfl) : PE (X.tr pins W) (.Call (.Name x p) (e :: es) [] pos) (tCallT sp W t) := by
  intro pins' s σ H Q I h
  refine wpAny_Call_Name_kw (ld_glob I hg hm ?_ hdb)
  refine PySem.W.callWith_K (h₀ := X.base) I.ok.mod.kin hk (thn (ha pos pins' s σ H _ I h) fun us s1 ⟨vs, H1, I1, r, q⟩ => ⟨I1.kIn, ?_⟩) he hpl
  obtain ⟨E, hsp, hW⟩ := q
  have hl : (us ++ ([] : List Value)).length = ps.length := by rw [List.append_nil, ← r.length]; exact F.len _ _ _ _ hsp
  have hb1 := hb s1 us I1.kIn hl
  rw [List.append_nil] at hb1
  refine wpAny_call (codeAny_mono (F.run X.A X.stack s1 H1 ⟨us, []⟩ us vs Q E hr I1.env0 hb1 r hsp) fun r' s' hq => ?_)
  cases r' with
  | error ev =>
    obtain ⟨e, C, dx, T, H', rfl, os, bare, un, hok, l1, l2, te, he, hT, xo, tt, qE⟩ := hq
    exact ⟨e, C, dx, T, σ, H', rfl, I1.untr.call' os un hok bare (fun b z => absurd z (by simp)), he, te, I1.untr.fpOk l2 hT, xo, tt, hW e H' qE⟩
  | ok fl =>
    cases fl with
    | ret u => exact I1.after hq
    | next => exact False.elim hq
    | brk => exact False.elim hq
    | cont => exact False.elim hq
section
variable {X : Cx} {pins : List (Addr × Obj)} {σ : St} {H : Hp} {s : Shared}
theorem Inw.gone {i : Nat} {x : Str} {h' : Heap} {m : Str → Option Value} {v : Option Value} {tk : Nat} (I : Inw X pins σ H s) (hN : X.N.Nodup) (hi : X.N[i]? = some x) (hk : X.env.scope.names.lookup x = some .local) (hm : s.heap.Ns X.env.locals m)
    (hl : ∀ (j : Nat) (y : Str) (u : V), X.N[j]? = some y → σ[j]? = some (some u) → Vis X.env.scope y → ∃ z, RelV u z ∧ Look X.env s.heap m y z)
    (n' : h'.Ns X.env.locals (fun y => if y = x then v else m y)) (sb : Heap.SameBut X.env.locals s.heap h') : Inw X pins (σ.set i none) H { s with heap := h', toks := tk } := by
  have lt : ∀ b o, X.s₀.heap.get? b = some o → b ≠ X.env.locals := fun b o e => Nat.ne_of_lt (Nat.lt_of_lt_of_le (Heap.lt_size e) I.ok.above)
  obtain ⟨oL, _, _, hoL, _⟩ := id hm
  refine ⟨I.ok, I.os, I.bare, ⟨fun b o e n hb hx => (sb.2 b (lt b o e)).trans (I.base.keep b o e n hb hx), fun b o e n hb hx => ?_, I.base.free, fun b o e hx => ?_, I.base.tups, I.base.frzs, I.base.tbls⟩, ⟨_, n', fun j y u e1 e2 e3 => ?_⟩, fun y c e => ?_, I.free, I.freeC, fun p hp => ?_, fun b ob e => ?_, by simpa using I.len⟩
  · obtain ⟨sl, e1⟩ := I.base.slot b o e n hb hx
    exact ⟨sl, (sb.2 b (lt b o e)).trans e1⟩
  · obtain ⟨o', e1⟩ := I.base.there b o e hx
    exact ⟨o', (sb.2 b (lt b o e)).trans e1⟩
  · by_cases hj : j = i
    · subst hj
      rw [List.getElem?_set] at e2
      simp at e2
    · rw [List.getElem?_set_ne (Ne.symm hj)] at e2
      obtain ⟨z, r, q⟩ := hl j y u e1 e2 e3
      refine ⟨z, r, ?_⟩
      rcases q with ⟨k, e⟩ | ⟨k, c, e, w⟩
      · have ne : y ≠ x := fun e => hj (nodup_ix hN e1 (e ▸ hi))
        exact .inl ⟨k, by simp [ne, e]⟩
      · exact .inr ⟨k, c, e, w.sameBut sb (I.cne y c e)⟩
  · obtain ⟨w, z⟩ := I.cell y c e
    exact ⟨w, z.sameBut sb (I.cne y c e)⟩
  · obtain ⟨e, n, ne, nf, d⟩ := I.pin p hp
    exact ⟨(sb.2 p.1 ne).trans e, n, ne, nf, d⟩
  · refine (I.hok b ob e).stay (fun c w hc q => (sb.2 c ?_).trans q) (fun _ q => q) fun _ _ q => q
    intro z
    rcases hc with r | r
    · rw [← r, z, I.free] at e; cases e
    · rw [z, I.free] at r; cases r
theorem goes_x {M : Model} {A : Around} {E : Value → Shared → Prop} {i : Nat} {n : Str} {pos : Pos} {Q : Unit → Shared → Prop} (I : Inw X pins σ H s) (hN : X.N.Nodup) (hi : X.N[i]? = some n) (hk : X.env.scope.names.lookup n = some .local) (q : ∀ s', Inw X pins (σ.set i none) H s' → Q () s') :
    wpAny M A (do bindName X.env n .none; unbindBehindTheSuite X.env n pos) Q E s := by
  refine wpAny_bind (wpAny_bindName (store_ok (v := .non) (u := .none) I hN hi (.inl hk) rfl (fun s1 I1 => ?_) (.inr hk)))
  have hiσ : i < σ.length := by rw [I.len]; exact (List.getElem?_eq_some_iff.mp hi).1
  obtain ⟨m, hm, hl⟩ := id I1.loc
  obtain ⟨z, rz, lk⟩ := hl i n .non hi (List.getElem?_set_self hiσ) (.inl hk)
  have hmn : m n = some z := by
    rcases lk with ⟨_, e⟩ | ⟨k, _⟩
    · exact e
    · rcases k with k | k
      · rw [show X.env.kindOf n = some .local from hk] at k; cases k
      · rw [show X.env.kindOf n = some .local from hk] at k; cases k
  have hcls : (X.env.scope.kind == .class || (X.env.scope.kind == .module && X.env.locals != X.env.globals)) = false := by rw [I.ok.kind]; rfl
  unfold unbindBehindTheSuite
  refine wpAny_onRaise ?_
  unfold unbindName
  refine wpAny_bind (wpAny_point (wpAny_bind ?_))
  unfold deleteName
  simp only [show X.env.kindOf n = some .local from hk, hcls]
  rw [if_neg (by decide)]
  refine wpAny_bind (wpAny_nsDel_keeps hm fun h2 v n2 sb => ?_)
  rw [hmn]
  simp only [Option.isSome_some, Bool.not_true, Bool.false_eq_true, if_false]
  have K := I1.gone (tk := s1.toks) hN hi hk hm hl n2 sb
  rw [List.set_set] at K
  exact wpAny_pure (wpAny_point (q _ K))
end
def tTry (K : PySem.W.Frag) (FE : Addr) (i : Nat) (tb : (St → Addr → Hp → Prop) → TS) (th : TS) : TS := fun D σ H => ∃ W : St → Addr → Hp → Prop, tb W D σ H ∧ ∀ σ' e C dx H', W σ' e H' → H' e = some (XO e C dx) → ∃ Ca, C = .ref Ca ∧ PySem.W.mroIn K Ca (.ref FE) = some true ∧
  th { nx := fun σ2 H2 => D.nx (σ2.set i none) H2, rt := D.rt, bk := fun σ2 H2 => D.bk (σ2.set i none) H2, ct := fun σ2 H2 => D.ct (σ2.set i none) H2 } (σ'.set i (some (.ref e))) H'
theorem ps_tryAs {X : Cx} {body suite : List Stmt} {b0 : Stmt} {fe n : Str} {i : Nat} {FE : Addr} {tb : (St → Addr → Hp → Prop) → TS} {th : TS} {np hpos pos : Pos} (hstk : X.stack = X.env :: X.outer) (hfrm : X.env.frame = some X.env.locals)
    (hg : Gl X fe) (hm : X.mg fe = some (.ref FE)) (xc : XCatch X.K FE) (hN : X.N.Nodup) (hi : X.N[i]? = some n) (hk : X.env.scope.names.lookup n = some .local) (hb : ∀ pins W, PSs (X.tr pins W) body (tb W)) (hh : ∀ ev, PSs (X.hn ev) (b0 :: suite) th)
    (hdb : (fe == ("__debug__" : Str)) = false := by decide) : PS X (.Try body [.ExceptHandler (some (.Name fe np)) (some n) (b0 :: suite) hpos] [] [] pos) (tTry X.K FE i tb th) := by
  intro pins s σ H D I h
  obtain ⟨W, hW, hx⟩ := h
  refine wpAny_Try_except (wpAny_tok I.pos (wpAny_mono (hb pins W [] s σ H D ⟨I.tr, I.pos⟩ hW) (fun f s1 z _ => ?_) fun ev s1 z zp => ?_))
  · cases f with
    | next =>
      obtain ⟨σ1, H1, I1, q⟩ := z
      exact wpAny_execs_nil ⟨σ1, H1, I1.untr, q⟩
    | brk =>
      obtain ⟨σ1, H1, I1, q⟩ := z
      exact ⟨σ1, H1, I1.untr, q⟩
    | cont =>
      obtain ⟨σ1, H1, I1, q⟩ := z
      exact ⟨σ1, H1, I1.untr, q⟩
    | ret u =>
      obtain ⟨v, σ1, H1, I1, rv, q⟩ := z
      exact ⟨v, σ1, H1, I1.untr, rv, q⟩
  · obtain ⟨e, C, dx, T, σ1, H1, rfl, J, he, te, fp, xo, tt, w1⟩ := z
    obtain ⟨f0, f1, f2, f3, f4, f5⟩ := fp
    obtain ⟨Ca, rfl, hmro, q⟩ := hx σ1 e C dx H1 w1 he
    have elt : e < s1.heap.objs.size := let ⟨_, _, z, _⟩ := xo; Heap.lt_size z
    have hst := J.stack
    rw [hstk] at hst
    refine note_x (base := X.base) (J.ok.frames.trans (congrArg some hstk)) hst hfrm xo (.inr ⟨T, rfl, tt⟩) (fun z => te (Value.ref.inj z)) fun h1 T1 hT1 xo1 tt1 k => ?_
    rw [← hstk] at k
    have un : Un (frs X.stack) [T] H1 H1 s1.heap h1 := by
      refine ⟨fun b o z n hb hx => ?_, fun b o z n hb hx => ?_, fun _ _ _ n _ => n, fun b o z hx => ?_, fun _ _ z => z, fun _ _ _ z => z, fun b ps z => ⟨#[], by rw [z]; simp⟩⟩
      · exact k.there z (fun z => by rw [z, he] at n; cases n) (fun z => hx (by simp [Value.ref.inj z])) hb
      · obtain ⟨sl, z1, _⟩ := k b o z (fun z => by rw [z, he] at n; cases n) (fun z => hx (by simp [Value.ref.inj z]))
        exact ⟨sl, z1⟩
      · by_cases hbe : b = e
        · obtain ⟨oe, _, z1, _⟩ := xo1
          exact ⟨oe, by rw [hbe]; exact z1⟩
        · obtain ⟨sl, z1, _⟩ := k b o z hbe (fun z => hx (by simp [Value.ref.inj z]))
          exact ⟨_, z1⟩
    have J1 : Inw X pins σ1 H1 { s1 with heap := h1 } := J.call (g' := s1.gens) (t' := s1.toks) (d' := s1.drawn) (ch := [T]) un (KeptX.hok J k he (fun T0 z => by obtain rfl : T = T0 := Value.ref.inj z; exact f0) xo1.xp) J.bare fun b hb => by
      obtain rfl : b = T := by simpa using hb
      exact ⟨f3, f1, f4, f5⟩
    obtain ⟨g0, g1, g2, g3, g4, g5⟩ := J.fpOk (H' := H1) hT1 (J.hok.fresh hT1)
    have neT : T1 ≠ e := Nat.ne_of_gt (Nat.lt_of_lt_of_le elt hT1)
    refine flight_x (s := { s1 with heap := h1 }) xo1 tt1 neT fun h2 xo2 tt2 sz2 oth2 => ?_
    have J2 : Inw X pins σ1 H1 { s1 with heap := h2 } := Inw.turned (s := { s1 with heap := h1 }) (h' := h2) (t' := s1.toks) (it := T1) J1 (fun b o hb z => (oth2 b hb).trans z) g0 g1 g3 g4 g5
    refine wpAny_handleBy_cons (codeAny_handlers_test ?_) (by intro z; cases z)
    refine ld_glob (X := X.hn (.ref e)) ⟨J2.hn, zp⟩ hg hm ?_ hdb
    obtain ⟨oe, vs, z1, z2, _⟩ := id xo2
    refine match_x J2.kIn xc hmro z1 z2 ?_
    refine codeAny_handlers_suite_as ?_
    refine flight_x (s := { s1 with heap := h2 }) xo2 tt2 neT fun h3 xo3 tt3 sz3 oth3 => ?_
    have J3 : Inw X pins σ1 H1 { s1 with heap := h3 } := Inw.turned (s := { s1 with heap := h2 }) (h' := h3) (t' := s1.toks) (it := T1) J2 (fun b o hb z => (oth3 b hb).trans z) g0 g1 g3 g4 g5
    refine wpAny_tok (s := { s1 with heap := h3 }) zp (store_ok (v := .ref e) J3 hN hi (.inl hk) rfl (fun s4 J4 z4 => ?_) (.inr hk))
    refine wpAny_mono (hh (.ref e) pins s4 _ H1 _ ⟨J4.hn, z4⟩ q) (fun f s5 z => ?_) fun _ _ z => False.elim z
    cases f with
    | next =>
      obtain ⟨σ5, H5, I5, q5⟩ := z
      exact goes_x (I5.unhn J.ok.hd) hN hi hk fun s6 J6 => ⟨_, _, J6, q5⟩
    | brk =>
      obtain ⟨σ5, H5, I5, q5⟩ := z
      exact goes_x (I5.unhn J.ok.hd) hN hi hk fun s6 J6 => ⟨_, _, J6, q5⟩
    | cont =>
      obtain ⟨σ5, H5, I5, q5⟩ := z
      exact goes_x (I5.unhn J.ok.hd) hN hi hk fun s6 J6 => ⟨_, _, J6, q5⟩
    | ret u =>
      obtain ⟨v, σ5, H5, I5, rv, q5⟩ := z
      exact goes_x (I5.unhn J.ok.hd) hN hi hk fun s6 J6 => ⟨v, _, _, J6, rv, q5⟩

end L2

namespace L2
open PySem PySem.Spec PyProof.Rows
structure XAttr (K : PySem.W.Frag) (C : Addr) : Prop where
  ga : PySem.W.findIn K (.ref C) "__getattribute__" = some (some (.builtin "BaseException.__getattribute__"))
  hk : PySem.W.findIn K (.ref C) "__getattr__" = some none
  ba : PySem.W.mroIn K C (.type "BaseException") = some true
  ob : PySem.W.mroIn K C (.type "object") = some true
  hd : PySem.W.hasDictIn K C = true
  cl : PySem.W.findIn K (.ref C) "__class__" = some (some (.builtin "object.__class__"))
  cg : PySem.W.specialIn K (.builtin "object.__class__") "__get__" = some (some (.builtin "getset_descriptor.__get__"))
  ct : PySem.W.takesIn K (.builtin "object.__class__") = some true
section
open PySem.W Builtin Builtin.ObjectAttr
variable {prog : Program} {w : World} {A : Around} {E : Value → Shared → Prop} {s : Shared} {K : PySem.W.Frag} {C x : Addr} {ox : Obj} {od : Option Obj} {name : Str} {v : Value}
theorem ga_x {tk : Tok} {fill expr : Bool} {Q : Value → Shared → Prop} (X : K.In s.heap) (I : PySem.W.InstAt s.heap x ox C od) (c : XAttr K C) (hv : handedIn v = true)
    (ent : ∀ {A' : Around} {Q' : Fin → Shared → Prop} {E' : Value → Shared → Prop}, Q' (.done (.ret v)) s → wpAny (model prog w) A' (Builtin.«object.__getattribute__» ⟨[.ref x, .str name tk], []⟩) Q' E' s) (q : Q v s) :
    wpAny (model prog w) A (getAttrBy (.ref x) (.str name tk) fill expr) Q E s := by
  have V := F.attr_ValueError.ga
  have isB : Looks (model prog w) s.heap (isInstance (.ref x) (.type "BaseException")) true := I.type.andThen (looks_mroIn X c.ba)
  unfold getAttrBy
  refine wpAny_holding (wpAny_bind (I.type.here (wpAny_bind ((looks_findIn X c.ga).here ?_))))
  dsimp only
  have nga : (Value.builtin "BaseException.__getattribute__" == Value.builtin "object.__getattribute__") = false := by decide +kernel
  rw [if_neg (by rw [nga, Bool.and_false]; decide)]
  unfold getAttrByItsOwn hookBefore
  refine wpAny_bind (show wpAny _ _ (typeLookup (.ref C) _) _ _ _ from (looks_findIn X c.hk).here (wpAny_bind (wpAny_attempt (wpAny_holding ?_))))
  unfold callGetattribute boundAndCalled
  rw [if_neg (by cases expr <;> decide)]
  refine wpAny_bind (wpAny_of_eq (V.bind _) ?_)
  dsimp only
  refine wpAny_call (codeAny_call_builtin V.plain F.entry_bexc_ga (@check_slot (model prog w) _ _ s "BaseException.__getattribute__" "BaseException" "__getattribute__" (.ref x) [.str name tk] [] _ (by decide +kernel) (by decide +kernel) isB (F.args_bexc_ga _ _) (ent ?_)))
  exact handed_on hv q
theorem class_x {Q : Option Value → Shared → Prop} (X : K.In s.heap) (I : PySem.W.InstAt s.heap x ox C od) (c : XAttr K C) (hf : findObj K C od "__class__" = some (.bind (.builtin "getset_descriptor.__get__") (.builtin "object.__class__"))) (q : Q (some (.ref C)) { s with toks := s.toks + 1 }) :
    wpAny (model prog w) A (getAttr? (.ref x) "__class__") Q E s := by
  unfold getAttr? getAttrBy?
  refine wpAny_bind (wpAny_mkText (wpAny_bind (wpAny_attempt (ga_x (s := { s with toks := s.toks + 1 }) X I c rfl (fun z => ?_) (wpAny_pure q)))))
  refine wpAny_bind (wpAny_pure (wpAny_bind (wpAny_pure (wpAny_bind (I.type _ _ _ _ (fun _ _ z => z) (wpAny_bind (looks_find X I hf _ _ _ _ (fun _ _ z => z) ?_)))))))
  dsimp only
  unfold bindTo
  exact wpAny_bind (wpAny_holding (wpAny_call (class_get (s := { s with toks := s.toks + 1 }) X I c.ob (wpAny_pure z))))
theorem find_class_x (c : XAttr K C) : ∀ od : Option Obj, findObj K C od "__class__" = some (.bind (.builtin "getset_descriptor.__get__") (.builtin "object.__class__"))
  | some o => findObj_data (by have h := c.hd; unfold hasDictIn at h; cases q : clsIn K C with | none => rw [q] at h; cases h | some cd => rfl) c.cl c.cg c.ct
  | none => by
    have h := c.hd
    unfold hasDictIn at h
    cases q : clsIn K C with
    | none => rw [q] at h; cases h
    | some cd =>
      unfold findObj
      rw [q, c.cl]
      simp only [Option.bind_some, c.cg, c.ct]
theorem kitx_x {e : Addr} (c : XAttr K C) : KitX K (.ref e) (.ref C) (fun h => ∃ ox od, PySem.W.InstAt h e ox C od) where
  ty := fun _ _ _ z => let ⟨_, _, I⟩ := z; I.type
  it := fun _ _ X _ => by
    have h := c.hd
    unfold hasDictIn clsIn at h
    split at h
    · rename_i c' d' cd' sl' ho
      intro A' Q' E' s' k q
      unfold isType loadHead
      exact wpAny_bind (wpAny_loadPart (k _ _ (X _ _ ho)) (wpAny_pure q))
    · cases h
  ne := fun h tp dd its n sl X htp => by
    have hd := c.hd
    unfold hasDictIn clsIn at hd
    refine Bool.eq_false_iff.mpr fun q => ?_
    obtain rfl : C = tp := Value.ref.inj (beq_iff_eq.mp q)
    split at hd
    · rename_i ho
      have z := (X _ _ ho).symm.trans htp
      cases z
    · cases hd
  ca := fun X z k => by
    obtain ⟨ox, od, I⟩ := z
    exact class_x X I c (find_class_x c od) k
end
theorem XO.inst {P : Program} {w : World} {H : Hp} {h : Heap} {e C : Addr} {dx : Option Addr} (k : HOk P w H h) (x : H e = some (XO e (.ref C) dx)) (d : ∀ a, dx = some a → ∃ fs, H a = some (.xd fs)) : ∃ ox od, PySem.W.InstAt h e ox C od := by
  obtain ⟨oe, vs, g1, g2, g3, g4, g5⟩ := XO.at k x
  have nc : PySem.W.notCls oe = true := by obtain ⟨_, _, dt, _⟩ := oe; obtain rfl : dt = _ := g4; rfl
  cases dx with
  | none => exact ⟨oe, none, ⟨g1, g2, nc, by rw [g3]; trivial⟩⟩
  | some a =>
    obtain ⟨fs, hfs⟩ := d a rfl
    obtain ⟨mA, ⟨o, es, ep, ho, _⟩, _⟩ := (show ObjOk P w H h a (.xd fs) from k a _ hfs)
    exact ⟨oe, some o, ⟨g1, g2, nc, by rw [g3]; exact ho⟩⟩
def TyX (K : PySem.W.Frag) (H : Hp) (x : V) (t : Value) : Prop := (x = .non ∧ t = .type "NoneType") ∨ ∃ e C dx, x = .ref e ∧ t = .ref C ∧ H e = some (XO e (.ref C) dx) ∧ (∀ a, dx = some a → ∃ fs, H a = some (.xd fs)) ∧ XAttr K C
section
variable {X : Cx}
theorem call_isiX (K : PySem.W.Frag) (hK : X.K = K := by rfl) : CallR X (.builtin "isinstance") (fun xs H Q => ∃ x c t b, xs = [x, c] ∧ TyX K H x t ∧ ((∃ a, c = .ref a ∧ PySem.W.kitOne K t (.ref a) = some b) ∨ ∃ T, c = .ty T ∧ PySem.W.kitOne K t (.type T) = some b) ∧ Q (.bl b) H) := by
  subst hK
  intro pins s σ H xs us Q I r h
  obtain ⟨x, c, t, b, rfl, ty, kc, q⟩ := h
  obtain ⟨u, v, rfl, ru, rv⟩ := vals2 r
  have fin : ∀ tk, EP X pins σ Q (.bool b) { s with toks := tk } := fun tk => ⟨.bl b, H, I.tok _, rfl, q⟩
  have go : PySem.W.kitOne X.K t v = some b → wpAny (model X.prog X.w) X.A (call (.builtin "isinstance") [u, v]) (EP X pins σ Q) X.xe s := fun kv => by
    rcases ty with ⟨rfl, rfl⟩ | ⟨e, C, dx, rfl, rfl, he, hd, xa⟩
    · exact isinst_ok I ru .non kv fin
    · cases ru
      exact PySem.W.kia_one (kitx_x xa) I.kIn (XO.inst I.hok he hd) kv (fun z => nomatch z) fin
  rcases kc with ⟨a, rfl, k⟩ | ⟨T, rfl, k⟩
  · cases rv
    exact go k
  · cases rv
    exact go k
theorem pe_gref {x : Str} {C : Addr} {pos : Pos} (hg : Gl X x) (hm : X.mg x = some (.ref C)) (hdb : (x == ("__debug__" : Str)) = false := by decide) : PE X (.Name x pos) (tC (.ref C)) := fun _ _ _ H _ I h => ld_glob I hg hm ⟨.ref C, H, I, rfl, h⟩ hdb
theorem pe_gint {x : Str} {i : Int} {t : Tok} {pos : Pos} (hg : Gl X x) (hm : X.mg x = some (.int i t)) (hdb : (x == ("__debug__" : Str)) = false := by decide) : PE X (.Name x pos) (tC (.int i)) := fun _ _ _ H _ I h => ld_glob I hg hm ⟨.int i, H, I, ⟨_, rfl⟩, h⟩ hdb
end

end L2

namespace L2
open PySem PySem.Spec PyProof.Rows
section
variable {X : Cx}
theorem vals_bools : ∀ {bs : List Bool} {us : List Value} {i : Nat} {v : Value}, Vals (bs.map V.bl) us → us[i]? = some v → ∃ b, bs[i]? = some b ∧ v = .bool b
  | [], us, i, v, r, e => by cases r; simp at e
  | b :: bs, us, 0, v, r, e => by cases r with | cons r0 rs => simp at e; subst e; exact ⟨b, rfl, r0⟩
  | b :: bs, us, i + 1, v, r, e => by
    cases r with
    | cons r0 rs => obtain ⟨b', e1, e2⟩ := vals_bools (i := i) rs (by simpa using e); exact ⟨b', by simpa using e1, e2⟩
theorem call_all (K : PySem.W.Frag) (hc : X.calm = true) (hK : X.K = K := by rfl) : CallR X (.builtin "all") (fun xs H Q => ∃ (p : Addr) (bs : List Bool), xs = [.ref p] ∧ SqL K H p (bs.map V.bl) ∧ Q (.bl (bs.all id)) H) := by
  subst hK
  intro pins s σ H xs us Q I r h
  obtain ⟨p, bs, rfl, hp, q⟩ := h
  obtain ⟨u, rfl, ru⟩ := vals1 r
  cases ru
  obtain ⟨its, rv, pl, hz⟩ := I.list hp
  have lt : p < s.heap.objs.size := let ⟨o, ho, _⟩ := pl.isList; Heap.lt_size ho
  have ne : p ≠ s.heap.objs.size := Nat.ne_of_lt lt
  refine call_all_walk (wpAny_pyIter_list pl.isList ⟨_, _, _, _, _, _, fun i => bs.getD i true, rfl, Walks.list (A := X.A.in1) (I.ok.hd hc) _ p ne its.toArray, ⟨⟨_, Heap.get?_push_size _ rfl, rfl, rfl⟩, pl.isList.push _⟩, ?_, fun h' tk k => ?_⟩)
  · intro i v s' Q' E' hv hq
    obtain ⟨b, e1, rfl⟩ := vals_bools (i := i) rv (by simpa using hv)
    have e2 : bs.getD i true = b := by rw [List.getD_eq_getElem?_getD, e1]; rfl
    dsimp only at hq
    rw [e2] at hq
    exact wpAny_pure hq
  · have el : its.toArray.size = bs.length := by rw [List.size_toArray, ← rv.length, List.length_map]
    have ea : ((List.range its.toArray.size).all fun i => bs.getD i true) = bs.all id := by
      rw [el, Bool.eq_iff_iff, List.all_eq_true, List.all_eq_true]
      constructor
      · intro z b hb
        obtain ⟨i, hi⟩ := List.mem_iff_getElem?.mp hb
        have := z i (List.mem_range.mpr (List.getElem?_eq_some_iff.mp hi).1)
        rw [List.getD_eq_getElem?_getD, hi] at this
        exact this
      · intro z i hi
        have hi' := List.mem_range.mp hi
        rw [List.getD_eq_getElem?_getD, List.getElem?_eq_getElem hi']
        exact z _ (List.getElem_mem hi')
    rw [ea]
    refine ⟨.bl _, H, ?_, rfl, q⟩
    have J := I.kept (h' := s.heap.push { cls := .type "list_iterator", data := .fields #[.ref p, .int 0 0] }) (t' := s.toks) fun b o z => Heap.get?_push_of_some _ z
    obtain ⟨g0, g1, g2, g3, g4, g5⟩ := I.fpOk (H' := H) (b := s.heap.objs.size) (Nat.le_refl _) (I.hok.fresh (Nat.le_refl _))
    exact Inw.turned (s := { s with heap := s.heap.push { cls := .type "list_iterator", data := .fields #[.ref p, .int 0 0] } }) (h' := h') (t' := tk) (it := s.heap.objs.size) J (fun b o hb z => k b o (by simpa using hb) z) g0 g1 g3 g4 g5
end

end L2

namespace L2
open PySem PySem.Spec PyProof.Rows

section
variable {X : Cx}
end
theorem atI_mem {xs : List Int} {k : Int} (h0 : 0 ≤ k) (h : k < (xs.length : Int)) : ∃ z, z ∈ xs ∧ atI (xs.map V.int) k = some (.int z) := by
  obtain ⟨v, hv, hv'⟩ := atI_of (xs := xs.map V.int) h0 (by rw [List.length_map]; exact h)
  rw [List.getElem?_map] at hv'
  cases e : xs[k.toNat]? with
  | none => rw [e] at hv'; cases hv'
  | some z => rw [e] at hv'; cases hv'; exact ⟨z, List.mem_of_getElem? e, hv⟩
theorem FnOk.calm {P : Program} {w : World} {K : PySem.W.Frag} {mg : Str → Option Value} {base : Heap} {k : Nat} {f : Addr} {fd : FuncData} {ps : List Str} {sp sp' : Sp} (F : FnOk P w K mg base (CXe P w) k f fd ps sp) (h : ∀ vs H Q E, sp' vs H Q E → sp vs H Q (fun _ _ _ => False)) : FnOk P w K mg base CX0 k f fd ps sp' :=
  ⟨fun vs H Q E q => F.len vs H Q _ (h _ _ _ _ q), fun A outer s H args us vs Q E hr he hb hv hs => codeAny_mono (F.run A outer s H args us vs Q _ hr he hb hv (h _ _ _ _ hs)) fun r s' hq => by
    cases r with
    | ok fl => cases fl <;> exact hq
    | error e =>
      obtain ⟨_, _, _, _, _, _, _, _, _, _, _, _, _, _, _, _, _, z⟩ := hq
      exact z.elim⟩

end L2

namespace L2
open PySem PySem.Spec PyProof.Rows

section
variable {X : Cx} {e st : Expr} {te ts : TE} {pos p2 : Pos}
theorem fold_rep (l : List Nat) : ∀ (m : Nat) (acc : List Nat), List.foldl (fun x1 x2 => x1 ++ x2) acc.toArray (List.replicate m l.toArray) = (acc ++ (List.replicate m l).flatten).toArray
  | 0, acc => by simp
  | m + 1, acc => by
    rw [List.replicate_succ, List.foldl_cons, show acc.toArray ++ l.toArray = (acc ++ l).toArray by simp, fold_rep l m (acc ++ l), List.replicate_succ, List.flatten_cons, List.append_assoc]
theorem op_repS : OpR X (binaryOp .Mult) (fun x y H Q => ∃ z n, x = .str z ∧ y = .int n ∧ (1 < n ∧ n ≤ 1000 ∧ 0 < z.length ∧ z.length ≤ 100) ∧ ∀ r : Str, r.cps.toList = (List.replicate n.toNat z.cps.toList).flatten → Q (.str r) H) := by
  intro pins s σ H x y v u Q I rx ry h
  obtain ⟨z, n, rfl, rfl, ⟨h1, h2, h3, h4⟩, q⟩ := h
  obtain ⟨t, rfl⟩ := rx
  obtain ⟨t', rfl⟩ := ry
  have e1 : ¬ n < 1 := by omega
  have e2 : (n == 1 || z.length == 0) = false := by
    have a : (n == 1) = false := by simp; omega
    have b : (z.length == 0) = false := by simp; omega
    rw [a, b]; rfl
  have hm : z.length * n.toNat ≤ 100000 := Nat.le_trans (Nat.mul_le_mul h4 (show n.toNat ≤ 1000 by omega)) (by decide)
  have hsl := sizeLine_eq
  have ef : List.foldl (fun x1 x2 => x1 ++ x2) #[] (List.replicate n.toNat z.cps) = (List.replicate n.toNat z.cps.toList).flatten.toArray := by
    have := fold_rep z.cps.toList n.toNat []
    rw [List.nil_append] at this
    exact this
  refine P.mul_str ?_ (fun _ _ => ?_) (fun _ _ => ?_) ?_
  · rw [decide_eq_false (by omega), decide_eq_false (by omega)]; rfl
  · have : (z.length : Int) ≤ 100 := by omega
    have : (100 : Int) ≤ (2 ^ 63 - 1) / n := by
      rw [Int.le_ediv_iff_mul_le (by omega)]
      omega
    omega
  · unfold Builtin.Str.tooLong
    simp
    omega
  · rw [if_neg e1, if_neg (by rw [e2]; decide)]
    refine ⟨?_, ⟨.str _, H, I.tok _, ⟨_, rfl⟩, q _ (by rw [ef])⟩⟩
    show (List.foldl (fun x1 x2 => x1 ++ x2) #[] (List.replicate n.toNat z.cps)).size ≤ sizeLine
    rw [ef, List.size_toArray]
    have hl : (List.replicate n.toNat z.cps.toList).flatten.length = n.toNat * z.length := by
      simp [Str.length]
    rw [hl, Nat.mul_comm]
    omega
end
structure XCls0 (K : PySem.W.Frag) (C FE : Addr) : Prop where
  ob : ∃ (nm qn : Str) (N : Addr) (bs : List Value) (sn : List Str) (sub : List Value) (ab : Bool) (col : Option Bool) (dd : Option Addr) (k0 k1 k2 k3 k5 : Option Value) (c1 : Value) (d1 : Option Addr) (es : Array DictEntry) (n : Nat) (sl1 : Array (Option Value)), K.lookup C = some (excClassObj nm qn C N bs (.ref FE :: bmV) true sn sub ab col dd k0 k1 k2 k3 k5 "ValueError.__new__") ∧
    K.lookup N = some ⟨c1, d1, .dict es n, sl1⟩ ∧ strKeys es = true ∧ nsFind es "__init__" = none
  fe : ∃ (c0 : Value) (dd : Option Addr) (cd : ClassData) (sl : Array (Option Value)) (c1 : Value) (d1 : Option Addr) (es : Array DictEntry) (n : Nat) (sl1 : Array (Option Value)), K.lookup FE = some ⟨c0, dd, .cls cd, sl⟩ ∧ K.lookup cd.ns = some ⟨c1, d1, .dict es n, sl1⟩ ∧ strKeys es = true ∧ nsFind es "__init__" = none
theorem ns_of {K : PySem.W.Frag} {h : Heap} {N : Addr} {c1 : Value} {d1 : Option Addr} {es : Array DictEntry} {n : Nat} {sl1 : Array (Option Value)} (X : K.In h) (l : K.lookup N = some ⟨c1, d1, .dict es n, sl1⟩) (sk : strKeys es = true) : h.Ns N (fun y => nsFind es y) := by
  refine ⟨_, es, n, X _ _ l, rfl, fun e he => ?_, fun _ => rfl⟩
  have z := List.all_eq_true.mp sk e (by simpa using he)
  cases ek : e.key with
  | str nm t => exact ⟨nm, t, rfl⟩
  | _ => rw [ek] at z; cases z
theorem XCls0.tail {K : PySem.W.Frag} {C FE : Addr} {h : Heap} (x : XCls0 K C FE) (X : K.In h) : OwnTail h bmV (.ref FE :: bmV) := by
  obtain ⟨c0, dd, cd, sl, c1, d1, es, n, sl1, l1, l2, sk, ni⟩ := x.fe
  exact .own (X _ _ l1) (ns_of X l2 sk) ni .base
section
variable {prog : Program} {w : World} {A : Around} {E : Value → Shared → Prop} {h : Heap} {g : Array GenState} {d : Drawn} {t : Nat} {os : OsState}
variable {nm qn : Str} {C N : Addr} {bs bm : List Value} {hdct : Bool} {sn : List Str} {sub : List Value} {ab : Bool} {col : Option Bool} {dd : Option Addr} {k0 k1 k2 k3 k5 : Option Value}
theorem typecall_0 {rest : List Value} {mN : Str → Option Value} {Q : Fin → Shared → Prop} (hC : h.get? C = some (excClassObj nm qn C N bs bm hdct sn sub ab col dd k0 k1 k2 k3 k5 "ValueError.__new__")) (T : OwnTail h bmV bm) (hn : h.Ns N mN) (hni : mN "__init__" = none) (hrest : rest.length ≤ sizeLine)
    (q : ∀ h' : Heap, (∀ b o, h.get? b = some o → h'.get? b = some o) → (∃ t', h'.get? (h.objs.size + 1) = some (xNew C t')) → Q (.done (.ret (.ref (h.objs.size + 1)))) ⟨h', g, d, t, os⟩) :
    wpAny (model prog w) A (Builtin.«type.__call__» ⟨.ref C :: rest, []⟩) Q E ⟨h, g, d, t, os⟩ := by
  have V := F.excBase_ValueError
  repeat (first
    | with_reducible refine wpAny_madeBy_exc hC ?_
    | with_reducible refine wpAny_loadPart_at hC ?_
    | wp_step)
  refine codeAny_call_builtin_code (Code.quiet_builtin _ V.quiet) (wpAny_check_new_subT V T hC (codeAny_exc_new_subT V T hC ?_ hrest))
  show wpAny _ _ _ _ _ _
  have kp : ∀ b o, h.get? b = some o → ((h.push (xTup rest)).push (xNew C h.objs.size)).get? b = some o := fun b o e => Heap.get?_push_of_some _ (Heap.get?_push_of_some _ e)
  have hx : ((h.push (xTup rest)).push (xNew C h.objs.size)).get? (h.objs.size + 1) = some (xNew C h.objs.size) := by heap_get
  have self : (Value.ref C :: bm).contains (.ref C) = true := by simp
  unfold isInstance
  repeat (first
    | with_reducible refine wpAny_loadPart_at hx ?_
    | (with_reducible refine wpAny_isSubtype_exc (kp _ _ hC) ?_; rw [self])
    | wp_step)
  show wpAny _ _ (typeLookup (.ref C) _) _ _ _
  refine wpAny_typeLookup_tail (kp _ _ hC) (hn.keeps kp) (T.keeps kp) V.mroIs V.init.lookup ?_
  rw [hni]
  refine wpAny_holding (wpAny_bind (wpAny_of_eq (V.init.bind _) (wpAny_bind (wpAny_call (codeAny_call_builtin V.init.plain V.initEntry (wpAny_check_init_subT V (T.keeps kp) (kp _ _ hC) hx rfl ?_))))))
  wp_walk
  refine q _ (fun b o hb => ?_) ⟨((h.push (xTup rest)).push (xNew C h.objs.size)).objs.size, ?_⟩
  · exact (Heap.get?_update_other _ _ (Nat.ne_of_gt (Nat.lt_succ_of_lt (Heap.lt_size hb)))).trans (Heap.get?_push_of_some _ (kp b o hb))
  · exact Heap.get?_update_self _ (Heap.get?_push_of_some _ hx) rfl
theorem call_0 {rest : List Value} {mN : Str → Option Value} {Q : Value → Shared → Prop} (hC : h.get? C = some (excClassObj nm qn C N bs bm hdct sn sub ab col dd k0 k1 k2 k3 k5 "ValueError.__new__")) (T : OwnTail h bmV bm) (hn : h.Ns N mN) (hni : mN "__init__" = none) (hrest : rest.length ≤ sizeLine)
    (q : ∀ h' : Heap, (∀ b o, h.get? b = some o → h'.get? b = some o) → (∃ t', h'.get? (h.objs.size + 1) = some (xNew C t')) → Q (.ref (h.objs.size + 1)) ⟨h', g, d, t, os⟩) :
    wpAny (model prog w) A (call (.ref C) rest) Q E ⟨h, g, d, t, os⟩ := by
  have hT : (⟨h, g, d, t, os⟩ : Shared).TypeIs (.ref C) "type" := ⟨_, hC, rfl⟩
  have look := tc_lookup
  have bnd := tc_bind (.ref C)
  refine wpAny_call (codeAny_of_tree ?_)
  show wpAny _ _ (callAny (.ref C) _) _ _ _
  repeat (any_goals (first
    | assumption
    | with_reducible refine wpAny_loadPart_at hC ?_
    | wp_step))
  exact ⟨rfl, codeAny_call_builtin_at (Code.quiet_builtin _ (by decide +kernel)) entry_typeCall (wpAny_check_type_call_sub hC (typecall_0 hC T hn hni hrest q))⟩
end
def tRaise0 (C : Addr) (E : XK) (te : TA) : TS := fun _ σ H => te σ H fun vs H1 => ∃ y, vs = [y] ∧ ∀ e H', Same H1 H' → H1 e = none → H' e = some (XO e (.ref C) none) → E (.ref e) none H'
section
variable {P : Program} {w : World} {K : PySem.W.Frag} {mg : Str → Option Value} {base : Heap} {N : List Str} {qual : Str} {scope : Scope} {f0 : Addr} {cd : Value} {A : Around} {outer : List Env} {s0 : Shared} {H0 : Hp} {E : XK}
theorem ps_raise0 {x : Str} {C FE : Addr} {e1 : Expr} {te : TA} {p cpos pos : Pos} (xc : XCls0 K C FE) (hk : PySem.W.keepIn K (.ref C) = true) (hg : Gl (cxOf (CXe P w) P w K mg base N qual scope f0 cd A outer s0 H0 E) x) (hm : mg x = some (.ref C))
    (ha : PA (cxOf (CXe P w) P w K mg base N qual scope f0 cd A outer s0 H0 E) [e1] te) (hdb : (x == ("__debug__" : Str)) = false := by decide) (he : starEach [e1] (cxOf (CXe P w) P w K mg base N qual scope f0 cd A outer s0 H0 E).env = [(false, eval e1 (cxOf (CXe P w) P w K mg base N qual scope f0 cd A outer s0 H0 E).env)] := by rfl) :
    PS (cxOf (CXe P w) P w K mg base N qual scope f0 cd A outer s0 H0 E) (.Raise (some (.Call (.Name x p) [e1] [] cpos)) none pos) (tRaise0 C E te) := by
  intro pins s σ H D I h
  obtain ⟨nm, qn, Nn, bs, sn, sub, ab, col, dd, k0, k1, k2, k3, k5, c1, d1, es, n, sl1, l, ln, sk, ni⟩ := xc.ob
  rw [arm_exec_Raise]
  refine wpAny_bind (wpAny_standAt (raise_x (C := C) (nm := nm) (qn := qn) (N := Nn) (bs := bs) (bm := .ref FE :: bmV) (hdct := true) (sn := sn) (sub := sub) (ab := ab) (col := col) (dd := dd) (k0 := k0) (k1 := k1) (k2 := k2) (k3 := k3) (k5 := k5) (newId := "ValueError.__new__") rfl (I.ok.hd rfl) ?_))
  refine wpAny_bind (wpAny_mono (wpAny_Call_Name_kw (ld_glob I hg hm ?_ hdb)) (fun v s' z => wpAny_bind (wpAny_standAt (wpAny_pure z))) fun _ _ z => z)
  refine PySem.W.callWith_K (h₀ := base) I.ok.mod.kin hk (thn (ha cpos pins s σ H _ I h) fun us s1 ⟨vs, H1, I1, r, q⟩ => ⟨I1.kIn, ?_⟩) he rfl
  obtain ⟨y, rfl, q⟩ := q
  obtain ⟨u, rfl, ry⟩ := vals1 r
  obtain ⟨hp, g, d, tk, os⟩ := s1
  refine call_0 (I1.kIn _ _ l) (xc.tail I1.kIn) (ns_of I1.kIn ln sk) ni (by show 1 ≤ sizeLine; decide) (fun h' kp ⟨t', hx⟩ => ?_)
  have fr : H1 (hp.objs.size + 1) = none := I1.hok.fresh (Nat.le_succ _)
  have x0 : XObj h' (hp.objs.size + 1) (.ref C) none .none := ⟨_, _, hx, rfl, rfl, rfl, rfl, fun z => absurd rfl z⟩
  have J : Inw _ pins σ (upd H1 (hp.objs.size + 1) (XO (hp.objs.size + 1) (.ref C) none)) ⟨h', g, d, tk, os⟩ := I1.laid (a := hp.objs.size + 1) (o := XO (hp.objs.size + 1) (.ref C) none) (h' := h') (t' := tk) kp (Nat.le_succ _) (XP.obj x0.xp)
  exact ⟨_, _, _, rfl, J.kIn _ _ l, hx, rfl, rfl, rfl, leave_cx J upd_same x0 (.inl rfl) (by simp) (fun T z => by cases z) (Nat.le_trans I1.sz (Nat.le_succ _)) (q _ _ (same_new fr _) fr upd_same)⟩
end

end L2

namespace L2
open PySem PySem.Spec PyProof.Rows

section
variable {X : Cx}
theorem pe_gstr {x : Str} {z : Str} {t : Tok} {pos : Pos} (hg : Gl X x) (hm : X.mg x = some (.str z t)) (hdb : (x == ("__debug__" : Str)) = false := by decide) : PE X (.Name x pos) (tC (.str z)) := fun _ _ _ H _ I h => ld_glob I hg hm ⟨.str z, H, I, ⟨t, rfl⟩, h⟩ hdb
end

end L2

namespace L2
open PySem PySem.Spec PyProof.Rows
section
variable {X : Cx}
end

theorem star_K {c : Const} {k : Nat} {p : Pos} {es : List Expr} {env : Env} : starEach (Expr.Constant c k p :: es) env = (false, eval (Expr.Constant c k p) env) :: starEach es env := rfl
theorem star_B {l r : Expr} {o : Operator} {p : Pos} {es : List Expr} {env : Env} : starEach (Expr.BinOp l o r p :: es) env = (false, eval (Expr.BinOp l o r p) env) :: starEach es env := rfl

end L2

namespace L2
open PySem PySem.Spec PyProof.Rows
section
variable {X : Cx}
def tFv (te : TE) : TE := fun σ H Q => te σ H fun x H1 => ∃ z : Str, x = .str z ∧ z.length ≤ sizeLine ∧ Q (.str z) H1
theorem pe_fv {e : Expr} {te : TE} {pos : Pos} (he : PE X e te) : PE X (.FormattedValue e (-1) none pos) (tFv te) := by
  intro pins s σ H Q I h
  refine PyProof.Rows.FormattedValue_plain (thn (he pins s σ H _ I h) fun u s1 ⟨x, H1, I1, r, z, e1, hz, q⟩ => ?_)
  subst e1
  obtain ⟨t, rfl⟩ := r
  exact PyProof.Rows.formatField_str (fun t' tk => ⟨.str z, H1, I1.tok _, ⟨t', rfl⟩, q⟩) hz
def PEs (X : Cx) : List Expr → List TE → Prop
  | [], [] => True
  | e :: es, t :: ts => PE X e t ∧ PEs X es ts
  | _, _ => False
def tJ : Str → List TE → TE
  | out, [] => fun _ H Q => out.length ≤ sizeLine ∧ Q (.str out) H
  | out, t :: ts => fun σ H Q => t σ H fun x H1 => ∃ y : Str, x = .str y ∧ (out ++ y).length ≤ sizeLine ∧ tJ (out ++ y) ts σ H1 Q
theorem join_parts {pins : List (Addr × Obj)} {σ : St} {Q : VK} : ∀ {es : List Expr} {ts : List TE} {out : Str} {s : Shared} {H : Hp}, PEs X es ts → Inv X pins σ H s → tJ out ts σ H Q → wpAny (model X.prog X.w) X.A (joinParts out (evalEach es X.env)) (EP X pins σ Q) X.xe s
  | [], [], out, s, H, _, I, h => PyProof.Rows.joinParts_nilE (PyProof.Rows.joinParts_nil ⟨.str out, H, I.tok _, ⟨_, rfl⟩, h.2⟩ h.1)
  | e :: es, t :: ts, out, s, H, p, I, h => by
    refine PyProof.Rows.joinParts_consE (PyProof.Rows.joinParts_cons (thn (p.1 pins s σ H _ I h) fun u s1 ⟨x, H1, I1, r, y, e1, hy, q⟩ => ?_))
    subst e1
    obtain ⟨k, rfl⟩ := r
    exact ⟨hy, join_parts p.2 I1 q⟩
  | [], _ :: _, _, _, _, p, _, _ => p.elim
  | _ :: _, [], _, _, _, p, _, _ => p.elim
theorem pe_fstr {e1 e2 : Expr} {es : List Expr} {ts : List TE} {pos : Pos} (p : PEs X (e1 :: e2 :: es) ts) : PE X (.JoinedStr (e1 :: e2 :: es) pos) (tJ Str.empty ts) := fun pins s σ H Q I h =>
  PyProof.Rows.JoinedStr_many (join_parts (es := e1 :: e2 :: es) p I h)
end
section
variable {X : Cx}
def rFind3 : V → List V → Hp → VK → Prop := fun x vs H Q => ∃ (z y : Str) (i : Int), x = .str z ∧ vs = [.str y, .int i] ∧ Q (.int (Txt.find3 z y i)) H
theorem mt_find3 : MtM X "str.find" rFind3 := by
  intro pins s σ H x vs v us Q I rx rv h
  obtain ⟨z, y, i, rfl, rfl, q⟩ := h
  obtain ⟨t, rfl⟩ := rx
  obtain ⟨u, w', rfl, ⟨t1, rfl⟩, ⟨t2, rfl⟩⟩ := vals2 rv
  exact SC.find3 ⟨.int _, H, I.tok _, ⟨_, rfl⟩, q⟩
theorem strs_vals : ∀ {zs : List Str} {us : List Value}, Vals (zs.map V.str) us → StrsAre us zs
  | [], _, r => by cases r; exact .nil
  | z :: zs, _, r => by
    cases r with
    | cons r0 rs =>
      obtain ⟨t, rfl⟩ := r0
      exact .cons _ _ (strs_vals rs)
def rJoinW (K : PySem.W.Frag) : V → List V → Hp → VK → Prop := fun x vs H Q => ∃ (z : Str) (p : Addr) (zs : List Str), x = .str z ∧ vs = [.ref p] ∧ SqL K H p (zs.map V.str) ∧ z.length ≤ 16 ∧ (zs.map (·.length)).sum + zs.length ≤ 1048576 ∧ Q (.str (Txt.join z zs)) H
theorem mt_joinW (K : PySem.W.Frag) (hK : X.K = K := by rfl) : MtM X "str.join" (rJoinW K) := by
  subst hK
  intro pins s σ H x vs v us Q I rx rv h
  obtain ⟨z, p, zs, rfl, rfl, hp, hl, hs, q⟩ := h
  obtain ⟨t, rfl⟩ := rx
  obtain ⟨u, rfl, ru⟩ := vals1 rv
  cases ru
  obtain ⟨its, r, pl, hz⟩ := I.list hp
  exact PyProof.Rows.join_listW pl.isList (by simpa using strs_vals r) hl hs fun t' k => ⟨.str _, H, I.tok _, ⟨t', rfl⟩, q⟩
end
section
variable {X : Cx}
theorem call_strI : CallR X (.type "str") (fun xs H Q => ∃ i : Int, xs = [.int i] ∧ i.natAbs.log2 < 1920 ∧ Q (.str (toString i)) H) := by
  intro pins s σ H xs us Q I r h
  obtain ⟨i, rfl, hi, q⟩ := h
  obtain ⟨u, rfl, t, rfl⟩ := vals1 r
  exact PySem.P.str_of_int hi ⟨.str _, H, I.tok _, ⟨_, rfl⟩, q⟩
end

end L2

namespace L2
open PySem PySem.Spec PyProof.Rows
section
variable {κ : Type} [DecidableEq κ]
def valV (kvs : List (κ × V)) (k : κ) : Option V := (kvs.find? fun kv => decide (kv.1 = k)).map (·.2)
def putK (kvs : List (κ × V)) (k : κ) (v : V) : List (κ × V) :=
  if (kvs.any fun kv => decide (kv.1 = k)) = true then kvs.map (fun kv => if kv.1 = k then (kv.1, v) else kv) else kvs ++ [(k, v)]
def dropK (kvs : List (κ × V)) (k : κ) : List (κ × V) := kvs.filter fun kv => decide (kv.1 ≠ k)

theorem valV_pos {p : κ × V} {r : List (κ × V)} {k : κ} (e : p.1 = k) : valV (p :: r) k = some p.2 := by simp [valV, List.find?_cons, e]
theorem valV_neg {p : κ × V} {r : List (κ × V)} {k : κ} (e : ¬ p.1 = k) : valV (p :: r) k = valV r k := by simp [valV, List.find?_cons, e]
theorem valV_any (k : κ) : ∀ kvs : List (κ × V), (kvs.any fun kv => decide (kv.1 = k)) = (valV kvs k).isSome
  | [] => rfl
  | p :: r => by
    rw [List.any_cons]
    by_cases e : p.1 = k
    · simp only [valV_pos e, decide_eq_true e, Bool.true_or, Option.isSome_some]
    · rw [valV_neg e, decide_eq_false e, Bool.false_or]; exact valV_any k r
theorem length_putK (kvs : List (κ × V)) (k : κ) (v : V) : (putK kvs k v).length ≤ kvs.length + 1 := by
  unfold putK
  split
  · rw [List.length_map]; omega
  · rw [List.length_append, List.length_cons, List.length_nil]; omega

theorem RelO.isSome_eq {o : Option V} {u : Option Value} (r : RelO o u) : o.isSome = u.isSome := by
  cases o with
  | none => cases u with
    | none => rfl
    | some _ => exact (show False from r).elim
  | some _ => cases u with
    | none => exact (show False from r).elim
    | some _ => rfl
theorem RelO.getD {o : Option V} {u : Option Value} {d : V} {d' : Value} (r : RelO o u) (rd : RelV d d') : RelV (o.getD d) (u.getD d') := by
  cases o with
  | none => cases u with
    | none => exact rd
    | some _ => exact (show False from r).elim
  | some _ => cases u with
    | none => exact (show False from r).elim
    | some _ => exact r

theorem KV.val {kvs : List (κ × V)} {vs : List (κ × Value)} (r : KV kvs vs) (k : κ) : RelO (valV kvs k) (valueAt vs k) := by
  unfold KV at r
  induction r with
  | nil => exact True.intro
  | @cons p q ps qs h t ih =>
    obtain ⟨h1, h2⟩ := h
    by_cases e : p.1 = k
    · have e' : q.1 = k := h1.symm.trans e
      have b : valueAt (q :: qs) k = some q.2 := by simp [valueAt, List.find?_cons, e']
      rw [valV_pos e, b]; exact h2
    · have e' : ¬ q.1 = k := fun z => e (h1.trans z)
      have b : valueAt (q :: qs) k = valueAt qs k := by simp [valueAt, List.find?_cons, e']
      rw [valV_neg e, b]; exact ih
theorem KV.any {kvs : List (κ × V)} {vs : List (κ × Value)} (r : KV kvs vs) (k : κ) : (kvs.any fun kv => decide (kv.1 = k)) = vs.any fun kv => decide (kv.1 = k) := by
  unfold KV at r
  induction r with
  | nil => rfl
  | cons h t ih => rw [List.any_cons, List.any_cons, ih, h.1]
theorem KV.repl {kvs : List (κ × V)} {vs : List (κ × Value)} (r : KV kvs vs) (k : κ) {y : V} {u : Value} (ry : RelV y u) :
    KV (kvs.map fun kv => if kv.1 = k then (kv.1, y) else kv) (vs.map fun kv => if kv.1 = k then (kv.1, u) else kv) := by
  unfold KV at r ⊢
  induction r with
  | nil => exact .nil
  | @cons p q ps qs h t ih =>
    rw [List.map_cons, List.map_cons]
    refine .cons ?_ ih
    obtain ⟨h1, h2⟩ := h
    by_cases e : p.1 = k
    · rw [if_pos e, if_pos (h1.symm.trans e)]; exact ⟨h1, ry⟩
    · rw [if_neg e, if_neg (fun z => e (h1.trans z))]; exact ⟨h1, h2⟩
theorem KV.put {kvs : List (κ × V)} {vs : List (κ × Value)} (r : KV kvs vs) (k : κ) {y : V} {u : Value} (ry : RelV y u) : KV (putK kvs k y) (stored vs k u) := by
  unfold putK stored
  rw [r.any k]
  by_cases e : (vs.any fun kv => decide (kv.1 = k)) = true
  · rw [if_pos e, if_pos e]; exact r.repl k ry
  · rw [if_neg e, if_neg e]; exact Paired.snoc r ⟨rfl, ry⟩
theorem KV.drop {kvs : List (κ × V)} {vs : List (κ × Value)} (r : KV kvs vs) (k : κ) : KV (dropK kvs k) (without vs k) := by
  unfold KV at r ⊢
  unfold dropK without
  induction r with
  | nil => exact .nil
  | @cons p q ps qs h t ih =>
    obtain ⟨h1, h2⟩ := h
    rw [List.filter_cons, List.filter_cons]
    by_cases e : p.1 = k
    · have a : ¬ decide (p.1 ≠ k) = true := by simp [e]
      have b : ¬ decide (q.1 ≠ k) = true := by simp [h1.symm.trans e]
      rw [if_neg a, if_neg b]; exact ih
    · have e' : ¬ q.1 = k := fun z => e (h1.trans z)
      have a : decide (p.1 ≠ k) = true := by simp [e]
      have b : decide (q.1 ≠ k) = true := by simp [e']
      rw [if_pos a, if_pos b]; exact .cons ⟨h1, h2⟩ ih
theorem KV.keys {kvs : List (κ × V)} {vs : List (κ × Value)} (r : KV kvs vs) : kvs.map (·.1) = vs.map (·.1) := by
  unfold KV at r
  induction r with
  | nil => rfl
  | cons h t ih => rw [List.map_cons, List.map_cons, ih, h.1]
theorem KV.length {kvs : List (κ × V)} {vs : List (κ × Value)} (r : KV kvs vs) : kvs.length = vs.length := Paired.length r
end


theorem kV_is {P : Program} {w : World} {k : Key} {u : Value} (r : RelV (kV k) u) : (mixKind P w).is k u = true := by
  cases k with
  | inl i => obtain ⟨t, e⟩ := (show ∃ t, u = Value.int i t from r); subst e; exact mixKind_int P w i t
  | inr x => obtain ⟨t, e⟩ := (show ∃ t, u = Value.str x t from r); subst e; exact mixKind_str P w x t
theorem items_are {P : Program} {w : World} : ∀ {ks : List Key} {us : List Value}, Vals (ks.map kV) us → ItemsAre (mixKind P w) ks us
  | [], _, r => by rw [List.map_nil] at r; cases r; exact .nil
  | k :: ks, _, r => by
    rw [List.map_cons] at r
    cases r with
    | cons h t => exact .cons (kV_is h) (items_are t)

abbrev KT (H : Hp) : List (List Key × V) → List (List Key × Addr × Value) → Prop := Paired fun p q => p.1 = q.1 ∧ H q.2.1 = some (.tup (p.1.map kV)) ∧ RelV p.2 q.2.2
theorem KT.val {H : Hp} {kvs : List (List Key × V)} {xs : List (List Key × Addr × Value)} (r : KT H kvs xs) (k : List Key) : RelO (valV kvs k) ((atKey xs k).map (·.2)) := by
  induction r with
  | nil => exact True.intro
  | @cons p q ps qs h t ih =>
    obtain ⟨h1, _, h2⟩ := h
    by_cases e : p.1 = k
    · have e' : q.1 = k := h1.symm.trans e
      have b : atKey (q :: qs) k = some q.2 := by simp [atKey, List.find?_cons, e']
      rw [valV_pos e, b]; exact h2
    · have e' : ¬ q.1 = k := fun z => e (h1.trans z)
      have b : atKey (q :: qs) k = atKey qs k := by simp [atKey, List.find?_cons, e']
      rw [valV_neg e, b]; exact ih
theorem KT.repl {H : Hp} {kvs : List (List Key × V)} {xs : List (List Key × Addr × Value)} (r : KT H kvs xs) (k : List Key) {y : V} {u : Value} (ry : RelV y u) :
    KT H (kvs.map fun kv => if kv.1 = k then (kv.1, y) else kv) (xs.map (putAt k u)) := by
  induction r with
  | nil => exact .nil
  | @cons p q ps qs h t ih =>
    rw [List.map_cons, List.map_cons]
    refine .cons ?_ ih
    obtain ⟨h1, h2, h3⟩ := h
    unfold putAt
    by_cases e : p.1 = k
    · rw [if_pos e, if_pos (h1.symm.trans e)]; exact ⟨h1, h2, ry⟩
    · rw [if_neg e, if_neg (fun z => e (h1.trans z))]; exact ⟨h1, h2, h3⟩
theorem KT.put {H : Hp} {kvs : List (List Key × V)} {xs : List (List Key × Addr × Value)} (r : KT H kvs xs) (k : List Key) {b : Addr} {y : V} {u : Value} (hb : H b = some (.tup (k.map kV))) (ry : RelV y u) :
    KT H (putK kvs k y) (storedH xs k b u) := by
  have e : (kvs.any fun kv => decide (kv.1 = k)) = (atKey xs k).isSome := by
    rw [valV_any, (r.val k).isSome_eq, Option.isSome_map]
  unfold putK storedH
  rw [e]
  by_cases q : (atKey xs k).isSome = true
  · rw [if_pos q, if_pos q]; exact r.repl k ry
  · rw [if_neg q, if_neg q]; exact Paired.snoc r ⟨rfl, hb, ry⟩
theorem KT.keeps {H H' : Hp} {kvs : List (List Key × V)} {xs : List (List Key × Addr × Value)} (r : KT H kvs xs) (ht : ∀ b ys, H b = some (.tup ys) → H' b = some (.tup ys)) : KT H' kvs xs :=
  Paired.mapP r fun _ _ z => ⟨z.1, ht _ _ z.2.1, z.2.2⟩

section
variable {P : Program} {w : World} {H : Hp} {h : Heap} {a : Addr}
theorem rd_of {u : HO} (ok : HOk P w H h) (e : Rd H a u) : ObjOk P w H h a u := e.ok ok
theorem dk_rd {kvs : List (Key × V)} (ok : HOk P w H h) (e : Rd H a (.dK kvs)) : kvs.length ≤ sizeLine ∧ (a == sysModules) = false ∧ ∃ vs, KV kvs vs ∧ h.DictOf (mixKind P w) a vs :=
  show ObjOk P w H h a (.dK kvs) from rd_of ok e
theorem dk_of {kvs : List (Key × V)} (ok : HOk P w H h) (e : H a = some (.dK kvs)) : kvs.length ≤ sizeLine ∧ (a == sysModules) = false ∧ ∃ vs, KV kvs vs ∧ h.DictOf (mixKind P w) a vs := dk_rd ok (.inl e)
theorem key_of {ks : List Key} (ok : HOk P w H h) (e : H a = some (.tup (ks.map kV))) : (tupleKind (mixKind P w)).is h ks a := by
  obtain ⟨_, its, r, o, h1, h2, n, h3⟩ := (show ObjOk P w H h a (.tup (ks.map kV)) from ok a _ e)
  exact ⟨o, its.toArray, n, h1, h2, h3, by simpa using items_are r⟩
theorem dt_rd {kvs : List (List Key × V)} (ok : HOk P w H h) (e : Rd H a (.dT kvs)) : kvs.length ≤ sizeLine ∧ (a == sysModules) = false ∧
    ∃ xs, KT H kvs xs ∧ h.DictOfH (tupleKind (mixKind P w)) a xs := by
  obtain ⟨z, y, xs, r, o, es, ep, h1, h2, h3, h4, h5⟩ := (show ObjOk P w H h a (.dT kvs) from rd_of ok e)
  refine ⟨z, y, xs, r, o, es, ep, h1, h2, h3, h4, fun x hx => ?_, h5⟩
  have all : ∀ {l : List (List Key × V)} {m : List (List Key × Addr × Value)}, KT H l m → ∀ x ∈ m, (tupleKind (mixKind P w)).is h x.1 x.2.1 := by
    intro l m q
    induction q with
    | nil => intro x hx; exact nomatch hx
    | @cons p q ps qs hq t ih =>
      intro x hx
      rcases List.mem_cons.mp hx with e | hx
      · subst e
        exact key_of ok (by rw [← hq.1]; exact hq.2.1)
      · exact ih x hx
  exact all r x hx
theorem dt_of {kvs : List (List Key × V)} (ok : HOk P w H h) (e : H a = some (.dT kvs)) : kvs.length ≤ sizeLine ∧ (a == sysModules) = false ∧
    ∃ xs, KT H kvs xs ∧ h.DictOfH (tupleKind (mixKind P w)) a xs := dt_rd ok (.inl e)
end

def DGet (H : Hp) (a : Addr) (y : V) (r : Option V) : Prop :=
  (∃ kvs k, Rd H a (.dK kvs) ∧ y = kV k ∧ r = valV kvs k) ∨ ∃ kvs k b, Rd H a (.dT kvs) ∧ y = .ref b ∧ H b = some (.tup (k.map kV)) ∧ r = valV kvs k
def DPut (H : Hp) (a : Addr) (y v : V) (H' : Hp) : Prop :=
  (∃ kvs k, H a = some (.dK kvs) ∧ y = kV k ∧ kvs.length < sizeLine ∧ H' = upd H a (.dK (putK kvs k v))) ∨
  ∃ kvs k b, H a = some (.dT kvs) ∧ y = .ref b ∧ H b = some (.tup (k.map kV)) ∧ kvs.length < sizeLine ∧ H' = upd H a (.dT (putK kvs k v))
theorem DGet.k {H : Hp} {a : Addr} {kvs : List (Key × V)} {k : Key} (e : H a = some (.dK kvs)) : DGet H a (kV k) (valV kvs k) := .inl ⟨kvs, k, .inl e, rfl, rfl⟩
theorem DGet.t {H : Hp} {a b : Addr} {kvs : List (List Key × V)} {k : List Key} (e : H a = some (.dT kvs)) (eb : H b = some (.tup (k.map kV))) : DGet H a (.ref b) (valV kvs k) := .inr ⟨kvs, k, b, .inl e, rfl, eb, rfl⟩
theorem DPut.k {H : Hp} {a : Addr} {kvs : List (Key × V)} {k : Key} {v : V} (e : H a = some (.dK kvs)) (hl : kvs.length < sizeLine) : DPut H a (kV k) v (upd H a (.dK (putK kvs k v))) := .inl ⟨kvs, k, e, rfl, hl, rfl⟩
theorem DPut.t {H : Hp} {a b : Addr} {kvs : List (List Key × V)} {k : List Key} {v : V} (e : H a = some (.dT kvs)) (eb : H b = some (.tup (k.map kV))) (hl : kvs.length < sizeLine) :
    DPut H a (.ref b) v (upd H a (.dT (putK kvs k v))) := .inr ⟨kvs, k, b, e, rfl, eb, hl, rfl⟩


section
variable {X : Cx} {pins : List (Addr × Obj)} {σ : St} {H : Hp} {s : Shared} {a : Addr} {y v : V} {u r : Value} {o : Option V} {A : Around} {E : Value → Shared → Prop}

theorem Inw.big (I : Inw X pins σ H s) : sysModules < s.heap.objs.size := by
  have h : mainGlobals < s.heap.objs.size := (I.mod.glob.keeps I.bk).lt
  exact Nat.lt_trans (by decide) h

theorem d_write {h' : Heap} {t' : Nat} {ob : HO} (I : Inv X pins σ H s) (mu : Mut (H a)) (hs : Heap.SameBut a s.heap h') (he : ∃ q, h'.get? a = some q) (new : ObjOk X.prog X.w (upd H a ob) h' a ob) :
    Inw X pins σ (upd H a ob) { s with heap := h', toks := t' } :=
  I.write (x := a) (e := a) mu (.inl rfl) (fun b q hb z => (hs.2 b hb).trans z) he new
theorem dk_new {P : Program} {w : World} {H' : Hp} {h' : Heap} {kvs : List (Key × V)} {vs : List (Key × Value)} (z : kvs.length ≤ sizeLine) (hd : (a == sysModules) = false) (rel : KV kvs vs) (dd : h'.DictOf (mixKind P w) a vs) :
    ObjOk P w H' h' a (.dK kvs) := ⟨z, hd, vs, rel, dd⟩
theorem d_setItem {H' : Hp} {Q : Unit → Shared → Prop} (hu : A.units + 1 < cLine) (I : Inv X pins σ H s) (g : DPut H a y v H') (ry : RelV y u) (rv : RelV v r) (h : ∀ s', Inw X pins σ H' s' → Q () s') :
    wpAny (model X.prog X.w) A (setItem (.ref a) u r) Q E s := by
  rcases g with ⟨kvs, k, e, ey, l, eH⟩ | ⟨kvs, k, b, e, ey, eb, l, eH⟩
  · subst ey eH
    obtain ⟨z, hd, vs, rel, dd⟩ := dk_of I.hok e
    have hz : vs.length ≤ sizeLine := by rw [← rel.length]; exact z
    have hl : (putK kvs k v).length ≤ sizeLine := by have := length_putK kvs k v; omega
    refine wpAny_setItem_pairs (hsz := hz) (kV_is ry) dd fun h' dd' hs => h _ ?_
    have he : ∃ q, h'.get? a = some q := let ⟨q, _, _, hq, _⟩ := dd'; ⟨q, hq⟩
    exact d_write I (by rw [e]; exact True.intro) hs he (dk_new hl hd (rel.put k rv) dd')
  · subst ey eH
    cases (show u = Value.ref b from ry)
    obtain ⟨z, hd, xs, rel, dd⟩ := dt_of I.hok e
    have hz : xs.length ≤ sizeLine := by rw [← Paired.length rel]; exact z
    have hl : (putK kvs k v).length ≤ sizeLine := by have := length_putK kvs k v; omega
    refine wpAny_setItem_heap (hsz := hz) (tupleKind_room_in1 hu) (key_of I.hok eb) dd fun h' dd' hs => h _ ?_
    obtain ⟨q, es, ep, hq, h2, h3, h4, _, h5⟩ := dd'
    refine d_write I (by rw [e]; exact True.intro) hs ⟨q, hq⟩ ⟨hl, hd, _, (rel.put k eb rv).keeps fun c ys ec => ?_, q, es, ep, hq, h2, h3, h4, h5⟩
    rw [upd_ne (ne_of ec e (fun z => nomatch z))]
    exact ec
end

section
variable {X : Cx} {pins : List (Addr × Obj)} {σ : St} {H : Hp} {s : Shared} {a : Addr} {kvs : List (Key × V)} {k : Key} {u : Value} {A : Around} {E : Value → Shared → Prop}
end


def NoSl (i : Expr) : Prop := ∀ ov iv, subscripted i false ov iv = operate [ov, iv] (getItem ov iv)
theorem subD_of {prog : Program} {w : World} {A : Around} {E : Value → Shared → Prop} {s : Shared} {env : Env} {value slice : Expr} {pos : Pos} {T id : String} {Q : Value → Shared → Prop}
    (hl : typeLookup (.type T) "__getitem__" = pure (some (.builtin id))) (hs : NoSl slice)
    (h : wpAny (model prog w) A (eval value env) (fun o s₁ => wpAny (model prog w) A (eval slice env) (fun i s₂ => s₂.TypeIs o T ∧ wpAny (model prog w) A (getItem o i) Q E s₂) E s₁) E s) :
    wpAny (model prog w) A (eval (.Subscript value slice pos) env) Q E s := by
  refine Subscript_ (wpAny_mono h (fun o s₁ h₁ => wpAny_mono h₁ (fun i s₂ h₂ => ?_) fun _ _ x => x) fun _ _ x => x)
  obtain ⟨hT, h₂⟩ := h₂
  unfold subscriptTail
  refine wpAny_bind ?_
  rw [getitemInPython_of_ne hT.not_modules]
  refine wpAny_bind (wpAny_specialOf hT hl ?_)
  have fin : wpAny (model prog w) A (subscripted slice false o i) (fun r s₃ => wpAny (model prog w) A (letTemporaryGo value o r >>= fun _ => pure r) Q E s₃) E s₂ := by
    rw [hs o i]
    exact wpAny_operating (wpAny_mono h₂ (fun r s₃ h₃ => wpAny_bind (wpAny_letTemporaryGo (wpAny_pure h₃))) fun _ _ x => x)
  first
    | exact wpAny_pure (wpAny_bind fin)
    | exact wpAny_bind (wpAny_pure (wpAny_bind fin))
    | exact wpAny_bind fin


def sDPut (td ty tv : TE) : TS := fun D σ H => tv σ H fun v H1 => td σ H1 fun x H2 => ty σ H2 fun y H3 => ∃ a H4, x = .ref a ∧ DPut H3 a y v H4 ∧ D.nx σ H4

section
variable {X : Cx} {o i e value : Expr} {pos pos' tpos : Pos} {td ty tv : TE}
theorem ps_dput (hu : X.A.units + 1 < cLine) (ho : PE X o td) (hi : PE X i ty) (hv : PE X value tv) (hs : swapsWith value (some (.Subscript o i pos')) pos.line X.env = pure false) :
    PS X (.Assign [.Subscript o i pos'] value pos) (sDPut td ty tv) := by
  intro pins s σ H D I h
  refine wpAny_Assign_Subscript (thn (hv pins s σ H _ I h) fun r s1 ⟨v, H1, I1, rv, q1⟩ => thn (ho pins s1 σ H1 _ I1 q1) fun u s2 ⟨x, H2, I2, rx, q2⟩ => thn (hi pins s2 σ H2 _ I2 q2) fun iv s3 ⟨y, H3, I3, ry, a, H4, ex, g, q3⟩ => ?_) hs
  subst ex
  obtain rfl : u = Value.ref a := rx
  exact d_setItem hu I3 g ry rv fun s4 I4 => ⟨σ, H4, I4, q3⟩
end


theorem dk_empty {P : Program} {w : World} {H : Hp} (h : Heap) (hb : sysModules < h.objs.size) : ObjOk P w H (h.push { cls := .type "dict", data := .dict #[] }) h.objs.size (.dK []) :=
  ⟨Nat.zero_le _, beq_eq_false_iff_ne.mpr (Ne.symm (Nat.ne_of_lt hb)), [], .nil, Heap.DictOf.new h⟩
def tDNewK : TE := fun _ H Q => ∀ p, H p = none → Q (.ref p) (upd H p (.dK []))
section
variable {X : Cx} {pos : Pos}
theorem pe_dnewK : PE X (.Dict [] [] pos) tDNewK := fun pins s σ H Q I h =>
  wpAny_Dict_empty ⟨.ref s.heap.objs.size, _, I.laid (a := s.heap.objs.size) (o := .dK []) (t' := s.toks) (fun _ _ q => Heap.get?_push_of_some _ q) (Nat.le_refl _) (dk_empty s.heap I.big), rfl, h _ (I.hok.fresh (Nat.le_refl _))⟩
end




structure M1 (X : Cx) (o : Expr) (m : Str) (apos : Pos) (e : Expr) (cpos : Pos) : Prop where
  base : attributeBase o m X.env (eval o X.env) = eval o X.env
  few : ((backTo cpos (starEach [e] X.env)).all (fun x => !x.1) && (backToKw cpos (keywordEach [] X.env)).all (fun x => x.1.isSome)
    && decide (([e] : List Expr).length + ([] : List Keyword).length + (if ([] : List Keyword).isEmpty then 0 else 1) < 30)) = true
  line : (apos.endLine == cpos.line) = true
  trees : backTo cpos (starEach [e] X.env) = [(false, eval e X.env)]
structure M2 (X : Cx) (o : Expr) (m : Str) (apos : Pos) (e f : Expr) (cpos : Pos) : Prop where
  base : attributeBase o m X.env (eval o X.env) = eval o X.env
  few : ((backTo cpos (starEach [e, f] X.env)).all (fun x => !x.1) && (backToKw cpos (keywordEach [] X.env)).all (fun x => x.1.isSome)
    && decide (([e, f] : List Expr).length + ([] : List Keyword).length + (if ([] : List Keyword).isEmpty then 0 else 1) < 30)) = true
  line : (apos.endLine == cpos.line) = true
  trees : backTo cpos (starEach [e, f] X.env) = [(false, eval e X.env), (false, eval f X.env)]


section
variable {X : Cx} {pins : List (Addr × Obj)} {σ : St} {H : Hp} {s : Shared} {a : Addr} {y d : V} {u r : Value} {o : Option V} {A : Around} {E : Value → Shared → Prop}
end

section
variable {X : Cx} {o e f : Expr} {apos cpos : Pos} {td ty tx : TE}
end

section
variable {X : Cx} {pins : List (Addr × Obj)} {σ : St} {H : Hp} {s : Shared} {a : Addr} {kvs : List (Key × V)} {A : Around} {E : Value → Shared → Prop}
end


section
variable {X : Cx} {pins : List (Addr × Obj)} {σ : St} {H : Hp} {s : Shared} {a : Addr} {y : V} {u : Value} {A : Around} {E : Value → Shared → Prop}
end
section
variable {X : Cx}
end
section
variable {κ : Type} [DecidableEq κ]
end

end L2

namespace L2
open PySem PySem.Spec PyProof.Rows
section
variable {X : Cx} {pins : List (Addr × Obj)} {σ : St} {H : Hp} {s : Shared} {a : Addr} {A : Around} {E : Value → Shared → Prop}
end
theorem kv_len {kvs : List (Key × V)} {vs : List (Key × Value)} (r : KV kvs vs) : kvs.length = vs.length := r.length
theorem key_is {P : Program} {w : World} {k : Key} {u : Value} (h : (mixKind P w).is k u = true) : RelV (kV k) u := by
  rw [mixKind_is] at h
  rcases keyIs_shape h with ⟨i, t, rfl, rfl⟩ | ⟨x, t, rfl, rfl⟩
  · exact ⟨t, rfl⟩
  · exact ⟨t, rfl⟩
theorem kv_get {kvs : List (Key × V)} {vs : List (Key × Value)} (r : KV kvs vs) {i : Nat} {k : Key} {v : Value} (h : vs[i]? = some (k, v)) : ∃ y, kvs[i]? = some (k, y) := by
  unfold KV at r
  induction r generalizing i with
  | nil => simp at h
  | cons a _ ih =>
    cases i with
    | zero =>
      simp at h
      rename_i p q _ _ _
      refine ⟨p.2, ?_⟩
      simp
      have e := a.1
      rw [h] at e
      exact Prod.ext e rfl
    | succ i => simpa using ih (by simpa using h)

end L2

namespace L2
open PySem PySem.Spec PyProof.Rows
def SameS (H H' : Hp) : Prop := (∀ a xs, H a = some (.lst xs) → H' a = some (.lst xs)) ∧ ∀ a xs, H a = some (.tup xs) → H' a = some (.tup xs)
theorem Same.seqs {H H' : Hp} (e : Same H H') : SameS H H' := ⟨fun _ _ h => e _ _ h, fun _ _ h => e _ _ h⟩
theorem SameS.trans {H H' H'' : Hp} (e : SameS H H') (e' : SameS H' H'') : SameS H H'' := ⟨fun _ _ h => e'.1 _ _ (e.1 _ _ h), fun _ _ h => e'.2 _ _ (e.2 _ _ h)⟩
theorem SameS.upd {H : Hp} {a : Addr} {o : HO} (h : (∀ xs, H a ≠ some (.lst xs)) ∧ ∀ xs, H a ≠ some (.tup xs)) : SameS H (L2.upd H a o) :=
  ⟨fun b xs e => by rw [upd_ne (fun z : b = a => h.1 xs (z ▸ e))]; exact e, fun b xs e => by rw [upd_ne (fun z : b = a => h.2 xs (z ▸ e))]; exact e⟩
mutual
theorem DeepT.seqs {H H' : Hp} (e : SameS H H') : ∀ (d : DV) (v : V), DeepT H d v → DeepT H' d v
  | .non, v, h => by rw [DeepT] at *; exact h
  | .bl b, v, h => by rw [DeepT] at *; exact h
  | .int i, v, h => by rw [DeepT] at *; exact h
  | .str x, v, h => by rw [DeepT] at *; exact h
  | .lst ds, v, h => by rw [DeepT] at *; obtain ⟨a, xs, r, q, t⟩ := h; exact ⟨a, xs, r, e.1 _ _ q, DeepTs.seqs e ds xs t⟩
  | .tup ds, v, h => by rw [DeepT] at *; obtain ⟨a, xs, r, q, t⟩ := h; exact ⟨a, xs, r, e.2 _ _ q, DeepTs.seqs e ds xs t⟩
theorem DeepTs.seqs {H H' : Hp} (e : SameS H H') : ∀ (ds : List DV) (xs : List V), DeepTs H ds xs → DeepTs H' ds xs
  | [], xs, h => by rw [DeepTs] at *; exact h
  | d :: ds, xs, h => by rw [DeepTs] at *; obtain ⟨y, ys, r, q, t⟩ := h; exact ⟨y, ys, r, DeepT.seqs e d y q, DeepTs.seqs e ds ys t⟩
end
def strsC : List Expr → Option (List Str)
  | [] => some []
  | .Constant (.str z) _ _ :: r => match strsC r with
    | some zs => some (z :: zs)
    | none => none
  | _ => none
theorem pa_strs {X : Cx} : ∀ {es : List Expr} {zs : List Str}, strsC es = some zs → PA X es (fun _ H Q => Q (zs.map V.str) H)
  | [], zs, h => by
    cases h
    exact pa_nil
  | .Constant (.str z) k ps :: r, zs, h => by
    rw [strsC] at h
    cases e : strsC r with
    | none => rw [e] at h; cases h
    | some ys =>
      rw [e] at h
      cases h
      exact pa_cons (te := fun _ H Q => Q (.str z) H) pe_str (pa_strs e) rfl
  | .Constant (.int _) _ _ :: r, zs, h => by cases h
theorem ps_setLit {X : Cx} {i : Nat} {x : Str} {es : List Expr} {zs : List Str} {pos pos' pl : Pos} (hN : X.N.Nodup) (hi : X.N[i]? = some x) (hx : Loc X.env.scope x) (hz : strsC es = some zs)
    (hs : swapsWith (.List es pl) (some (.Name x pos')) pos.line X.env = pure false) (hf : X.fn x = true ∨ X.env.scope.names.lookup x = some .local) : PS X (.Assign [.Name x pos'] (.List es pl) pos) (tAsg (tLst (fun _ H Q => Q (zs.map V.str) H)) (gName i)) :=
  ps_set hN hi hx (@pe_lst _ _ _ _ (@pa_strs _ _ _ hz)) hs hf
theorem pss_c {X : Cx} {st : Stmt} {rest : List Stmt} {t u : TS} (h1 : PS X st t) (h2 : PSs X rest u) : PSs X (st :: rest) (tSeq t u) := pss_cons h1 h2

end L2

namespace L2
open PySem PySem.Spec PyProof.Rows
section
variable {X : Cx}
theorem strsAre_to : ∀ {zs : List Str} {us : List Value}, StrsAre us zs → Vals (zs.map V.str) us
  | _, _, .nil => .nil
  | _, _, .cons y t h => .cons ⟨t, rfl⟩ (strsAre_to h)
section
variable {g : TG} {ti : TT} {te : TE} {Q : VK} {σ : St} {H : Hp} {pick : List (Option Nat)} {K : PySem.W.Frag} {a : Addr}
end
end

end L2

namespace L2
open PySem PySem.Spec PyProof.Rows
def cst (o : Obj) : HO := .frz o (.ext fun _ => True)
theorem of_cst {P : Program} {w : World} {H : Hp} {h : Heap} {a : Addr} {o : Obj} (x : HOk P w H h) (e : H a = some (cst o)) : h.get? a = some o := (x a _ e).1
def Bmod (base : Heap) (mg : Str → Option Value) : Prop :=
  ∃ (bm : Addr) (ob : Obj), mg "__builtins__" = some (.ref bm) ∧ bm ≠ builtinsNs ∧ bm ≠ mainGlobals ∧ base.get? bm = some ob ∧ ob.cls = .type "module" ∧ ob.dict = some builtinsNs ∧ ob.data = .plain
theorem Bmod.keeps {h h' : Heap} {mg : Str → Option Value} (x : Bmod h mg) (k : ∀ b o, h.get? b = some o → h'.get? b = some o) : Bmod h' mg :=
  let ⟨bm, ob, a, b, c, e, r⟩ := x; ⟨bm, ob, a, b, c, k _ _ e, r⟩
section
variable {X : Cx}
end

structure LamScope (x y : Str) (sc : Scope) : Prop where
  kind : sc.kind = .function
  co : sc.isCoroutine = false
  gen : sc.isGenerator = false
  ne : y ≠ x
  par : sc.names.lookup y = some .local
  fre : sc.names.lookup x = some .free
  nocell : ∀ z ∈ sc.names, z.2 ≠ .cell
  only : ∀ z, sc.names.lookup z = some .free → z = x

section
variable {X : Cx} {CX : CXT} {k : Nat} {f : Addr} {fd : FuncData} {ps : List Str} {sp : Sp} {dvs : List V} {ds : List Value} {E : XK}
end

section
variable {X : Cx} {CX : CXT} {k : Nat} {f : Addr} {fd : FuncData} {ps : List Str} {E : XK}
end

end L2

namespace L2
open PySem PySem.Spec PyProof.Rows
def IsFn (K : PySem.W.Frag) (H : Hp) (f : Addr) : Prop := PySem.W.fnIn K f = true ∨ ∃ (oc : Value) (od : Option Addr) (fd : FuncData) (sl : Array (Option Value)), H f = some (cst ⟨oc, od, .func fd, sl⟩)
section
variable {X : Cx}
theorem IsFn.at_ {K : PySem.W.Frag} {pins : List (Addr × Obj)} {σ : St} {H : Hp} {s : Shared} {f : Addr} (I : Inv X pins σ H s) (hK : X.K = K) (h : IsFn K H f) : PySem.W.FnAt f s.heap := by
  subst hK
  rcases h with h | ⟨oc, od, fd, sl, e⟩
  · unfold PySem.W.fnIn at h
    split at h
    · rename_i oc od fd sl e
      exact ⟨oc, od, fd, sl, I.kIn _ _ e⟩
    · cases h
  · exact ⟨oc, od, fd, sl, of_cst I.hok e⟩
end


end L2

namespace L2
open PySem PySem.Spec PyProof.Rows
structure KD (P : Program) (w : World) (K : PySem.W.Frag) (d : Addr) (kvs : List (Key × V)) : Prop where
  ex : ∃ (o : Obj) (es : Array DictEntry) (ep : Nat) (vs : List (Key × Value)), K.lookup d = some o ∧ o.ExactDict ∧ o.data = .dict es ep ∧ PySem.KeysOf (mixKind P w) es ∧ PySem.Pairs (mixKind P w) es.toList vs ∧ (vs.map (·.1)).Nodup ∧ KV kvs vs
  sm : (d == sysModules) = false
section
variable {X : Cx} {d : Addr} {kvs : List (Key × V)}
theorem KD.at_ {pins : List (Addr × Obj)} {σ : St} {H : Hp} {s : Shared} (D : KD X.prog X.w X.K d kvs) (I : Inv X pins σ H s) : ∃ vs ep, KV kvs vs ∧ s.heap.DictAt (mixKind X.prog X.w) d vs ep ∧ s.heap.DictOf (mixKind X.prog X.w) d vs := by
  obtain ⟨o, es, ep, vs, h1, h2, h3, h4, h5, h6, h7⟩ := D.ex
  exact ⟨vs, ep, h7, ⟨o, es, I.kIn _ _ h1, h2, h3, h4, h5, h6⟩, ⟨o, es, ep, I.kIn _ _ h1, h2, h3, h4, h5, h6⟩⟩
def tKGet (d : Addr) (kvs : List (Key × V)) (td ty : TE) : TE := fun σ H Q => td σ H fun x H1 => ty σ H1 fun y H2 => ∃ k v, x = .ref d ∧ y = kV k ∧ valV kvs k = some v ∧ Q v H2
theorem pe_kget {o i : Expr} {pos : Pos} {td ty : TE} (D : KD X.prog X.w X.K d kvs) (ho : PE X o td) (hi : PE X i ty) (hs : NoSl i) : PE X (.Subscript o i pos) (tKGet d kvs td ty) := by
  intro pins s σ H Q I h
  refine subD_of PySem.F.slot_dict_getitem.lookup hs (thn (ho pins s σ H _ I h) fun u s1 ⟨x, H1, I1, rx, q1⟩ => thn (hi pins s1 σ H1 _ I1 q1) fun iv s2 ⟨y, H2, I2, ry, k, v, ex, ey, l, q2⟩ => ?_)
  subst ex ey
  obtain rfl : u = Value.ref d := rx
  obtain ⟨vs, ep, rel, _, dd⟩ := D.at_ I2
  obtain ⟨w', hw, rw'⟩ := RelO.some_of (v := v) (o := valueAt vs k) (by rw [← l]; exact rel.val k)
  exact ⟨dd.typeIs, wpAny_getItem_of (kV_is ry) dd.mapOf hw ⟨v, H2, I2.tok _, rw', q2⟩⟩
end

end L2

namespace L2
open PySem PySem.Spec PyProof.Rows
section
variable {X : Cx}
end

end L2

namespace L2
open PySem PySem.Spec PyProof.Rows
section
variable {X : Cx}
theorem call_intB : CallR X (.type "int") (fun xs H Q => ∃ b : Bool, xs = [.bl b] ∧ Q (.int (if b then 1 else 0)) H) := by
  intro pins s σ H xs us Q I r h
  obtain ⟨b, rfl, q⟩ := h
  obtain ⟨u, rfl, ru⟩ := vals1 r
  cases ru
  exact call_int_bool ⟨.int _, H, I.tok _, ⟨_, rfl⟩, q⟩
end
def at0 {α : Type} (xs : List α) (d : α) (k : Int) : α := (atI xs k).getD d
section
variable {H : Hp}
theorem deeps_c {d : DV} {ds : List DV} {xs : List V} (h : DeepTs H (d :: ds) xs) : ∃ y ys, xs = y :: ys ∧ DeepT H d y ∧ DeepTs H ds ys := by rw [DeepTs] at h; exact h
theorem deep_s {z : Str} {v : V} (h : DeepT H (.str z) v) : v = .str z := by rw [DeepT] at h; exact h
theorem deep_i {n : Int} {v : V} (h : DeepT H (.int n) v) : v = .int n := by rw [DeepT] at h; exact h
theorem deep_l {ds : List DV} {v : V} (h : DeepT H (.lst ds) v) : ∃ a xs, v = .ref a ∧ H a = some (.lst xs) ∧ DeepTs H ds xs := by rw [DeepT] at h; exact h
theorem strs_deeps : ∀ (ws : List Str), DeepTs H (ws.map DV.str) (ws.map V.str)
  | [] => DeepTs.nil
  | w :: ws => by
    show DeepTs H (.str w :: ws.map DV.str) _
    rw [DeepTs]
    exact ⟨_, _, rfl, by rw [DeepT], strs_deeps ws⟩
end
theorem star_N {x : Str} {p : Pos} {es : List Expr} {env : Env} : starEach (Expr.Name x p :: es) env = (false, eval (Expr.Name x p) env) :: starEach es env := rfl

end L2

namespace L2
open PySem PySem.Spec PyProof.Rows
section
variable {X : Cx}
theorem vals_strs : ∀ (l : List (Str × Tok)), Vals (l.map fun p => V.str p.1) (strValues l)
  | [] => .nil
  | p :: l => .cons ⟨p.2, rfl⟩ (vals_strs l)
theorem map_fst (l : List (Str × Tok)) : (l.map fun p => V.str p.1) = (l.map (·.1)).map V.str := by rw [List.map_map]; rfl
def rSplitN : V → List V → Hp → VK → Prop := fun x vs H Q => ∃ (z y : Str) (k : Int), x = .str z ∧ vs = [.str y, .int k] ∧ 0 < y.length ∧ z.length ≤ 1000000 ∧ 0 ≤ k ∧ k ≤ 1000 ∧ ∀ p, H p = none → Q (.ref p) (upd H p (.lst ((Txt.splitMax z y k).map V.str)))
theorem parts_len (x y : Str) (n : Nat) (hx : x.length ≤ 1000000) : (Builtin.Str.partsBetween x (Builtin.Str.occurrences x y 0 x.length n) y.length).length ≤ sizeLine := by
  have e1 := StrLaws.occ_length_le_len x y 0 x.length n
  rw [length_partsBetween, sizeLine_eq]; omega
theorem mt_splitN : MtM X "str.split" rSplitN := by
  intro pins s σ H x vs v us Q I rx rv h
  obtain ⟨z, y, k, rfl, rfl, hy, hz, k0, k1, q⟩ := h
  obtain ⟨t, rfl⟩ := rx
  obtain ⟨u, w', rfl, ⟨t1, rfl⟩, ⟨t2, rfl⟩⟩ := vals2 rv
  have hy0 : (y.length == 0) = false := by rw [beq_eq_false_iff_ne]; omega
  have hk : (decide (k < -(2 ^ 63 : Int)) || decide (k ≥ 2 ^ 63)) = false := by
    rw [Bool.or_eq_false_iff]; exact ⟨decide_eq_false (by omega), decide_eq_false (by omega)⟩
  have hzs : z.length ≤ sizeLine := by rw [sizeLine_eq]; omega
  have fin : ∀ (l : List (Str × Tok)) (tk : Nat), l.map (·.1) = Txt.splitMax z y k → l.length ≤ sizeLine → EP X pins σ Q (.ref s.heap.objs.size) { s with heap := s.heap.push { cls := .type "list", data := .seq (strValues l).toArray }, toks := tk } := fun l tk e hl =>
    ⟨.ref s.heap.objs.size, _, I.toInw.lnew (ys := (Txt.splitMax z y k).map V.str) (by rw [← e, ← map_fst]; exact vals_strs l) (by rw [← e, List.length_map, List.length_map]; exact hl), rfl, q _ I.fresh⟩
  cases h1 : (decide (z.length < y.length) || decide (Builtin.Str.strKind z < Builtin.Str.strKind y))
  · cases hf : (Builtin.Str.occurrences z y 0 z.length (limitOf z k)).isEmpty
    · have hn := parts_len z y (limitOf z k) hz
      refine call_meets F.slot_str_split (typeIs_str _ _ _) F.entry_str_split (F.args_str_split_3 _ _ _) (meets_str_split_sep_max z y k t t1 t2 hk h1 hy0 hf hzs hn) ?_
      show wants _ _ _ { s with toks := _, heap := s.heap.push { cls := .type "list", data := .seq (strsFrom s.toks (Builtin.Str.partsBetween z (Builtin.Str.occurrences z y 0 z.length (limitOf z k)) y.length)).toArray } }
      rw [strsFrom_eq]
      have e := (numbered_texts s.toks (Builtin.Str.partsBetween z (Builtin.Str.occurrences z y 0 z.length (limitOf z k)) y.length))
      exact fin (numbered s.toks _) _ (e.trans ((if_neg (ne_true_of_eq_false h1)).trans (if_neg (ne_true_of_eq_false hf))).symm) (by have := congrArg List.length e; rw [List.length_map] at this; rw [this]; exact hn)
    · exact call_meets F.slot_str_split (typeIs_str _ _ _) F.entry_str_split (F.args_str_split_3 _ _ _) (meets_str_split_max_not_found z y k t t1 t2 hk h1 hy0 hf)
        (fin [(z, t)] s.toks ((if_neg (ne_true_of_eq_false h1)).trans (if_pos hf)).symm (by show 1 ≤ sizeLine; decide))
  · exact call_meets F.slot_str_split (typeIs_str _ _ _) F.entry_str_split (F.args_str_split_3 _ _ _) (meets_str_split_max_cannot_occur z y k t t1 t2 hk h1)
      (fin [(z, t)] s.toks (if_pos h1).symm (by show 1 ≤ sizeLine; decide))
def rSplit1 : V → List V → Hp → VK → Prop := fun x vs H Q => ∃ (z y : Str), x = .str z ∧ vs = [.str y] ∧ 0 < y.length ∧ z.length ≤ 1000000 ∧ ∀ p, H p = none → Q (.ref p) (upd H p (.lst ((Txt.split z y).map V.str)))
theorem mt_split1 : MtM X "str.split" rSplit1 := by
  intro pins s σ H x vs v us Q I rx rv h
  obtain ⟨z, y, rfl, rfl, hy, hz, q⟩ := h
  obtain ⟨t, rfl⟩ := rx
  obtain ⟨u, rfl, t1, rfl⟩ := vals1 rv
  have hy0 : (y.length == 0) = false := by rw [beq_eq_false_iff_ne]; omega
  have hzs : z.length ≤ sizeLine := by rw [sizeLine_eq]; omega
  have fin : ∀ (l : List (Str × Tok)) (tk : Nat), l.map (·.1) = Txt.split z y → l.length ≤ sizeLine → EP X pins σ Q (.ref s.heap.objs.size) { s with heap := s.heap.push { cls := .type "list", data := .seq (strValues l).toArray }, toks := tk } := fun l tk e hl =>
    ⟨.ref s.heap.objs.size, _, I.toInw.lnew (ys := (Txt.split z y).map V.str) (by rw [← e, ← map_fst]; exact vals_strs l) (by rw [← e, List.length_map, List.length_map]; exact hl), rfl, q _ I.fresh⟩
  cases h1 : (decide (z.length < y.length) || decide (Builtin.Str.strKind z < Builtin.Str.strKind y))
  · cases hf : (Builtin.Str.occurrences z y 0 z.length (z.length + 1)).isEmpty
    · have hn := parts_len z y (z.length + 1) hz
      refine call_meets F.slot_str_split (typeIs_str _ _ _) F.entry_str_split (F.args_str_split_2 _ _) (meets_str_split_sep z y t t1 h1 hy0 hf hzs hn) ?_
      show wants _ _ _ { s with toks := _, heap := s.heap.push { cls := .type "list", data := .seq (strsFrom s.toks (Builtin.Str.partsBetween z (Builtin.Str.occurrences z y 0 z.length (z.length + 1)) y.length)).toArray } }
      rw [strsFrom_eq]
      have e := (numbered_texts s.toks (Builtin.Str.partsBetween z (Builtin.Str.occurrences z y 0 z.length (z.length + 1)) y.length))
      exact fin (numbered s.toks _) _ (e.trans ((if_neg (ne_true_of_eq_false h1)).trans (if_neg (ne_true_of_eq_false hf))).symm) (by have := congrArg List.length e; rw [List.length_map] at this; rw [this]; exact hn)
    · exact call_meets F.slot_str_split (typeIs_str _ _ _) F.entry_str_split (F.args_str_split_2 _ _) (meets_str_split_not_found z y t t1 h1 hy0 hf)
        (fin [(z, t)] s.toks ((if_neg (ne_true_of_eq_false h1)).trans (if_pos hf)).symm (by show 1 ≤ sizeLine; decide))
  · exact call_meets F.slot_str_split (typeIs_str _ _ _) F.entry_str_split (F.args_str_split_2 _ _) (meets_str_split_cannot_occur z y t t1 h1)
      (fin [(z, t)] s.toks (if_pos h1).symm (by show 1 ≤ sizeLine; decide))
theorem call_intT : CallR X (.type "int") (fun xs H Q => ∃ (z : Str) (n : Int), xs = [.str z] ∧ z.length ≤ 640 ∧ PySem.intText? z = some n ∧ Q (.int n) H) := by
  intro pins s σ H xs us Q I r h
  obtain ⟨z, n, rfl, h1, h2, q⟩ := h
  obtain ⟨u, rfl, t, rfl⟩ := vals1 r
  exact PySem.W.KIN.call_text h2 h1 ⟨.int n, H, I.tok _, ⟨_, rfl⟩, q⟩
def tRepl (K : PySem.W.Frag) (to : TE) (y z : Str) : TE := fun σ H Q => to σ H fun x H1 => ∃ w : Str, x = .str w ∧ w.length ≤ 1000000 ∧ z.length ≤ 14 ∧ (y == z) = false ∧ Q (.str (Txt.replace w y z)) H1
theorem pe_repl (K : PySem.W.Frag) {o : Expr} {to : TE} {y z : Str} {j1 j2 : Nat} {p1 p2 apos cpos : Pos} (ho : PE X o to)
    (hbase : attributeBase o "replace" X.env (eval o X.env) = eval o X.env := by rfl)
    (hfew : ((backTo cpos (starEach [.Constant (.str y) j1 p1, .Constant (.str z) j2 p2] X.env)).all (fun x => !x.1) && (backToKw cpos (keywordEach [] X.env)).all (fun x => x.1.isSome)
      && decide (([.Constant (.str y) j1 p1, .Constant (.str z) j2 p2] : List Expr).length + ([] : List Keyword).length + (if ([] : List Keyword).isEmpty then 0 else 1) < 30)) = true := by rfl)
    (hline : (apos.endLine == cpos.line) = true := by rfl) :
    PE X (.Call (.Attribute o "replace" apos) [.Constant (.str y) j1 p1, .Constant (.str z) j2 p2] [] cpos) (tRepl K to y z) := by
  intro pins s σ H Q I h
  refine wpAny_Call_method_late hbase hfew hline rfl (thn (ho pins s σ H _ I h) fun v s1 ⟨x, H1, I1, r1, q1⟩ => ?_)
  obtain ⟨w, rfl, hw, hz, hyz, q⟩ := q1
  obtain ⟨t, rfl⟩ := r1
  refine ⟨"str", "str.replace", PySem.F.plainAttrs_str, PySem.F.slot_str_replace, PySem.F.type_str_replace, typeIs_str _ _ _, ?_, ?_⟩
  · exact fun _ e => nomatch e
  refine Calls.callWith_builtin rfl (Calls.evalArgs_plain ?_)
  refine Calls.spliced_cons (Calls.Constant_str (k := j1) (pos := p1) ?_)
  refine Calls.spliced_cons (Calls.Constant_str (k := j2) (pos := p2) ?_)
  refine Calls.spliced_nil ?_
  have z1 := I1.pos
  refine SC.replaceW (show (s1.toks : Nat) ≠ 0 by omega) (show (s1.toks + 1 : Nat) ≠ 0 by omega) (show (s1.toks : Nat) ≠ s1.toks + 1 by omega) hyz (by omega) hz fun t' k => ?_
  exact ⟨.str _, H1, I1.tok _, ⟨t', rfl⟩, q⟩
theorem psW_call2 {CX : CXT} {k i iy : Nat} {f : Addr} {fd : FuncData} {ps : List Str} {sp : Sp} {E : XK} {x y g : Str} {n1 n2 : Int} {j1 j2 : Nat} {px py pg p1 p2 cpos pos : Pos}
    (F : FnOk X.prog X.w X.K X.mg X.base CX k f fd ps sp) (hr : Room k X.A) (hg : Gl X g) (hm : X.mg g = some (.ref f)) (hk : PySem.W.keepIn X.K (.ref f) = true) (hb : Binds X.K fd ps []) (hx : Passes CX X E)
    (hN : X.N.Nodup) (hi : X.N[i]? = some x) (hxl : Loc X.env.scope x) (hy : X.N[iy]? = some y) (hyl : X.env.scope.names.lookup y = some .local) (hdy : (y == ("__debug__" : Str)) = false := by decide) (hdb : (g == ("__debug__" : Str)) = false := by decide)
    (hs : swapsWith (.Call (.Name g pg) [.Name y py, .Constant (.int n1) j1 p1, .Constant (.int n2) j2 p2] [] cpos) (some (.Name x px)) pos.line X.env = pure false := by rfl)
    (hf : X.fn x = true ∨ X.env.scope.names.lookup x = some .local := by first | exact .inl rfl | exact .inr rfl | assumption) :
    PSW X (.Assign [.Name x px] (.Call (.Name g pg) [.Name y py, .Constant (.int n1) j1 p1, .Constant (.int n2) j2 p2] [] cpos) pos)
      (fun D σ H => ∃ v, σ[iy]? = some (some v) ∧ sp [v, .int n1, .int n2] H (fun u H' => D.nx (σ.set i (some u)) H') E) := by
  intro pins s σ H D I h
  obtain ⟨v, hv, h⟩ := h
  obtain ⟨m, hn, hl⟩ := I.loc
  obtain ⟨u, ru, lk⟩ := hl iy y v hy hv (.inl hyl)
  have hmy : m y = some u := by
    rcases lk with ⟨_, e⟩ | ⟨k, _⟩
    · exact e
    · rcases k with k | k
      · rw [show X.env.kindOf y = some .local from hyl] at k; cases k
      · rw [show X.env.kindOf y = some .local from hyl] at k; cases k
  refine wpAny_Assign_Name ?_ hs
  refine wpAny_Call_Name_kw (Calls.Name_function_global I.ok.kind hg (Calls.loadGlobal_global (by rw [I.ok.glob]; exact I.mod.glob.keeps I.bk) hm ?_) hdb)
  refine PySem.W.callWith_K (h₀ := X.base) I.ok.mod.kin hk ?_ rfl rfl
  refine Calls.spliced_cons (wpAny_Name (pos := py) (wpAny_loadName_local I.ok.kind hyl hn hmy ?_) hdy)
  refine Calls.spliced_cons (wpAny_Constant_int (k := j1) (pos := p1) ?_)
  refine Calls.spliced_cons (wpAny_Constant_int (k := j2) (pos := p2) ?_)
  refine Calls.spliced_nil ?_
  have I1 : Inv X pins σ H { s with toks := s.toks + 1 + 1 } := ⟨I.tok _, Nat.succ_pos _⟩
  refine ⟨I1.kIn, ?_⟩
  refine thnZ (s := { s with toks := s.toks + 1 + 1 }) I1.pos (run_fn (dvs := []) (vs := [v, .int n1, .int n2]) F hr hb .nil hx I1 (.cons ru (.cons ⟨_, rfl⟩ (.cons ⟨_, rfl⟩ .nil))) h) fun w s2 z2 ⟨y2, H2, I2, r2, q2⟩ => ?_
  exact wpAny_tok z2 (store_ok I2 hN hi hxl r2 (fun s3 I3 z3 => ⟨_, H2, ⟨I3, z3⟩, q2⟩) hf)
end

end L2

namespace L2
open PySem PySem.Spec PyProof.Rows
section
variable {prog : Program} {w : World} {A : Around} {E : Value → Shared → Prop} {s : Shared}
theorem nt_item {j b : Addr} {n : Nat} {vs : Array Value} {x : Value} {Q : Value → Shared → Prop} (g : s.heap.IsTupleIter j b n) (gt : s.heap.IsTuple b vs) (gx : vs[n]? = some x)
    (q : ∀ h2, h2.IsTupleIter j b (n + 1) → Heap.SameBut j s.heap h2 → Q x { s with heap := h2 }) : wpAny (model prog w) A (Builtin.SmallTypes.nextOf (.ref j)) Q E s := by
  obtain ⟨o1, g1, gc, gd⟩ := id g
  obtain ⟨o2, g2, _, m, gm⟩ := gt
  unfold Builtin.SmallTypes.nextOf
  refine wpAny_bind (wpAny_callSpecial?_slot (name := Str.ofString "__next__") g.typeIs F.slot_tuple_iterator_next (wpAny_call_entry F.slot_tuple_iterator_next g.typeIs F.entry_tuple_iterator_next ?_ (F.args_tuple_iterator_next_1 _)))
  show wpAny _ _ (field (.ref j) 0 >>= _) _ _ s
  refine wpAny_bind (wpAny_field g1 gd (x := .ref b) rfl ?_)
  show wpAny _ _ (if (Value.ref b == Value.none) = true then _ else _) _ _ s
  rw [if_neg (show ¬ ((Value.ref b == Value.none) = true) from Bool.false_ne_true)]
  show wpAny _ _ (field (.ref j) 1 >>= _) _ _ s
  refine wpAny_bind (wpAny_field g1 gd (x := .int n 0) rfl ?_)
  show wpAny _ _ (seqItems? (.ref b) >>= _) _ _ s
  refine wpAny_bind (wpAny_seqItems g2 gm ?_)
  simp only [Int.toNat_natCast, gx]
  refine wpAny_bind (wpAny_setField g1 gd (by simp) (wpAny_pure ⟨x, rfl, wpAny_pure (q _ ?_ (Heap.SameBut.update ..))⟩))
  exact ⟨_, Heap.get?_update_self _ g1 (Obj.isFreed_of_fields (Obj.data_mapFields gd _)), (Obj.cls_mapFields ..).trans gc, by rw [Obj.data_mapFields gd]; simp [rawInt]⟩
theorem nt_end {j b : Addr} {n : Nat} {vs : Array Value} {Q : Value → Shared → Prop} (ha : A.handled = none) (g : s.heap.IsTupleIter j b n) (gt : s.heap.IsTuple b vs) (gx : vs[n]? = none)
    (q : ∀ h2 e, Heap.ExtBut j s.heap h2 → (∃ o, h2.get? e = some o ∧ o.cls = .type "StopIteration") → E (.ref e) { s with heap := h2 }) : wpAny (model prog w) A (Builtin.SmallTypes.nextOf (.ref j)) Q E s := by
  obtain ⟨o1, g1, gc, gd⟩ := id g
  obtain ⟨o2, g2, _, m, gm⟩ := gt
  unfold Builtin.SmallTypes.nextOf
  refine wpAny_bind (wpAny_callSpecial?_slot (name := Str.ofString "__next__") g.typeIs F.slot_tuple_iterator_next (wpAny_call_entry F.slot_tuple_iterator_next g.typeIs F.entry_tuple_iterator_next ?_ (F.args_tuple_iterator_next_1 _)))
  show wpAny _ _ (field (.ref j) 0 >>= _) _ _ s
  refine wpAny_bind (wpAny_field g1 gd (x := .ref b) rfl ?_)
  show wpAny _ _ (if (Value.ref b == Value.none) = true then _ else _) _ _ s
  rw [if_neg (show ¬ ((Value.ref b == Value.none) = true) from Bool.false_ne_true)]
  show wpAny _ _ (field (.ref j) 1 >>= _) _ _ s
  refine wpAny_bind (wpAny_field g1 gd (x := .int n 0) rfl ?_)
  show wpAny _ _ (seqItems? (.ref b) >>= _) _ _ s
  refine wpAny_bind (wpAny_seqItems g2 gm ?_)
  simp only [Int.toNat_natCast, gx]
  refine wpAny_bind (wpAny_rule (wpAny_bind (wpAny_setField g1 gd (by simp) ?_)))
  refine wpAny_bind (m := newExc (.type "StopIteration") []) ?_
  simp only [newExc, newTuple]
  refine wpAny_bind (wpAny_newObj_type (wpAny_bind (m := firstArgMember _ _) (wpAny_of_eq (a := Value.none) (by first | rfl | (simp only [firstArgMember]; rfl)) (wpAny_newObj_type ?_ (by size_fits)))) (by size_fits))
  simp only [raiseNew]
  refine wpAny_bind (wpAny_handled ?_)
  first | rw [show A.in1.handled = none from ha] | rw [ha]
  exact wpAny_bind (wpAny_pure (wpAny_throw (q _ _ (((Heap.SameBut.update ..).extBut.push _).push _) ⟨_, Heap.get?_push_size _ rfl, rfl⟩)))
end
def SqIt (tp : Bool) (i l : Addr) (xs : Array Value) (k : Nat) (h : Heap) : Prop := if tp = true then h.IsTupleIter i l k ∧ h.IsTuple l xs else h.IsListIter i l k ∧ h.IsList l xs
theorem SqIt.keep {tp : Bool} {i l : Addr} {xs : Array Value} {k : Nat} {h h' : Heap} (q : SqIt tp i l xs k h) (k1 : ∀ o, h.get? i = some o → h'.get? i = some o) (k2 : ∀ o, h.get? l = some o → h'.get? l = some o) : SqIt tp i l xs k h' := by
  cases tp with
  | true => exact ⟨q.1.at k1, q.2.at k2⟩
  | false => exact ⟨q.1.at k1, q.2.at k2⟩
theorem SqIt.it {tp : Bool} {i l : Addr} {xs : Array Value} {k : Nat} {h : Heap} (q : SqIt tp i l xs k h) : ∃ o, h.get? i = some o ∧ ∀ v, o.data ≠ .cell v := by
  cases tp with
  | true => obtain ⟨⟨o, e, _, d⟩, _⟩ := q; exact ⟨o, e, fun v z => by rw [d] at z; cases z⟩
  | false => obtain ⟨⟨o, e, _, d⟩, _⟩ := q; exact ⟨o, e, fun v z => by rw [d] at z; cases z⟩
section
variable {prog : Program} {w : World} {A : Around} {E : Value → Shared → Prop} {s : Shared}
theorem SqIt.item {tp : Bool} {i l : Addr} {xs : Array Value} {k : Nat} {x : Value} {Q : Value → Shared → Prop} (g : SqIt tp i l xs k s.heap) (ne : l ≠ i) (gx : xs[k]? = some x)
    (q : ∀ h2, SqIt tp i l xs (k + 1) h2 → Heap.SameBut i s.heap h2 → Q x { s with heap := h2 }) : wpAny (model prog w) A (Builtin.SmallTypes.nextOf (.ref i)) Q E s := by
  cases tp with
  | true => exact nt_item g.1 g.2 gx fun h2 a b => q h2 ⟨a, g.2.at fun o e => b.extBut _ o ne e⟩ b
  | false => exact wpAny_nextOf_list_item g.1 g.2 gx fun h2 a b => q h2 ⟨a, g.2.at fun o e => b.extBut _ o ne e⟩ b
theorem SqIt.done {tp : Bool} {i l : Addr} {xs : Array Value} {k : Nat} {Q : Value → Shared → Prop} (ha : A.handled = none) (g : SqIt tp i l xs k s.heap) (gx : xs[k]? = none)
    (q : ∀ h2 e, Heap.ExtBut i s.heap h2 → (∃ o, h2.get? e = some o ∧ o.cls = .type "StopIteration") → E (.ref e) { s with heap := h2 }) : wpAny (model prog w) A (Builtin.SmallTypes.nextOf (.ref i)) Q E s := by
  cases tp with
  | true => exact nt_end ha g.1 g.2 gx q
  | false => exact wpAny_nextOf_list_end ha g.1 g.2 gx q
structure ZA (z a b i1 i2 l1 l2 : Addr) : Prop where
  az : a ≠ z
  bz : b ≠ z
  iz : i1 ≠ z
  jz : i2 ≠ z
  ab : a ≠ b
  ai : a ≠ i1
  aj : a ≠ i2
  bi : b ≠ i1
  bj : b ≠ i2
  ij : i1 ≠ i2
  lz : l1 ≠ z
  lb : l1 ≠ b
  li : l1 ≠ i1
  lj : l1 ≠ i2
  mz : l2 ≠ z
  mb : l2 ≠ b
  mi : l2 ≠ i1
  mj : l2 ≠ i2
theorem zn_item {t1 t2 : Bool} {z a b i1 i2 l1 l2 : Addr} {k : Nat} {xs ys : Array Value} {x y p q : Value} {Q : Value → Shared → Prop} (D : ZA z a b i1 i2 l1 l2) (hz : IsZip s.heap z a b .none) (ha : IsPair s.heap a (.ref i1) (.ref i2)) (hb : IsPair s.heap b p q)
    (g1 : SqIt t1 i1 l1 xs k s.heap) (g2 : SqIt t2 i2 l2 ys k s.heap) (hx : xs[k]? = some x) (hy : ys[k]? = some y)
    (hQ : ∀ h', IsZip h' z a b (rawInt s.heap.objs.size) → IsPair h' b x y → SqIt t1 i1 l1 xs (k + 1) h' → SqIt t2 i2 l2 ys (k + 1) h' → IsPair h' s.heap.objs.size x y →
      (∀ c o, c ≠ z → c ≠ b → c ≠ i1 → c ≠ i2 → s.heap.get? c = some o → h'.get? c = some o) → Q (.ref s.heap.objs.size) { s with heap := h' }) :
    wpAny (model prog w) A (Builtin.«zip.__next__» ⟨[.ref z], []⟩) (fun fin s' => ∃ v, fin = .done (.ret v) ∧ Q v s') E s := by
  refine wpAny_bind (m := field (.ref z) 2) (wpAny_field hz rfl (x := .bool false) rfl ?_)
  refine wpAny_bind (m := field (.ref z) 3) (wpAny_field hz rfl (x := .ref a) rfl (wpAny_bind (wpAny_seqItems ha rfl ?_)))
  refine wpAny_bind (m := Builtin.SmallTypes.ownedTupleIsFree (.ref z)) ?_
  unfold Builtin.SmallTypes.ownedTupleIsFree
  refine wpAny_bind (wpAny_field hz rfl (x := .none) rfl (wpAny_pure ?_))
  simp only [if_true]
  refine wpAny_bind (wpAny_rule (wpAny_bind (wpAny_field hz rfl (x := .ref b) rfl (wpAny_bind (wpAny_setField_rec hz (by simp) fun k₁ z₁ c₁ => ?_)))))
  replace z₁ : IsZip k₁ z a b .ellipsis := z₁
  refine wpAny_bind ?_
  simp only [List.zipIdx_cons, List.zipIdx_nil, List.forIn_cons, List.forIn_nil]
  refine wpAny_bind (wpAny_bind (wpAny_onRaise (wpAny_bind (m := Builtin.SmallTypes.nextOf (.ref i1)) ?_)))
  refine SqIt.item (g1.keep (fun o e => c₁.extBut _ o D.iz e) fun o e => c₁.extBut _ o D.lz e) D.li hx fun k₂ m₂ c₂ => wpAny_pure ?_
  have b₂ : IsPair k₂ b p q := c₂.extBut _ _ D.bi (c₁.extBut _ _ D.bz hb)
  refine wpAny_bind (wpAny_seqItems b₂ rfl (wpAny_bind (wpAny_updateSeq_pair b₂ fun k₃ b₃ c₃ => ?_)))
  replace b₃ : IsPair k₃ b x q := b₃
  refine wpAny_bind (wpAny_letGo (wpAny_pure (wpAny_bind (wpAny_bind (wpAny_onRaise (wpAny_bind (m := Builtin.SmallTypes.nextOf (.ref i2)) ?_))))))
  have g2' : SqIt t2 i2 l2 ys k k₃ := g2.keep (fun o e => c₃.extBut _ o D.bj.symm (c₂.extBut _ o D.ij.symm (c₁.extBut _ o D.jz e))) fun o e => c₃.extBut _ o D.mb (c₂.extBut _ o D.mi (c₁.extBut _ o D.mz e))
  refine SqIt.item (s := { s with heap := k₃ }) g2' D.mj hy fun k₄ m₄ c₄ => wpAny_pure ?_
  have b₄ : IsPair k₄ b x q := c₄.extBut _ _ D.bj b₃
  refine wpAny_bind (wpAny_seqItems b₄ rfl (wpAny_bind (wpAny_updateSeq_pair b₄ fun k₅ b₅ c₅ => ?_)))
  replace b₅ : IsPair k₅ b x y := b₅
  refine wpAny_bind (wpAny_letGo (wpAny_pure (wpAny_pure (wpAny_bind (wpAny_seqItems b₅ rfl (wpAny_bind (wpAny_newTuple ?_)))))))
  have sz : k₅.objs.size = s.heap.objs.size := by rw [c₅.1, c₄.1, c₃.1, c₂.1, c₁.1]
  have z₅ : IsZip k₅ z a b .ellipsis := c₅.extBut _ _ D.bz.symm (c₄.extBut _ _ D.jz.symm (c₃.extBut _ _ D.bz.symm (c₂.extBut _ _ D.iz.symm z₁)))
  have r₅ : ∀ c o, c ≠ z → c ≠ b → c ≠ i1 → c ≠ i2 → s.heap.get? c = some o → k₅.get? c = some o := fun c o n1 n2 n3 n4 e =>
    c₅.extBut _ _ n2 (c₄.extBut _ _ n4 (c₃.extBut _ _ n2 (c₂.extBut _ _ n3 (c₁.extBut _ _ n1 e))))
  have s1₅ : SqIt t1 i1 l1 xs (k + 1) k₅ := m₂.keep (fun o e => c₅.extBut _ o D.bi.symm (c₄.extBut _ o D.ij (c₃.extBut _ o D.bi.symm e))) fun o e => c₅.extBut _ o D.lb (c₄.extBut _ o D.lj (c₃.extBut _ o D.lb e))
  have s2₅ : SqIt t2 i2 l2 ys (k + 1) k₅ := m₄.keep (fun o e => c₅.extBut _ o D.bj.symm e) fun o e => c₅.extBut _ o D.mb e
  refine wpAny_bind (m := Builtin.SmallTypes.ownedTupleHandOut (.ref z) (.ref k₅.objs.size)) ?_
  unfold Builtin.SmallTypes.ownedTupleHandOut
  have z₆ : IsZip (k₅.push { cls := .type "tuple", data := .seq #[x, y] }) z a b .ellipsis := Heap.get?_push_of_some _ z₅
  refine wpAny_bind (wpAny_setField_rec z₆ (by simp) fun k₇ z₇ c₇ => ?_)
  replace z₇ : IsZip k₇ z a b (rawInt k₅.objs.size) := z₇
  refine wpAny_setField_rec z₇ (by simp) fun k₈ z₈ c₈ => ?_
  replace z₈ : IsZip k₈ z a b (rawInt k₅.objs.size) := z₈
  have up : ∀ c o, c ≠ z → k₅.get? c = some o → k₈.get? c = some o := fun c o n1 e => c₈.extBut _ _ n1 (c₇.extBut _ _ n1 (Heap.get?_push_of_some _ e))
  have zl : z < k₅.objs.size := Heap.lt_size z₅
  have p₈ : IsPair k₈ k₅.objs.size x y := c₈.extBut _ _ (Nat.ne_of_gt zl) (c₇.extBut _ _ (Nat.ne_of_gt zl) (Heap.get?_push_size _ rfl))
  rw [sz] at z₈ p₈
  refine wpAny_pure ⟨_, rfl, ?_⟩
  show Q (.ref k₅.objs.size) _
  rw [sz]
  exact hQ k₈ z₈ (up _ _ D.bz b₅) (s1₅.keep (fun o e => up _ o D.iz e) fun o e => up _ o D.lz e) (s2₅.keep (fun o e => up _ o D.jz e) fun o e => up _ o D.mz e) p₈ fun c o n1 n2 n3 n4 e => up c o n1 (r₅ c o n1 n2 n3 n4 e)
theorem zn_end {t1 t2 : Bool} {z a b i1 i2 l1 l2 : Addr} {k : Nat} {xs ys : Array Value} {p q : Value} {Q : Fin → Shared → Prop} (hh : A.handled = none) (D : ZA z a b i1 i2 l1 l2) (hz : IsZip s.heap z a b .none) (ha : IsPair s.heap a (.ref i1) (.ref i2)) (hb : IsPair s.heap b p q)
    (g1 : SqIt t1 i1 l1 xs k s.heap) (g2 : SqIt t2 i2 l2 ys k s.heap) (hend : xs[k]? = none ∨ ys[k]? = none)
    (hE : ∀ h' e, (∀ c o, c ≠ z → c ≠ b → c ≠ i1 → c ≠ i2 → s.heap.get? c = some o → h'.get? c = some o) → (∃ o, h'.get? e = some o ∧ o.cls = .type "StopIteration") → E (.ref e) { s with heap := h' }) :
    wpAny (model prog w) A (Builtin.«zip.__next__» ⟨[.ref z], []⟩) Q E s := by
  refine wpAny_bind (m := field (.ref z) 2) (wpAny_field hz rfl (x := .bool false) rfl ?_)
  refine wpAny_bind (m := field (.ref z) 3) (wpAny_field hz rfl (x := .ref a) rfl (wpAny_bind (wpAny_seqItems ha rfl ?_)))
  refine wpAny_bind (m := Builtin.SmallTypes.ownedTupleIsFree (.ref z)) ?_
  unfold Builtin.SmallTypes.ownedTupleIsFree
  refine wpAny_bind (wpAny_field hz rfl (x := .none) rfl (wpAny_pure ?_))
  simp only [if_true]
  refine wpAny_bind (wpAny_rule (wpAny_bind (wpAny_field hz rfl (x := .ref b) rfl (wpAny_bind (wpAny_setField_rec hz (by simp) fun k₁ z₁ c₁ => ?_)))))
  replace z₁ : IsZip k₁ z a b .ellipsis := z₁
  refine wpAny_bind ?_
  simp only [List.zipIdx_cons, List.zipIdx_nil, List.forIn_cons, List.forIn_nil]
  refine wpAny_bind (wpAny_bind (wpAny_onRaise (wpAny_bind (m := Builtin.SmallTypes.nextOf (.ref i1)) ?_)))
  have g1' : SqIt t1 i1 l1 xs k k₁ := g1.keep (fun o e => c₁.extBut _ o D.iz e) fun o e => c₁.extBut _ o D.lz e
  cases hx : xs[k]? with
  | none =>
    refine SqIt.done (s := { s with heap := k₁ }) hh g1' hx fun k₂ e c₂ he => ?_
    obtain ⟨oe, e1, e2⟩ := he
    have z₂ : IsZip k₂ z a b .ellipsis := c₂ _ _ D.iz.symm z₁
    have ez : e ≠ z := fun x => by subst x; rw [z₂] at e1; cases e1; simp at e2
    exact wpAny_setField_rec z₂ (by simp) fun k₃ _ c₃ => hE k₃ e (fun c o n1 _ n3 _ x => c₃.extBut _ _ n1 (c₂ _ _ n3 (c₁.extBut _ _ n1 x))) ⟨oe, c₃.extBut _ _ ez e1, e2⟩
  | some x =>
    have hy : ys[k]? = none := by
      rcases hend with h | h
      · rw [hx] at h; cases h
      · exact h
    refine SqIt.item (s := { s with heap := k₁ }) g1' D.li hx fun k₂ m₂ c₂ => wpAny_pure ?_
    have b₂ : IsPair k₂ b p q := c₂.extBut _ _ D.bi (c₁.extBut _ _ D.bz hb)
    refine wpAny_bind (wpAny_seqItems b₂ rfl (wpAny_bind (wpAny_updateSeq_pair b₂ fun k₃ b₃ c₃ => ?_)))
    refine wpAny_bind (wpAny_letGo (wpAny_pure (wpAny_bind (wpAny_bind (wpAny_onRaise (wpAny_bind (m := Builtin.SmallTypes.nextOf (.ref i2)) ?_))))))
    have g2' : SqIt t2 i2 l2 ys k k₃ := g2.keep (fun o e => c₃.extBut _ o D.bj.symm (c₂.extBut _ o D.ij.symm (c₁.extBut _ o D.jz e))) fun o e => c₃.extBut _ o D.mb (c₂.extBut _ o D.mi (c₁.extBut _ o D.mz e))
    refine SqIt.done (s := { s with heap := k₃ }) hh g2' hy fun k₄ e c₄ he => ?_
    obtain ⟨oe, e1, e2⟩ := he
    have z₄ : IsZip k₄ z a b .ellipsis := c₄ _ _ D.jz.symm (c₃.extBut _ _ D.bz.symm (c₂.extBut _ _ D.iz.symm z₁))
    have ez : e ≠ z := fun x => by subst x; rw [z₄] at e1; cases e1; simp at e2
    exact wpAny_setField_rec z₄ (by simp) fun k₅ _ c₅ => hE k₅ e (fun c o n1 n2 n3 n4 x => c₅.extBut _ _ n1 (c₄ _ _ n4 (c₃.extBut _ _ n2 (c₂.extBut _ _ n3 (c₁.extBut _ _ n1 x))))) ⟨oe, c₅.extBut _ _ ez e1, e2⟩
end

end L2

namespace L2
open PySem PySem.Spec PyProof.Rows
def itO (tp : Bool) (l : Addr) : Obj := if tp = true then { cls := .type "tuple_iterator", data := .fields #[.ref l, .int 0 0] } else { cls := .type "list_iterator", data := .fields #[.ref l, .int 0 0] }
def Sq (tp : Bool) (l : Addr) (xs : Array Value) (h : Heap) : Prop := if tp = true then h.IsTuple l xs else h.IsList l xs
abbrev zh1 (h : Heap) (t1 : Bool) (l1 : Addr) : Heap := h.push (itO t1 l1)
abbrev zh2 (h : Heap) (t1 t2 : Bool) (l1 l2 : Addr) : Heap := (zh1 h t1 l1).push (itO t2 l2)
abbrev zh3 (h : Heap) (t1 t2 : Bool) (l1 l2 : Addr) : Heap := (zh2 h t1 t2 l1 l2).push { cls := .type "tuple", data := .seq #[.ref h.objs.size, .ref (zh1 h t1 l1).objs.size] }
abbrev zh4 (h : Heap) (t1 t2 : Bool) (l1 l2 : Addr) : Heap := (zh3 h t1 t2 l1 l2).push { cls := .type "tuple", data := .seq #[.none, .none] }
abbrev zh5 (h : Heap) (t1 t2 : Bool) (l1 l2 : Addr) : Heap := (zh4 h t1 t2 l1 l2).push { cls := .type "zip", data := .fields #[.none, .bool false, .bool false, .ref (zh2 h t1 t2 l1 l2).objs.size, .ref (zh3 h t1 t2 l1 l2).objs.size] }
theorem meets_zip2 (t1 t2 : Bool) (l1 l2 : Addr) (xs ys : Array Value) : Meets (Builtin.«zip.__new__» ⟨[.type "zip", .ref l1, .ref l2], []⟩) (fun _ R s => Sq t1 l1 xs s.heap ∧ Sq t2 l2 ys s.heap ∧
      R (.ok (.ret (.ref (zh4 s.heap t1 t2 l1 l2).objs.size))) { s with heap := zh5 s.heap t1 t2 l1 l2 }) :=
  .of_wp fun prog w A R s h => by
    obtain ⟨hp, g, d, tk, os⟩ := s
    obtain ⟨m1, m2, h⟩ := h
    have hsub := sub_zip
    cases t1 with
    | true =>
      have n1 : Heap.IsTuple (Shared.heap ⟨hp, g, d, tk, os⟩) l1 xs := m1
      cases t2 with
      | true =>
        have n2 : Heap.IsTuple (Shared.heap ⟨hp.push { cls := .type "tuple_iterator", data := .fields #[.ref l1, .int 0 0] }, g, d, tk, os⟩) l2 ys := Heap.IsTuple.at m2 fun o e => Heap.get?_push_of_some _ e
        wp_walk using wpAny_pyIter_tuple n1, wpAny_pyIter_tuple n2
        exact ⟨_, rfl, h⟩
      | false =>
        have n2 : Heap.IsList (Shared.heap ⟨hp.push { cls := .type "tuple_iterator", data := .fields #[.ref l1, .int 0 0] }, g, d, tk, os⟩) l2 ys := Heap.IsList.at m2 fun o e => Heap.get?_push_of_some _ e
        wp_walk using wpAny_pyIter_tuple n1, wpAny_pyIter_list n2
        exact ⟨_, rfl, h⟩
    | false =>
      have n1 : Heap.IsList (Shared.heap ⟨hp, g, d, tk, os⟩) l1 xs := m1
      cases t2 with
      | true =>
        have n2 : Heap.IsTuple (Shared.heap ⟨hp.push { cls := .type "list_iterator", data := .fields #[.ref l1, .int 0 0] }, g, d, tk, os⟩) l2 ys := Heap.IsTuple.at m2 fun o e => Heap.get?_push_of_some _ e
        wp_walk using wpAny_pyIter_list n1, wpAny_pyIter_tuple n2
        exact ⟨_, rfl, h⟩
      | false =>
        have n2 : Heap.IsList (Shared.heap ⟨hp.push { cls := .type "list_iterator", data := .fields #[.ref l1, .int 0 0] }, g, d, tk, os⟩) l2 ys := Heap.IsList.at m2 fun o e => Heap.get?_push_of_some _ e
        wp_walk using wpAny_pyIter_list n1, wpAny_pyIter_list n2
        exact ⟨_, rfl, h⟩
section
variable {prog : Program} {w : World} {A : Around} {E : Value → Shared → Prop} {s : Shared}
theorem call_zip2 {t1 t2 : Bool} {l1 l2 : Addr} {xs ys : Array Value} {Q : Value → Shared → Prop} (m1 : Sq t1 l1 xs s.heap) (m2 : Sq t2 l2 ys s.heap)
    (h : ∀ h', IsZip h' (s.heap.objs.size + 4) (s.heap.objs.size + 2) (s.heap.objs.size + 3) .none → IsPair h' (s.heap.objs.size + 2) (.ref s.heap.objs.size) (.ref (s.heap.objs.size + 1)) →
      IsPair h' (s.heap.objs.size + 3) .none .none → SqIt t1 s.heap.objs.size l1 xs 0 h' → SqIt t2 (s.heap.objs.size + 1) l2 ys 0 h' → (∀ c o, s.heap.get? c = some o → h'.get? c = some o) → Q (.ref (s.heap.objs.size + 4)) { s with heap := h' }) :
    wpAny (model prog w) A (call (.type "zip") [.ref l1, .ref l2]) Q E s := by
  refine callType_new F.called_zip (by decide) (F.typeCall_zip_2 _ _) (F.newCall_zip_2 _ _) (fun obj => F.args_object_init_3 obj _ _) F.entry_zip_new (meets_zip2 t1 t2 l1 l2 xs ys) ⟨m1, m2, ?_⟩
  have z1 : (zh1 s.heap t1 l1).objs.size = s.heap.objs.size + 1 := Heap.size_push ..
  have z2 : (zh2 s.heap t1 t2 l1 l2).objs.size = s.heap.objs.size + 2 := by rw [Heap.size_push, z1]
  have z3 : (zh3 s.heap t1 t2 l1 l2).objs.size = s.heap.objs.size + 3 := by rw [Heap.size_push, z2]
  have z4 : (zh4 s.heap t1 t2 l1 l2).objs.size = s.heap.objs.size + 4 := by rw [Heap.size_push, z3]
  have fz : ∀ tp l, (itO tp l).isFreed = false := fun tp l => by cases tp <;> rfl
  have g5 : (zh5 s.heap t1 t2 l1 l2).get? (zh4 s.heap t1 t2 l1 l2).objs.size = some _ := Heap.get?_push_size _ rfl
  have g4 : (zh5 s.heap t1 t2 l1 l2).get? (zh3 s.heap t1 t2 l1 l2).objs.size = some _ := Heap.get?_push_of_some _ (Heap.get?_push_size _ rfl)
  have g3 : (zh5 s.heap t1 t2 l1 l2).get? (zh2 s.heap t1 t2 l1 l2).objs.size = some _ := Heap.get?_push_of_some _ (Heap.get?_push_of_some _ (Heap.get?_push_size _ rfl))
  have g2 : (zh5 s.heap t1 t2 l1 l2).get? (zh1 s.heap t1 l1).objs.size = some (itO t2 l2) := Heap.get?_push_of_some _ (Heap.get?_push_of_some _ (Heap.get?_push_of_some _ (Heap.get?_push_size _ (fz _ _))))
  have g1 : (zh5 s.heap t1 t2 l1 l2).get? s.heap.objs.size = some (itO t1 l1) := Heap.get?_push_of_some _ (Heap.get?_push_of_some _ (Heap.get?_push_of_some _ (Heap.get?_push_of_some _ (Heap.get?_push_size _ (fz _ _)))))
  have up : ∀ c o, s.heap.get? c = some o → (zh5 s.heap t1 t2 l1 l2).get? c = some o := fun c o x => Heap.get?_push_of_some _ (Heap.get?_push_of_some _ (Heap.get?_push_of_some _ (Heap.get?_push_of_some _ (Heap.get?_push_of_some _ x))))
  show _ ∧ _
  rw [z2, z3, z4] at g5
  rw [z1, z2] at g3
  rw [z3] at g4
  rw [z1] at g2
  rw [z4]
  refine ⟨⟨_, g5, rfl⟩, h _ g5 g3 g4 ?_ ?_ up⟩
  · cases t1 with
    | true => exact ⟨⟨_, g1, rfl, rfl⟩, Heap.IsTuple.at m1 fun o e => up _ o e⟩
    | false => exact ⟨⟨_, g1, rfl, rfl⟩, Heap.IsList.at m1 fun o e => up _ o e⟩
  · cases t2 with
    | true => exact ⟨⟨_, g2, rfl, rfl⟩, Heap.IsTuple.at m2 fun o e => up _ o e⟩
    | false => exact ⟨⟨_, g2, rfl, rfl⟩, Heap.IsList.at m2 fun o e => up _ o e⟩
theorem pn_zip {t1 t2 : Bool} {z a b i1 i2 l1 l2 : Addr} {k : Nat} {xs ys : Array Value} {x y p q : Value} {Q : Option Value → Shared → Prop} (D : ZA z a b i1 i2 l1 l2) (hz : IsZip s.heap z a b .none) (ha : IsPair s.heap a (.ref i1) (.ref i2)) (hb : IsPair s.heap b p q)
    (g1 : SqIt t1 i1 l1 xs k s.heap) (g2 : SqIt t2 i2 l2 ys k s.heap) (hx : xs[k]? = some x) (hy : ys[k]? = some y)
    (hQ : ∀ h', IsZip h' z a b (rawInt s.heap.objs.size) → IsPair h' b x y → SqIt t1 i1 l1 xs (k + 1) h' → SqIt t2 i2 l2 ys (k + 1) h' → IsPair h' s.heap.objs.size x y →
      (∀ c o, c ≠ z → c ≠ b → c ≠ i1 → c ≠ i2 → s.heap.get? c = some o → h'.get? c = some o) → Q (some (.ref s.heap.objs.size)) { s with heap := h' }) : wpAny (model prog w) A (pyNext (.ref z)) Q E s := by
  have tz : s.TypeIs (.ref z) "zip" := ⟨_, hz, rfl⟩
  unfold pyNext
  exact wpAny_bind (wpAny_attempt (wpAny_callSpecial?_slot (name := Str.ofString "__next__") tz F.slot_zip_next (wpAny_call_entry F.slot_zip_next tz F.entry_zip_next
      (zn_item D hz ha hb g1 g2 hx hy fun h' a1 a2 a3 a4 a5 a6 => wpAny_pure (hQ h' a1 a2 a3 a4 a5 a6)) (F.args_zip_next_1 _))))
theorem pn_zipE {t1 t2 : Bool} {z a b i1 i2 l1 l2 : Addr} {k : Nat} {xs ys : Array Value} {p q : Value} {Q : Option Value → Shared → Prop} (hh : A.handled = none) (D : ZA z a b i1 i2 l1 l2) (hz : IsZip s.heap z a b .none) (ha : IsPair s.heap a (.ref i1) (.ref i2)) (hb : IsPair s.heap b p q)
    (g1 : SqIt t1 i1 l1 xs k s.heap) (g2 : SqIt t2 i2 l2 ys k s.heap) (hend : xs[k]? = none ∨ ys[k]? = none)
    (hQ : ∀ h', (∀ c o, c ≠ z → c ≠ b → c ≠ i1 → c ≠ i2 → s.heap.get? c = some o → h'.get? c = some o) → Q none { s with heap := h' }) : wpAny (model prog w) A (pyNext (.ref z)) Q E s := by
  have tz : s.TypeIs (.ref z) "zip" := ⟨_, hz, rfl⟩
  unfold pyNext
  refine wpAny_bind (wpAny_attempt (wpAny_callSpecial?_slot (name := Str.ofString "__next__") tz F.slot_zip_next (wpAny_call_entry F.slot_zip_next tz F.entry_zip_next
      (zn_end hh D hz ha hb g1 g2 hend fun h' e hk he => ?_) (F.args_zip_next_1 _))))
  obtain ⟨o, e1, e2⟩ := he
  exact wpAny_bind (wpAny_isInstance (T := "StopIteration") (b := true) ⟨o, e1, e2⟩ isSubtype_stop (wpAny_pure (hQ _ hk)))
end

end L2

namespace L2
open PySem PySem.Spec PyProof.Rows
def SqB (K : PySem.W.Frag) (tp : Bool) (H : Hp) (l : Addr) (xs : List V) : Prop := if tp = true then SqT K H l xs else SqL K H l xs
def Itz (K : PySem.W.Frag) (t1 t2 : Bool) (l1 l2 : Addr) (xs ys : List V) : It :=
  ⟨fun i H => SqB K t1 H l1 xs ∧ SqB K t2 H l2 ys ∧ i < xs.length ∧ i < ys.length, fun i H x H' => ∃ T a b, H T = none ∧ x = .ref T ∧ H' = upd H T (.tup [a, b]) ∧ xs[i]? = some a ∧ ys[i]? = some b,
   fun i H => SqB K t1 H l1 xs ∧ SqB K t2 H l2 ys ∧ (xs.length ≤ i ∨ ys.length ≤ i)⟩
theorem Inw.sqB {X : Cx} {pins : List (Addr × Obj)} {σ : St} {H : Hp} {s : Shared} {tp : Bool} {l : Addr} {xs : List V} (I : Inw X pins σ H s) (h : SqB X.K tp H l xs) : ∃ its : List Value, Vals xs its ∧ Sq tp l its.toArray s.heap := by
  cases tp with
  | true => obtain ⟨its, r, t, _⟩ := I.tuple h; exact ⟨its, r, t⟩
  | false => obtain ⟨its, r, t, _⟩ := I.list h; exact ⟨its, r, t.isList⟩
def ItAt (tp : Bool) (i l : Addr) (k : Nat) (h : Heap) : Prop := if tp = true then h.IsTupleIter i l k else h.IsListIter i l k
theorem itAt_of {tp : Bool} {i l : Addr} {xs : Array Value} {k : Nat} {h : Heap} (q : SqIt tp i l xs k h) : ItAt tp i l k h := by
  cases tp with
  | true => exact q.1
  | false => exact q.1
theorem sqIt_mk {tp : Bool} {i l : Addr} {xs : Array Value} {k : Nat} {h : Heap} (a : ItAt tp i l k h) (b : Sq tp l xs h) : SqIt tp i l xs k h := by
  cases tp with
  | true => exact ⟨a, b⟩
  | false => exact ⟨a, b⟩
theorem ItAt.keep {tp : Bool} {i l : Addr} {k : Nat} {h h' : Heap} (q : ItAt tp i l k h) (k1 : ∀ o, h.get? i = some o → h'.get? i = some o) : ItAt tp i l k h' := by
  cases tp with
  | true => exact Heap.IsTupleIter.at q k1
  | false => exact Heap.IsListIter.at q k1
theorem ItAt.obj {tp : Bool} {i l : Addr} {k : Nat} {h : Heap} (q : ItAt tp i l k h) : ∃ o, h.get? i = some o ∧ ∀ v, o.data ≠ .cell v := by
  cases tp with
  | true => obtain ⟨o, e, _, d⟩ := q; exact ⟨o, e, fun v z => by rw [d] at z; cases z⟩
  | false => obtain ⟨o, e, _, d⟩ := q; exact ⟨o, e, fun v z => by rw [d] at z; cases z⟩
theorem turn_zip {P : Program} {w : World} {K : PySem.W.Frag} {es : List Expr} {k : Nat} {tp : Pos} {t1 t2 : Bool} {z a b i1 i2 l1 l2 : Addr} (xs ys : List V) (D : ZA z a b i1 i2 l1 l2) :
    Turn P w K (.Tuple es k tp) (Itz K t1 t2 l1 l2 xs ys) [z, a, b, i1, i2] z (fun i h => IsZip h z a b .none ∧ IsPair h a (.ref i1) (.ref i2) ∧ (∃ p q, IsPair h b p q) ∧ ItAt t1 i1 l1 i h ∧ ItAt t2 i2 l2 i h) where
  mem := by simp
  obj := fun i h q c hc => by
    obtain ⟨g1, g2, ⟨p, r, g3⟩, g4, g5⟩ := q
    have hc' : c = z ∨ c = a ∨ c = b ∨ c = i1 ∨ c = i2 := by simpa using hc
    rcases hc' with e | e | e | e | e
    · subst e; exact ⟨_, g1, fun v z => by have z' : Data.fields _ = Data.cell v := z; cases z'⟩
    · subst e; exact ⟨_, g2, fun v z => by have z' : Data.seq _ _ = Data.cell v := z; cases z'⟩
    · subst e; exact ⟨_, g3, fun v z => by have z' : Data.seq _ _ = Data.cell v := z; cases z'⟩
    · subst e; exact g4.obj
    · subst e; exact g5.obj
  keep := fun i h h' q kk => by
    obtain ⟨g1, g2, ⟨p, r, g3⟩, g4, g5⟩ := q
    exact ⟨kk z (by simp) _ g1, kk a (by simp) _ g2, ⟨p, r, kk b (by simp) _ g3⟩, g4.keep fun o e => kk i1 (by simp) o e, g5.keep fun o e => kk i2 (by simp) o e⟩
  item := by
    intro X hP hw hK hc i pins s σ H E I hf q hg
    subst hP hw hK
    obtain ⟨s1, s2, n1, n2⟩ := hg
    obtain ⟨is1, v1, m1⟩ := I.toInw.sqB s1
    obtain ⟨is2, v2, m2⟩ := I.toInw.sqB s2
    obtain ⟨g1, g2, ⟨p, r, g3⟩, g4, g5⟩ := q
    obtain ⟨u1, hu1, r1⟩ := v1.get (List.getElem?_eq_getElem n1)
    obtain ⟨u2, hu2, r2⟩ := v2.get (List.getElem?_eq_getElem n2)
    refine pn_zip D g1 g2 g3 (sqIt_mk g4 m1) (sqIt_mk g5 m2) (x := u1) (y := u2) (by simpa using hu1) (by simpa using hu2) fun h' a1 a2 a3 a4 a5 hk => ?_
    refine ⟨_, rfl, wpAny_letOwnedTupleGo_zip a1 fun h2 b1 b2 => ?_⟩
    have zl : z < s.heap.objs.size := Heap.lt_size g1
    have k2 : ∀ c o, c ≠ z → c ≠ b → c ≠ i1 → c ≠ i2 → s.heap.get? c = some o → h2.get? c = some o := fun c o e1 e2 e3 e4 q => b2.extBut c o e1 (hk c o e1 e2 e3 e4 q)
    have hT2 : h2.get? s.heap.objs.size = some { cls := .type "tuple", data := .seq #[u1, u2] } := b2.extBut _ _ (Nat.ne_of_gt zl) a5
    have fn : H s.heap.objs.size = none := I.hok.fresh (Nat.le_refl _)
    have nf : ∀ c, c ∈ [z, a, b, i1, i2] → H c = none := fun c hc => (hf c hc).1
    have I1 : Inw X pins σ (upd H s.heap.objs.size (.tup [xs[i], ys[i]])) { s with heap := h2 } := by
      refine I.step (g' := s.gens) (d' := s.drawn) (t' := s.toks) (ch := [z, b, i1, i2]) (fun c hc => ?_) (fun c o _ _ hcx q _ => k2 c o (fun e => hcx (by simp [e])) (fun e => hcx (by simp [e])) (fun e => hcx (by simp [e])) (fun e => hcx (by simp [e])) q)
        (fun c o _ _ hcx q _ => ⟨o.slots, k2 c o (fun e => hcx (by simp [e])) (fun e => hcx (by simp [e])) (fun e => hcx (by simp [e])) (fun e => hcx (by simp [e])) q⟩) (fun c o _ q n => ?_)
        (fun c o hcx q => ⟨o, k2 c o (fun e => hcx (by simp [e])) (fun e => hcx (by simp [e])) (fun e => hcx (by simp [e])) (fun e => hcx (by simp [e])) q⟩)
        (fun c ws q => by rw [upd_ne (ne_of_none q fn)]; exact q) (fun c o u q => by rw [upd_ne (ne_of_none q fn)]; exact q) (fun c ps q => ⟨#[], by rw [upd_ne (ne_of_none q fn), q]; simp⟩) (fun m' hm => ?_) (fun c v q => ?_) I.bare
      · have hc' : c ∈ [z, a, b, i1, i2] := by
          simp only [List.mem_cons, List.not_mem_nil, or_false] at hc ⊢
          rcases hc with e | e | e | e <;> simp [e]
        obtain ⟨f0, f1, f2, f3, f4, f5⟩ := hf c hc'
        exact ⟨f3, f1, f4, f5⟩
      · rw [upd_ne (Nat.ne_of_lt (Heap.lt_size q))]; exact n
      · obtain ⟨o', es', ep', ho', r'⟩ := hm
        exact ⟨o', es', ep', k2 _ _ (Ne.symm (hf z (by simp)).2.1) (Ne.symm (hf b (by simp)).2.1) (Ne.symm (hf i1 (by simp)).2.1) (Ne.symm (hf i2 (by simp)).2.1) ho', r'⟩
      · by_cases hb : c = s.heap.objs.size
        · subst hb
          rw [upd_same] at q
          cases q
          exact ⟨by show 2 ≤ sizeLine; decide, [u1, u2], .cons r1 (.cons r2 .nil), _, hT2, rfl, _, rfl⟩
        · rw [upd_ne hb] at q
          refine (I.hok c v q).stay (fun d w hcx r => ?_) (fun d r => by rw [upd_ne (ne_of_none r fn)]; exact r) fun d ws r => by rw [upd_ne (ne_of_none r fn)]; exact r
          have ne : ∀ e, e ∈ [z, a, b, i1, i2] → d ≠ e := fun e he y => by
            subst y
            rcases hcx with y | y
            · rw [← y, nf d he] at q; cases q
            · rw [nf d he] at y; cases y
          exact k2 d w (ne z (by simp)) (ne b (by simp)) (ne i1 (by simp)) (ne i2 (by simp)) r
    refine ⟨.ref s.heap.objs.size, _, I1, rfl, ⟨s.heap.objs.size, _, _, fn, rfl, rfl, List.getElem?_eq_getElem n1, List.getElem?_eq_getElem n2⟩, ⟨b1, ?_, ⟨_, _, b2.extBut _ _ D.bz a2⟩, ?_, ?_⟩, fun c hc => ?_⟩
    · exact k2 _ _ D.az D.ab D.ai D.aj g2
    · exact (itAt_of a3).keep fun o e => b2.extBut _ o D.iz e
    · exact (itAt_of a4).keep fun o e => b2.extBut _ o D.jz e
    · have hcl : c < s.heap.objs.size := by
        have hc' : c = z ∨ c = a ∨ c = b ∨ c = i1 ∨ c = i2 := by simpa using hc
        rcases hc' with e | e | e | e | e
        · subst e; exact zl
        · subst e; exact Heap.lt_size g2
        · subst e; exact Heap.lt_size g3
        · subst e; obtain ⟨o, e, _⟩ := g4.obj; exact Heap.lt_size e
        · subst e; obtain ⟨o, e, _⟩ := g5.obj; exact Heap.lt_size e
      rw [upd_ne (Nat.ne_of_lt hcl)]
      exact nf c hc
  done := by
    intro X hP hw hK hc i pins s σ H E I hf q hg
    subst hP hw hK
    obtain ⟨s1, s2, hend⟩ := hg
    obtain ⟨is1, v1, m1⟩ := I.toInw.sqB s1
    obtain ⟨is2, v2, m2⟩ := I.toInw.sqB s2
    obtain ⟨g1, g2, ⟨p, r, g3⟩, g4, g5⟩ := q
    have e1 := v1.length
    have e2 := v2.length
    have nf : ∀ c, c ∈ [z, a, b, i1, i2] → H c = none := fun c hc => (hf c hc).1
    refine pn_zipE (I.ok.hd hc) D g1 g2 g3 (sqIt_mk g4 m1) (sqIt_mk g5 m2) (by
      rcases hend with y | y
      · exact .inl (by simp; omega)
      · exact .inr (by simp; omega)) fun h' hk => ⟨rfl, ?_⟩
    refine I.step (g' := s.gens) (d' := s.drawn) (t' := s.toks) (ch := [z, b, i1, i2]) (fun c hc => ?_) (fun c o _ _ hcx q _ => hk c o (fun e => hcx (by simp [e])) (fun e => hcx (by simp [e])) (fun e => hcx (by simp [e])) (fun e => hcx (by simp [e])) q)
        (fun c o _ _ hcx q _ => ⟨o.slots, hk c o (fun e => hcx (by simp [e])) (fun e => hcx (by simp [e])) (fun e => hcx (by simp [e])) (fun e => hcx (by simp [e])) q⟩) (fun c o _ q n => n)
        (fun c o hcx q => ⟨o, hk c o (fun e => hcx (by simp [e])) (fun e => hcx (by simp [e])) (fun e => hcx (by simp [e])) (fun e => hcx (by simp [e])) q⟩)
        (fun c ws q => q) (fun c o u q => q) (fun c ps q => ⟨#[], by rw [q]; simp⟩) (fun m' hm => ?_) (fun c v q => ?_) I.bare
    · have hc' : c ∈ [z, a, b, i1, i2] := by
        simp only [List.mem_cons, List.not_mem_nil, or_false] at hc ⊢
        rcases hc with e | e | e | e <;> simp [e]
      obtain ⟨f0, f1, f2, f3, f4, f5⟩ := hf c hc'
      exact ⟨f3, f1, f4, f5⟩
    · obtain ⟨o', es', ep', ho', r'⟩ := hm
      exact ⟨o', es', ep', hk _ _ (Ne.symm (hf z (by simp)).2.1) (Ne.symm (hf b (by simp)).2.1) (Ne.symm (hf i1 (by simp)).2.1) (Ne.symm (hf i2 (by simp)).2.1) ho', r'⟩
    · refine (I.hok c v q).stay (fun d w hcx r => ?_) (fun d r => r) fun d ws r => r
      have ne : ∀ e, e ∈ [z, a, b, i1, i2] → d ≠ e := fun e he y => by
        subst y
        rcases hcx with y | y
        · rw [← y, nf d he] at q; cases q
        · rw [nf d he] at y; cases y
      exact hk d w (ne z (by simp)) (ne b (by simp)) (ne i1 (by simp)) (ne i2 (by simp)) r
  self := fun _ _ _ _ _ st h => wpAny_pyIter_zip st.1 h
section
variable {X : Cx} {es : List Expr} {k : Nat} {tp : Pos}
def iZip (K : PySem.W.Frag) (t1 t2 : Bool) (ta : TA) : TI := fun σ H R => ta σ H fun vs H1 => ∃ l1 l2 xs ys, vs = [.ref l1, .ref l2] ∧ SqB K t1 H1 l1 xs ∧ SqB K t2 H1 l2 ys ∧ R (Itz K t1 t2 l1 l2 xs ys) H1
theorem boot_zip : bootBuiltins "zip" = some (.type "zip") := by decide +kernel
theorem sq_lt {tp : Bool} {l : Addr} {xs : Array Value} {h : Heap} (a : Sq tp l xs h) : l < h.objs.size := by
  cases tp with
  | true => obtain ⟨o, e, _⟩ := a; exact Heap.lt_size e
  | false => obtain ⟨o, e, _⟩ := a; exact Heap.lt_size e
theorem pi_zip (K : PySem.W.Frag) (t1 t2 : Bool) {a b : Expr} {ta : TA} {p pos : Pos} (hg : Gl X "zip") (hm : X.mg "zip" = none) (ha : PA X [a, b] ta) (hK : X.K = K := by rfl) (hs : starEach [a, b] X.env = [(false, eval a X.env), (false, eval b X.env)] := by rfl)
    (hs2 : starEach [b] X.env = [(false, eval b X.env)] := by rfl) : PI X (.Tuple es k tp) (.Call (.Name "zip" p) [a, b] [] pos) (iZip K t1 t2 ta) := by
  subst hK
  intro pins s σ H R I h
  refine Call_ (ld_blt I hg hm boot_zip (PyProof.Rows.callWith_type1 (thn (ha pos pins s σ H _ I h) fun us s1 ⟨vs, H1, I1, r1, q1⟩ => ?_) (by rw [hs, hs2]) (by rw [hs2]; rfl)))
  obtain ⟨l1, l2, xs, ys, e, m1, m2, q⟩ := q1
  subst e
  obtain ⟨u1, u2, rfl, ru1, ru2⟩ := vals2 r1
  cases ru1
  cases ru2
  obtain ⟨is1, v1, n1⟩ := I1.toInw.sqB m1
  obtain ⟨is2, v2, n2⟩ := I1.toInw.sqB m2
  have z1 := sq_lt n1
  have z2 := sq_lt n2
  refine call_zip2 n1 n2 fun h' g1 g2 g3 g4 g5 kp => wpAny_pyIter_zip g1 ?_
  have I2 : Inw X pins σ H1 { s1 with heap := h' } := I1.kept (t' := s1.toks) kp
  have D : ZA (s1.heap.objs.size + 4) (s1.heap.objs.size + 2) (s1.heap.objs.size + 3) s1.heap.objs.size (s1.heap.objs.size + 1) l1 l2 := by
    constructor <;> first | ((show @Ne Nat _ _); omega) | exact Nat.ne_of_lt (Nat.lt_of_lt_of_le z1 (Nat.le_add_right _ _)) | exact Nat.ne_of_lt z1 | exact Nat.ne_of_lt (Nat.lt_of_lt_of_le z2 (Nat.le_add_right _ _)) | exact Nat.ne_of_lt z2
  refine ⟨s1.heap.objs.size + 4, [s1.heap.objs.size + 4, s1.heap.objs.size + 2, s1.heap.objs.size + 3, s1.heap.objs.size, s1.heap.objs.size + 1], _, _, H1, rfl, I2, turn_zip xs ys D, ⟨g1, g2, ⟨_, _, g3⟩, itAt_of g4, itAt_of g5⟩, fun c hc => ?_, q⟩
  have hc' : c = s1.heap.objs.size + 4 ∨ c = s1.heap.objs.size + 2 ∨ c = s1.heap.objs.size + 3 ∨ c = s1.heap.objs.size ∨ c = s1.heap.objs.size + 1 := by simpa using hc
  have hle : s1.heap.objs.size ≤ c := by
    rcases hc' with e | e | e | e | e
    · rw [e]; exact Nat.le_add_right _ _
    · rw [e]; exact Nat.le_add_right _ _
    · rw [e]; exact Nat.le_add_right _ _
    · rw [e]; exact Nat.le_refl _
    · rw [e]; exact Nat.le_add_right _ _
  exact I1.fpOk hle (I1.hok.fresh hle)
theorem forW_zip {K : PySem.W.Frag} {t1 t2 : Bool} {l1 l2 : Addr} {xs ys : List V} {g : TG} {tb : TS} {D : Ends} {σ : St} {H : Hp} (hlen : xs.length = ys.length) (Pv : Nat → St → Hp → Prop) (h0 : Pv 0 σ H)
    (hl : ∀ i σ H, i ≤ xs.length → Pv i σ H → SqB K t1 H l1 xs ∧ SqB K t2 H l2 ys)
    (hs : ∀ (i : Nat) a b T σ H, xs[i]? = some a → ys[i]? = some b → Pv i σ H → H T = none → g (.ref T) σ (upd H T (.tup [a, b])) fun σ2 H2 => tb { D with nx := Pv (i + 1), ct := Pv (i + 1), bk := D.nx } σ2 H2)
    (hd : ∀ σ H, Pv xs.length σ H → D.nx σ H) : ForW g tb D σ (Itz K t1 t2 l1 l2 xs ys) H := by
  refine ⟨fun i m σ H => m = xs.length - i ∧ i ≤ xs.length ∧ Pv i σ H, ⟨xs.length, by simp, Nat.zero_le _, h0⟩, ?_⟩
  rintro i m σ H ⟨rfl, hi, p⟩
  have q := hl i σ H hi p
  by_cases hlt : i < xs.length
  · refine .inr ⟨⟨q.1, q.2, hlt, by omega⟩, Pv (i + 1), fun σ' H' p' => ⟨xs.length - (i + 1), by omega, rfl, hlt, p'⟩, fun x H' y => ?_⟩
    obtain ⟨T, a, b, hT, e1, e2, e3, e4⟩ := y
    subst e1 e2
    exact hs i a b T σ H e3 e4 p hT
  · have e : i = xs.length := by omega
    subst e
    exact .inl ⟨⟨q.1, q.2, .inl (Nat.le_refl _)⟩, hd σ H p⟩
end

end L2

namespace L2
open PySem PySem.Spec PyProof.Rows
section
variable {prog : Program} {w : World} {A : Around} {E : Value → Shared → Prop} {s : Shared} {T : String} {r d : Addr} {n : Nat} {P : Nat → Value → Prop} {OK : Heap → Prop}
theorem collect_kdl {Q : List Value → Shared → Prop} (K : PySem.W.KdlSrc prog w T r d n P OK) (hh : A.handled = none) (hok : OK s.heap) (hn : n ≤ sizeLine)
    (q : ∀ h' tk acc, s.heap.objs.size < h'.objs.size → (∀ b o, s.heap.get? b = some o → h'.get? b = some o) → ItemsOf P acc n → Q acc.toList { s with heap := h', toks := tk }) : wpAny (model prog w) A (collect (.ref r)) Q E s := by
  obtain ⟨t1, t2⟩ := K.there s.heap hok
  unfold collect
  refine wpAny_bind (wpAny_runValue (codeAny_builtin PySem.F.entry_proto_collect ?_))
  rw [Around.under_plainId PySem.F.plain_proto_collect _]
  refine wpAny_bind (m := newList []) (wpAny_newObj_type (wpAny_pure ⟨plainId_quiet PySem.F.plain_list_iadd _, codeAny_builtin PySem.F.entry_list_iadd ?_⟩))
  rw [Around.under_plainId PySem.F.plain_list_iadd _]
  have g0 : (s.heap.push { cls := .type "list", data := .seq ([] : List Value).toArray }).get? s.heap.objs.size = some { cls := .type "list", data := .seq #[] } := Heap.get?_push_size _ rfl
  show wpAny _ A.in1 (Builtin.List.listExtendWith (.ref s.heap.objs.size) (.ref r) (.ref s.heap.objs.size)) _ _ _
  refine wpAny_mono (PySem.W.kdl_extend (s := { s with heap := s.heap.push { cls := .type "list", data := .seq ([] : List Value).toArray } }) (R := fun p s' => ∃ (h' : Heap) (tk : Nat) (acc : Array Value) (c : Nat), p = .ok (.ret (.ref s.heap.objs.size)) ∧ s' = { s with heap := h', toks := tk } ∧
      (∀ b o, s.heap.get? b = some o → h'.get? b = some o) ∧ h'.get? s.heap.objs.size = some { cls := .type "list", dict := none, data := .seq acc c, slots := #[] } ∧ ItemsOf P acc n) K (by first | exact hh | simpa using hh) (K.keep _ _ hok fun b _ o e => Heap.get?_push_of_some _ e) s.heap.objs.size (Nat.ne_of_gt t1) (Nat.ne_of_gt t2) (.ref s.heap.objs.size) 0 g0
      (fun h' tk acc c hk hS hacc => ⟨h', tk, acc, c, rfl, rfl, fun b o e => hk b o (Nat.ne_of_lt (Heap.lt_size e)) (Heap.get?_push_of_some _ e), hS, hacc⟩) hn) (fun fin s' x => ?_) fun e s' x => ?_
  · have fin1 : ∀ (p : Result) (s2 : Shared), (∃ (h' : Heap) (tk : Nat) (acc : Array Value) (c : Nat), p = .ok (.ret (.ref s.heap.objs.size)) ∧ s2 = { s with heap := h', toks := tk } ∧ (∀ b o, s.heap.get? b = some o → h'.get? b = some o) ∧ h'.get? s.heap.objs.size = some { cls := .type "list", dict := none, data := .seq acc c, slots := #[] } ∧ ItemsOf P acc n) →
        wpAny (model prog w) A (load s.heap.objs.size >>= fun o => match o.data with | .seq xs _ => pure xs.toList | _ => unsupported "internal:collect") Q E s2 := by
      rintro p s2 ⟨h', tk, acc, c, _, rfl, hk, hS, hacc⟩
      exact wpAny_bind (wpAny_load hS (wpAny_pure (q h' tk acc (Heap.lt_size hS) hk hacc)))
    cases fin with
    | done f =>
      have x0 := x
      obtain ⟨h', tk, acc, c, e, _⟩ := x
      cases e
      exact fin1 _ _ x0
    | again c1 =>
      refine ⟨x.1, codeAny_mono x.2 fun p s2 y => ?_⟩
      have y0 := y
      obtain ⟨h', tk, acc, c, rfl, _⟩ := y
      exact fin1 _ _ y0
  · obtain ⟨_, _, _, _, e', _⟩ := x
    cases e'
theorem sorted_kdl {Q : Value → Shared → Prop} {zs : List Str} (K : PySem.W.KdlSrc prog w T r d zs.length P OK) (hh : A.handled = none) (hok : OK s.heap) (hb : zs.length < 64) (hP : ∀ i v, P i v → ∃ z t, zs[i]? = some z ∧ v = .str z t)
    (q : ∀ (h' : Heap) (tk : Nat) (a : Addr) (out : List Value) (ys : List Str) (e : Nat), s.heap.objs.size ≤ a → (∀ b o, s.heap.get? b = some o → h'.get? b = some o) → h'.get? a = some { cls := .type "list", data := .seq out.toArray e } → Vals (ys.map V.str) out → ys.Perm zs → sortedS ys = true →
      Q (.ref a) { s with heap := h', toks := tk }) : wpAny (model prog w) A (call (.builtin "sorted") [.ref r]) Q E s := by
  refine Calls.call_function_entry kind_sorted plain_sorted entry_sorted (args_sorted1 _) ?_
  unfold Builtin.«sorted»
  refine wpAny_bind (m := checkCount "sorted" 1 1 _) (wpAny_pure ?_)
  refine wpAny_bind (collect_kdl K hh hok (by rw [sizeLine_eq]; omega) fun h1 tk acc hlt old hi => ?_)
  obtain ⟨hn, hi⟩ := hi
  have hS : StrsAre acc.toList zs := by
    have all : ∀ v ∈ acc.toList, ∃ z t, v = .str z t := fun v hv => by
      obtain ⟨j, hj, rfl⟩ := List.mem_iff_getElem.mp hv
      obtain ⟨z, t, _, e⟩ := hP j acc.toList[j] (hi j acc.toList[j] (by rw [← Array.getElem?_toList]; exact List.getElem?_eq_getElem hj))
      exact ⟨z, t, e⟩
    have e : acc.toList.map strOf = zs := by
      apply List.ext_getElem?
      intro j
      rw [List.getElem?_map]
      cases hj : acc.toList[j]? with
      | none =>
        have := List.getElem?_eq_none_iff.mp hj
        rw [Array.length_toList, hn] at this
        exact (List.getElem?_eq_none this).symm
      | some v =>
        obtain ⟨z, t, e1, e2⟩ := hP j v (hi j v (by rw [← Array.getElem?_toList]; exact hj))
        rw [e1, e2]; rfl
    rw [← e]
    exact strsAre_map _ all
  have hlen : acc.toList.length = zs.length := by rw [Array.length_toList, hn]
  have szl := sizeLine_eq
  refine wpAny_bind (wpAny_newList ?_ (by omega))
  have o1 : (h1.push (seqObj "list" acc.toList.toArray 0)).get? h1.objs.size = some (seqObj "list" acc.toList.toArray 0) := Heap.get?_push_size _ rfl
  refine wpAny_bind (wpAny_holding (wpAny_call_entry slot_list_sort ⟨_, o1, rfl⟩ entry_list_sort (list_sort_treeK strKind_oneLt o1 hS.keysOf (fun v1 v2 rest e => keyKind_strs (by rw [← e]; exact hS)) (by omega) fun st a1 a2 => ⟨_, rfl, ?_⟩) (args_list_sort _)))
  obtain ⟨ys, b1, b2, b3⟩ := sorted_out_str hS a1 a2
  obtain ⟨e, he2⟩ := sortedHeap_at (vs := acc.toList) (out := (arrOf st).map (·.2)) o1
  have hz : s.heap.objs.size ≤ h1.objs.size := Nat.le_of_lt hlt
  refine wpAny_pure ⟨_, rfl, q _ tk h1.objs.size ((arrOf st).map (·.2)).toList ys e hz (fun b o hb => ?_) he2 (strsAre_to b1) b2 b3⟩
  have lb : b < h1.objs.size := Heap.lt_size (old b o hb)
  rw [sortedHeap_old (Nat.ne_of_lt lb) (by rw [size_push']; exact Nat.lt_succ_of_lt lb), Heap.get?_push_ne _ _ _ (Nat.ne_of_lt lb)]
  exact old b o hb
end
section
variable {X : Cx}
theorem kv_keys {kvs : List (Key × V)} {vs : List (Key × Value)} (r : KV kvs vs) : vs.map (·.1) = kvs.map (·.1) := by
  apply List.ext_getElem?
  intro i
  rw [List.getElem?_map, List.getElem?_map]
  cases hi : vs[i]? with
  | none =>
    have := List.getElem?_eq_none_iff.mp hi
    rw [← kv_len r] at this
    rw [List.getElem?_eq_none this]; rfl
  | some p =>
    obtain ⟨y, hy⟩ := kv_get r (i := i) (k := p.1) (v := p.2) hi
    rw [hy]; rfl
theorem call_sortedD (hc : X.calm = true := by rfl) : CallR X (.builtin "sorted") (fun xs H Q => ∃ (p : Addr) (kvs : List (Key × V)) (zs : List Str), xs = [.ref p] ∧ H p = some (.dK kvs) ∧ kvs.map (·.1) = zs.map Sum.inr ∧ zs.length < 64 ∧
    ∀ (r : Addr) (ys : List Str), H r = none → ys.Perm zs → sortedS ys = true → Q (.ref r) (upd H r (.lst (ys.map V.str)))) := by
  intro pins s σ H xs us Q I r h
  obtain ⟨p, kvs, zs, rfl, hp, hk, hl, q⟩ := h
  obtain ⟨u, rfl, ru⟩ := vals1 r
  cases ru
  obtain ⟨z, hd, vs, rel, dd⟩ := dk_of I.hok hp
  obtain ⟨ep, da⟩ := dd.dictAt
  have hn : vs.length = zs.length := by
    have := congrArg List.length ((kv_keys rel).trans hk)
    simpa using this
  have S := PySem.W.kdl_dict (prog := X.prog) (w := X.w) (knd := mixKind X.prog X.w) (kvs := vs) (ep := ep) hd
  rw [hn] at S
  refine sorted_kdl S (I.ok.hd hc) da hl (fun i v ⟨k, x, e1, e2⟩ => ?_) fun h' tk a out ys e ha old g1 rv hy hm => ?_
  · have e3 : (vs.map (·.1))[i]? = some k := by rw [List.getElem?_map, e1]; rfl
    rw [kv_keys rel, hk, List.getElem?_map] at e3
    cases hz : zs[i]? with
    | none => rw [hz] at e3; cases e3
    | some z1 =>
      rw [hz] at e3
      have : Sum.inr z1 = k := Option.some.inj e3
      subst this
      obtain ⟨t, rfl⟩ := key_is e2
      exact ⟨z1, t, rfl, rfl⟩
  · refine ⟨.ref a, _, I.laid (o := .lst (ys.map V.str)) (t' := tk) old ha ?_, rfl, q a ys (I.hok.fresh ha) hy hm⟩
    refine ⟨?_, out, e, rv, g1⟩
    rw [List.length_map, hy.length_eq]
    exact small (by omega)
end

end L2

namespace L2
open PySem PySem.Spec PyProof.Rows
theorem kd_list {P : Program} {w : World} {K : PySem.W.Frag} {d : Addr} {l : List (Str × Tok × Value × V)} {ep : Nat} (sm : (d == sysModules) = false)
    (lk : K.lookup d = some { cls := .type "dict", data := .dict (l.map fun e => (⟨PyData.keyHash w.params e.1, .str e.1 e.2.1, e.2.2.1⟩ : DictEntry)).toArray ep }) (hr : ∀ e ∈ l, RelV e.2.2.2 e.2.2.1) (nd : (l.map (·.1)).Nodup) :
    KD P w K d (l.map fun e => (Sum.inr e.1, e.2.2.2)) := by
  refine ⟨⟨_, _, _, l.map fun e => (Sum.inr e.1, e.2.2.1), lk, ⟨rfl, rfl, rfl⟩, rfl, ?_, ?_, ?_, ?_⟩, sm⟩
  · intro e he
    have he' : e ∈ l.map fun e => (⟨PyData.keyHash w.params e.1, .str e.1 e.2.1, e.2.2.1⟩ : DictEntry) := by simpa using he
    obtain ⟨q, _, rfl⟩ := List.mem_map.mp he'
    exact ⟨.inr q.1, kV_is (k := .inr q.1) ⟨_, rfl⟩, rfl⟩
  · have : ∀ l : List (Str × Tok × Value × V), PySem.Pairs (mixKind P w) (l.map fun e => (⟨PyData.keyHash w.params e.1, .str e.1 e.2.1, e.2.2.1⟩ : DictEntry)) (l.map fun e => (Sum.inr e.1, e.2.2.1)) := by
      intro l
      induction l with
      | nil => exact .nil
      | cons e l ih => exact .cons (kV_is (k := .inr e.1) ⟨_, rfl⟩) rfl ih
    simpa using this l
  · rw [List.map_map]
    have : ((fun x => x.1) ∘ fun e : Str × Tok × Value × V => ((Sum.inr e.1 : Key), e.2.2.1)) = fun e => (Sum.inr e.1 : Key) := rfl
    rw [this]
    have e2 : l.map (fun e => (Sum.inr e.1 : Key)) = (l.map (·.1)).map (fun z => (Sum.inr z : Key)) := by rw [List.map_map]; rfl
    rw [e2]
    exact List.Pairwise.map _ (fun a b hab z => hab (Sum.inr.inj z)) nd
  · clear lk nd
    induction l with
    | nil => exact .nil
    | cons e l ih => exact .cons ⟨rfl, hr e List.mem_cons_self⟩ (ih fun e he => hr e (List.mem_cons_of_mem _ he))
section
variable {X : Cx}
theorem slT (K : PySem.W.Frag) (h : X.K = K := by rfl) : SlR X (rSlT K) := by subst h; exact sl_tup
theorem tupK (K : PySem.W.Frag) (h : X.K = K := by rfl) : CallR X (.type "tuple") (fun xs H Q => ∃ p ys, xs = [.ref p] ∧ SqL K H p ys ∧ ∀ l, H l = none → Q (.ref l) (upd H l (.tup ys))) := by
  subst h
  intro pins s σ H xs us Q I r q
  obtain ⟨p, ys, e, hq, q⟩ := q
  exact call_tuple_of pins s σ H xs us Q I r ⟨p, ys, e, .inl ⟨hq, q⟩⟩
end

end L2

namespace L2
open PySem PySem.Spec PyProof.Rows
section
variable {X : Cx}
theorem pi_tupK (K : PySem.W.Frag) {tg l : Expr} {tl : TE} (hl : PE X l tl) (h : X.K = K := by rfl) : PI X tg l (iTup K tl) := by subst h; exact pi_tup hl
end
section
variable {g : TG} {ti : TT} {te : TE} {Q : VK} {σ : St} {H : Hp} {pick : List (Option Nat)} {tb : TS} {D : Ends} {K : PySem.W.Frag} {a : Addr}
theorem forW_tup (xs : List V) (Pv : Nat → St → Hp → Prop) (h0 : Pv 0 σ H) (hl : ∀ i σ H, i ≤ xs.length → Pv i σ H → SqT K H a xs)
    (hs : ∀ i x σ H, xs[i]? = some x → Pv i σ H → g x σ H fun σ2 H2 => tb { D with nx := Pv (i + 1), ct := Pv (i + 1), bk := D.nx } σ2 H2) (hd : ∀ σ H, Pv xs.length σ H → D.nx σ H) : ForW g tb D σ (Itt K a) H := for_tup Pv h0 hl hs hd
end
theorem ps_setPick {X : Cx} (K : PySem.W.Frag) (i jx : Nat) {x y : Str} {es : List Expr} {zs : List Str} {m : Int} {jk : Nat} {pos pos' pl pi py pk pm : Pos} (hN : X.N.Nodup) (hi : X.N[i]? = some x) (hx : Loc X.env.scope x) (hz : strsC es = some zs) (hk : PE X (.Name y py) (tVar jx))
    (hf : X.fn x = true ∨ X.env.scope.names.lookup x = some .local) (hK : X.K = K) : PS X (.Assign [.Name x pos'] (.Subscript (.List es pl) (.BinOp (.Name y py) .Mod (.Constant (.int m) jk pk) pm) pi) pos) (tAsg (tOp (rIxL K) (tLst (fun _ H Q => Q (zs.map V.str) H)) (tOp (rI (fun _ j => 0 < j) fun i j => .int (i % j)) (tVar jx) (tC (.int m)))) (gName i)) :=
  ps_set hN hi hx (pe_ix (ixL K hK) (@pe_lst _ _ _ _ (@pa_strs _ _ _ hz)) (pe_op op_mod hk pe_int) (fun _ _ => rfl)) rfl hf

end L2

namespace L2
open PySem PySem.Spec PyProof.Rows
section
variable {prog : Program} {w : World} {A : Around} {E : Value → Shared → Prop} {s : Shared}
theorem entry_unchain : entryFor table "proto.unchain" = some Builtin.«proto.unchain» := entryFor_of_fast (by kernel_rfl)
theorem raiseNew_h {α : Type} {e e0 : Addr} {o0 oe : Obj} {v0 vs : Array Value} {Q : α → Shared → Prop} (hh : A.handled = some (.ref e0)) (ne : e ≠ e0) (h0 : s.heap.get? e0 = some o0) (d0 : o0.data = .fields v0) (c0 : v0[2]? = some .none) (he : s.heap.get? e = some oe) (de : oe.data = .fields vs) (n2 : 2 < vs.size)
    (h : E (.ref e) { s with heap := s.heap.update e (Obj.mapFields (·.setIfInBounds 2 (.ref e0))) }) : wpAny (model prog w) A (raiseNew (.ref e) : Sem α) Q E s := by
  unfold raiseNew
  refine wpAny_bind (wpAny_handled ?_)
  rw [hh]
  have nb : ((Value.ref e0) != (Value.ref e)) = true := by simpa using fun z => ne z.symm
  dsimp only
  rw [if_pos nb]
  refine wpAny_bind (wpAny_holding (runValue_entry entry_unchain ?_))
  unfold Builtin.«proto.unchain»
  dsimp only
  refine wpAny_bind (wpAny_field h0 d0 c0 ?_)
  rw [if_pos (by decide)]
  refine wpAny_pure ⟨_, rfl, ?_⟩
  show wpAny _ _ (do setField (.ref e) 2 (.ref e0); throw (.ref e)) _ _ _
  exact wpAny_bind (wpAny_setField he de n2 (wpAny_throw h))
theorem raise_xh {env : Env} {x c : Sem Value} {Q : Flow → Shared → Prop} {nm qn : Str} {C N e0 : Addr} {bs bm : List Value} {hdct : Bool} {sn : List Str} {sub : List Value} {ab : Bool} {col : Option Bool} {dd : Option Addr} {k0 k1 k2 k3 k5 : Option Value} {newId : String}
    (hb : bm.contains (.type "BaseException") = true) (hh : A.handled = some (.ref e0)) (hc : ∀ s1 (R : Value → Shared → Prop), R .none s1 → wpAny (model prog w) A c R E s1)
    (h : wpAny (model prog w) A x (fun v s1 => ∃ (e : Addr) (oe o0 : Obj) (vs v0 : Array Value), v = .ref e ∧ s1.heap.get? C = some (excClassObj nm qn C N bs bm hdct sn sub ab col dd k0 k1 k2 k3 k5 newId) ∧ s1.heap.get? e = some oe ∧ oe.cls = .ref C ∧ oe.data = .fields vs ∧ vs[1]? = some .none ∧ 4 < vs.size ∧ e ≠ e0 ∧ e ≠ C ∧ s1.heap.get? e0 = some o0 ∧ o0.data = .fields v0 ∧ v0[2]? = some .none ∧
      ∀ h', h'.objs.size = s1.heap.objs.size → (∀ b, b ≠ e → h'.get? b = s1.heap.get? b) → (∃ o' vs', h'.get? e = some o' ∧ o'.cls = oe.cls ∧ o'.dict = oe.dict ∧ o'.data = .fields vs' ∧ vs'[1]? = some .none) → E (.ref e) { s1 with heap := h' }) E s) :
    wpAny (model prog w) A (raiseStmt env (some x) (some c)) Q E s := by
  have isB : (Value.ref C :: bm).contains (.type "BaseException") = true := by rw [List.contains_cons, hb, Bool.or_true]
  unfold raiseStmt
  refine wpAny_bind (wpAny_mono h (fun v s1 h1 => ?_) fun _ _ z => z)
  obtain ⟨e, oe, o0, vs, v0, rfl, hC, he, hcl, hv, h1, n4, ne0, neC, g0, d0, c0, hE⟩ := h1
  obtain ⟨hp, g, d, tk, os⟩ := s1
  obtain ⟨oc, od, oda, osl⟩ := oe
  dsimp only at hcl hv
  subst hcl hv
  refine wpAny_bind (wpAny_holding (hc _ _ (wpAny_bind (wpAny_pure ?_))))
  dsimp only
  repeat (first
    | with_reducible refine wpAny_loadPart_at he ?_
    | with_reducible refine wpAny_loadPart_at hC ?_
    | (with_reducible refine wpAny_isSubtype_exc hC ?_; rw [isB])
    | wp_step)
  rw [if_pos (by omega)]
  have oth : ∀ (hq : Heap) (i : Nat) (v : Value) (b : Addr), b ≠ e → (hq.update e (Obj.mapFields (·.setIfInBounds i v))).get? b = hq.get? b := fun hq i v b hb => Heap.get?_update_other _ _ (Ne.symm hb)
  have sel : ∀ (hq : Heap) (us : Array Value) (i : Nat) (v : Value), hq.get? e = some ⟨.ref C, od, .fields us, osl⟩ → (hq.update e (Obj.mapFields (·.setIfInBounds i v))).get? e = some ⟨.ref C, od, .fields (us.setIfInBounds i v), osl⟩ := fun hq us i v z => Heap.get?_update_self _ z (Obj.isFreed_of_fields (Obj.data_mapFields rfl _))
  have siz : ∀ (hq : Heap) (i : Nat) (v : Value), (hq.update e (Obj.mapFields (·.setIfInBounds i v))).objs.size = hq.objs.size := fun hq i v => Heap.size_after_update ..
  dsimp only at he hC g0 hE
  refine wpAny_update he ?_
  have he1 := sel hp vs 3 .none he
  have hC1 := (oth hp 3 .none C (Ne.symm neC)).trans hC
  have g1 := (oth hp 3 .none e0 (Ne.symm ne0)).trans g0
  have ot1 := oth hp 3 .none
  have sz1 := siz hp 3 .none
  have q1 : (vs.setIfInBounds 3 Value.none)[1]? = some .none := by rw [Array.getElem?_setIfInBounds_ne (by decide)]; exact h1
  have z1 : 4 < (vs.setIfInBounds 3 Value.none).size := by simpa using n4
  generalize hp.update e (Obj.mapFields (·.setIfInBounds 3 .none)) = hp1 at he1 hC1 g1 ot1 sz1 ⊢
  generalize vs.setIfInBounds 3 Value.none = vs1 at he1 q1 z1
  refine wpAny_bind (wpAny_setField he1 rfl z1 ?_)
  have he2 := sel hp1 vs1 4 (.bool true) he1
  have hC2 := (oth hp1 4 (.bool true) C (Ne.symm neC)).trans hC1
  have g2 := (oth hp1 4 (.bool true) e0 (Ne.symm ne0)).trans g1
  have ot2 := oth hp1 4 (.bool true)
  have sz2 := siz hp1 4 (.bool true)
  have q2 : (vs1.setIfInBounds 4 (Value.bool true))[1]? = some .none := by rw [Array.getElem?_setIfInBounds_ne (by decide)]; exact q1
  have z2 : 2 < (vs1.setIfInBounds 4 (Value.bool true)).size := by rw [Array.size_setIfInBounds]; omega
  dsimp only
  generalize hp1.update e (Obj.mapFields (·.setIfInBounds 4 (.bool true))) = hp2 at he2 hC2 g2 ot2 sz2 ⊢
  generalize vs1.setIfInBounds 4 (Value.bool true) = vs2 at he2 q2 z2
  repeat (first
    | with_reducible refine wpAny_loadPart_at he2 ?_
    | with_reducible refine wpAny_loadPart_at hC2 ?_
    | (with_reducible refine wpAny_isSubtype_exc hC2 ?_; rw [isB])
    | with_reducible refine wpAny_field he2 rfl q2 ?_
    | wp_step)
  refine raiseNew_h hh ne0 g2 d0 c0 he2 rfl z2 (hE _ ((siz hp2 2 (.ref e0)).trans (sz2.trans sz1)) (fun b hb => (oth hp2 2 (.ref e0) b hb).trans ((ot2 b hb).trans (ot1 b hb))) ⟨_, _, sel hp2 vs2 2 (.ref e0) he2, rfl, rfl, rfl, ?_⟩)
  rw [Array.getElem?_setIfInBounds_ne (by decide)]
  exact q2
end

end L2

namespace L2
open PySem PySem.Spec PyProof.Rows
theorem leave_f {M : Model} {A : Around} {E : Value → Shared → Prop} {s : Shared} {env : Env} {L e T : Addr} {C : Value} {dx : Option Addr} {Q : Unit → Shared → Prop} (hf : env.frame = some L) (x : XObj s.heap e C dx (.ref T)) (t : TbAt s.heap T (rawInt L)) (hTe : T ≠ e)
    (q : ∀ h', XObj h' e C dx (.ref T) → TbAt h' T .none → h'.objs.size = s.heap.objs.size → (∀ b, b ≠ T → h'.get? b = s.heap.get? b) → Q () { s with heap := h' }) : wpAny M A (leaving env (.ref e)) Q E s := by
  obtain ⟨oe, vs, he, hc, hd, hv, h1, hcn⟩ := id x
  obtain ⟨oT, ts, hT, hdT, h3⟩ := id t
  unfold leaving noteFrame
  simp only [hf]
  refine wpAny_bind (wpAny_bind (wpAny_field he hv h1 ?_))
  rw [if_pos (by simp)]
  refine wpAny_bind (wpAny_field hT hdT h3 ?_)
  rw [if_pos (by simp)]
  exact wpAny_pure (flight_x x t hTe q)
theorem fly_x {M : Model} {A : Around} {E : Value → Shared → Prop} {s : Shared} {L e T : Addr} {C fl : Value} {dx : Option Addr} {Q : Unit → Shared → Prop} (x : XObj s.heap e C dx (.ref T)) (t : TbAt s.heap T fl) (hTe : T ≠ e)
    (q : ∀ h', XObj h' e C dx (.ref T) → TbAt h' T (rawInt L) → h'.objs.size = s.heap.objs.size → (∀ b, b ≠ T → h'.get? b = s.heap.get? b) → Q () { s with heap := h' }) : wpAny M A (setFlight (.ref e) (some L)) Q E s := by
  obtain ⟨oe, vs, he, hc, hd, hv, h1, hcn⟩ := x
  obtain ⟨oT, ts, hT, hdT, h3⟩ := t
  have n3 : 3 < ts.size := (Array.getElem?_eq_some_iff.mp h3).1
  obtain ⟨oth, tt⟩ := upd_tb (v := rawInt L) hT hdT n3
  unfold setFlight
  refine wpAny_bind (wpAny_field he hv h1 ?_)
  rw [if_pos (by simp)]
  exact wpAny_setField hT hdT n3 (q _ ⟨oe, vs, (oth e (Ne.symm hTe)).trans he, hc, hd, hv, h1, hcn⟩ tt (Heap.size_after_update ..) oth)
def tTryR (K : PySem.W.Frag) (FE C : Addr) (E : XK) (tb : (St → Addr → Hp → Prop) → TS) : TS := fun D σ H => ∃ W : St → Addr → Hp → Prop, tb W D σ H ∧ ∀ σ' e Ce dx H', W σ' e H' → H' e = some (XO e Ce dx) → ∃ Ca, Ce = .ref Ca ∧ PySem.W.mroIn K Ca (.ref FE) = some true ∧ dx ≠ none ∧
  ∀ e2 H2, Same H' H2 → H' e2 = none → H2 e2 = some (XO e2 (.ref C) none) → E (.ref e2) none H2
section
variable {P : Program} {w : World} {K : PySem.W.Frag} {mg : Str → Option Value} {base : Heap} {N : List Str} {qual : Str} {scope : Scope} {f0 : Addr} {cd : Value} {A : Around} {outer : List Env} {s0 : Shared} {H0 : Hp} {E : XK}
theorem ps_tryRaise {body : List Stmt} {fe x : Str} {FE C FE2 : Addr} {tb : (St → Addr → Hp → Prop) → TS} {msg : Str} {j1 j2 : Nat} {np hpos pos p p1 p2 cpos rpos : Pos} (hg : Gl (cxOf (CXe P w) P w K mg base N qual scope f0 cd A outer s0 H0 E) fe) (hm : mg fe = some (.ref FE)) (xk : XCatch K FE)
    (xc : XCls0 K C FE2) (hk : PySem.W.keepIn K (.ref C) = true) (hgx : Gl (cxOf (CXe P w) P w K mg base N qual scope f0 cd A outer s0 H0 E) x) (hmx : mg x = some (.ref C)) (hb : ∀ pins W, PSs ((cxOf (CXe P w) P w K mg base N qual scope f0 cd A outer s0 H0 E).tr pins W) body (tb W))
    (hdb : (fe == ("__debug__" : Str)) = false := by decide) (hdx : (x == ("__debug__" : Str)) = false := by decide) :
    PS (cxOf (CXe P w) P w K mg base N qual scope f0 cd A outer s0 H0 E) (.Try body [.ExceptHandler (some (.Name fe np)) none [.Raise (some (.Call (.Name x p) [.Constant (.str msg) j1 p1] [] cpos)) (some (.Constant .none j2 p2)) rpos] hpos] [] [] pos) (tTryR K FE C E tb) := by
  intro pins s σ H D I h
  obtain ⟨W, hW, hx⟩ := h
  refine wpAny_Try_except (wpAny_tok I.pos (wpAny_mono (hb pins W [] s σ H D ⟨I.tr, I.pos⟩ hW) (fun f s1 z _ => ?_) fun ev s1 z zp => ?_))
  · cases f with
    | next =>
      obtain ⟨σ1, H1, I1, q⟩ := z
      exact wpAny_execs_nil ⟨σ1, H1, I1.untr, q⟩
    | brk =>
      obtain ⟨σ1, H1, I1, q⟩ := z
      exact ⟨σ1, H1, I1.untr, q⟩
    | cont =>
      obtain ⟨σ1, H1, I1, q⟩ := z
      exact ⟨σ1, H1, I1.untr, q⟩
    | ret u =>
      obtain ⟨v, σ1, H1, I1, rv, q⟩ := z
      exact ⟨v, σ1, H1, I1.untr, rv, q⟩
  · obtain ⟨e, Ce, dx, T, σ1, H1, rfl, J, he, te, fp, xo, tt, w1⟩ := z
    obtain ⟨f0', f1, f2, f3, f4, f5⟩ := fp
    obtain ⟨Ca, rfl, hmro, hdn, q⟩ := hx σ1 e Ce dx H1 w1 he
    have elt : e < s1.heap.objs.size := let ⟨_, _, z, _⟩ := xo; Heap.lt_size z
    have hst := J.stack
    refine note_x (base := base) J.ok.frames hst rfl xo (.inr ⟨T, rfl, tt⟩) (fun z => te (Value.ref.inj z)) fun h1 T1 hT1 xo1 tt1 k => ?_
    have un : Un (frs (cxOf (CXe P w) P w K mg base N qual scope f0 cd A outer s0 H0 E).stack) [T] H1 H1 s1.heap h1 := by
      refine ⟨fun b o z n hb hx => ?_, fun b o z n hb hx => ?_, fun _ _ _ n _ => n, fun b o z hx => ?_, fun _ _ z => z, fun _ _ _ z => z, fun b ps z => ⟨#[], by rw [z]; simp⟩⟩
      · exact k.there z (fun z => by rw [z, he] at n; cases n) (fun z => hx (by simp [Value.ref.inj z])) hb
      · obtain ⟨sl, z1, _⟩ := k b o z (fun z => by rw [z, he] at n; cases n) (fun z => hx (by simp [Value.ref.inj z]))
        exact ⟨sl, z1⟩
      · by_cases hbe : b = e
        · obtain ⟨oe, _, z1, _⟩ := xo1
          exact ⟨oe, by rw [hbe]; exact z1⟩
        · obtain ⟨sl, z1, _⟩ := k b o z hbe (fun z => hx (by simp [Value.ref.inj z]))
          exact ⟨_, z1⟩
    have J1 := J.call (g' := s1.gens) (t' := s1.toks) (d' := s1.drawn) (ch := [T]) un (KeptX.hok J k he (fun T0 z => by obtain rfl : T = T0 := Value.ref.inj z; exact f0') xo1.xp) J.bare fun b hb => by
      obtain rfl : b = T := by simpa using hb
      exact ⟨f3, f1, f4, f5⟩
    obtain ⟨g0, g1, g2, g3, g4, g5⟩ := J.fpOk (H' := H1) hT1 (J.hok.fresh hT1)
    have neT : T1 ≠ e := Nat.ne_of_gt (Nat.lt_of_lt_of_le elt hT1)
    refine flight_x (s := { s1 with heap := h1 }) xo1 tt1 neT fun h2 xo2 tt2 sz2 oth2 => ?_
    have J2 := Inw.turned (s := { s1 with heap := h1 }) (h' := h2) (t' := s1.toks) (it := T1) J1 (fun b o hb z => (oth2 b hb).trans z) g0 g1 g3 g4 g5
    refine wpAny_handleBy_cons (codeAny_handlers_test ?_) (by intro z; cases z)
    refine ld_glob (X := (cxOf (CXe P w) P w K mg base N qual scope f0 cd A outer s0 H0 E).hn (.ref e)) ⟨J2.hn, zp⟩ hg hm ?_ hdb
    obtain ⟨oe, vs, z1, z2, _⟩ := id xo2
    refine match_x J2.kIn xk hmro z1 z2 ?_
    refine codeAny_handlers_suite ?_
    refine flight_x (s := { s1 with heap := h2 }) xo2 tt2 neT fun h3 xo3 tt3 sz3 oth3 => ?_
    have J3 := Inw.turned (s := { s1 with heap := h2 }) (h' := h3) (t' := s1.toks) (it := T1) J2 (fun b o hb z => (oth3 b hb).trans z) g0 g1 g3 g4 g5
    obtain ⟨nm, qn, Nn, bs, sn, sub, ab, col, dd, k0, k1, k2, k3, k5, c1, d1, es, n, sl1, l, ln, sk, ni⟩ := xc.ob
    refine wpAny_execs_cons ?_
    rw [arm_exec_Raise]
    refine wpAny_bind (wpAny_standAt (raise_xh (e0 := e) (C := C) (nm := nm) (qn := qn) (N := Nn) (bs := bs) (bm := .ref FE2 :: bmV) (hdct := true) (sn := sn) (sub := sub) (ab := ab) (col := col) (dd := dd) (k0 := k0) (k1 := k1) (k2 := k2) (k3 := k3) (k5 := k5) (newId := "ValueError.__new__") rfl rfl (fun s4 R hR => ?_) ?_))
    · exact wpAny_bind (Constant_none (wpAny_bind (wpAny_standAt (wpAny_pure hR))))
    have Ih : Inv ((cxOf (CXe P w) P w K mg base N qual scope f0 cd A outer s0 H0 E).hn (.ref e)) pins σ1 H1 ⟨h3, s1.gens, s1.drawn, s1.toks, s1.os⟩ := ⟨J3.hn, zp⟩
    refine wpAny_bind (wpAny_mono (wpAny_Call_Name_kw (ld_glob (X := (cxOf (CXe P w) P w K mg base N qual scope f0 cd A outer s0 H0 E).hn (.ref e)) Ih hgx hmx ?_ hdx)) (fun v s' z => wpAny_bind (wpAny_standAt (wpAny_pure z))) fun _ _ z => z)
    refine PySem.W.callWith_K (h₀ := base) Ih.ok.mod.kin hk (Calls.spliced_cons (Calls.Constant_str (k := j1) (pos := p1) (Calls.spliced_nil ⟨Ih.kIn, ?_⟩))) rfl rfl
    have I5 : Inw ((cxOf (CXe P w) P w K mg base N qual scope f0 cd A outer s0 H0 E).hn (.ref e)) pins σ1 H1 ⟨h3, s1.gens, s1.drawn, s1.toks + 1, s1.os⟩ := J3.hn.kept (h' := h3) (t' := s1.toks + 1) fun _ _ z => z
    refine call_0 (I5.kIn _ _ l) (xc.tail I5.kIn) (ns_of I5.kIn ln sk) ni (by show 1 ≤ sizeLine; decide) (fun h' kp ⟨t', hxn⟩ => ?_)
    obtain ⟨o0, v0, a1, a2, a3, a4, a5, a6⟩ := xo3
    have e3lt : e < h3.objs.size := Heap.lt_size a1
    have Clt : C < h3.objs.size := Heap.lt_size (I5.kIn _ _ l)
    have fr : H1 (h3.objs.size + 1) = none := J3.hok.fresh (Nat.le_succ _)
    have x0 : XObj h' (h3.objs.size + 1) (.ref C) none .none := ⟨_, _, hxn, rfl, rfl, rfl, rfl, fun z => absurd rfl z⟩
    have J6 := J3.laid (a := h3.objs.size + 1) (o := XO (h3.objs.size + 1) (.ref C) none) (h' := h') (t' := s1.toks + 1) kp (Nat.le_succ _) (XP.obj x0.xp)
    refine ⟨_, _, o0, _, v0, rfl, kp _ _ (I5.kIn _ _ l), hxn, rfl, rfl, rfl, by show 4 < 6; decide, Nat.ne_of_gt (Nat.lt_succ_of_lt e3lt), Nat.ne_of_gt (Nat.lt_succ_of_lt Clt), kp _ _ a1, a4, a6 hdn, fun h7 sz7 oth7 ⟨o', vs', b1, b2, b3, b4, b5⟩ => ?_⟩
    have x7 : XObj h7 (h3.objs.size + 1) (.ref C) none .none := ⟨o', vs', b1, b2, b3, b4, b5, fun z => absurd rfl z⟩
    have J7 := J6.write (x := h3.objs.size + 1) (e := h3.objs.size + 1) (o := XO (h3.objs.size + 1) (.ref C) none) (h' := h7) (t' := s1.toks + 1) (by rw [upd_same]; trivial) (.inl rfl) (fun b u hb z => (oth7 b hb).trans z) ⟨_, b1⟩ (XP.obj x7.xp)
    have he7 : (upd (upd H1 (h3.objs.size + 1) (XO (h3.objs.size + 1) (.ref C) none)) (h3.objs.size + 1) (XO (h3.objs.size + 1) (.ref C) none)) (h3.objs.size + 1) = some (XO (h3.objs.size + 1) (.ref C) none) := upd_same
    have e7lt : h3.objs.size + 1 < h7.objs.size := Heap.lt_size b1
    refine note_x (base := base) (J7.hn (ev := .ref e)).ok.frames J7.stack rfl x7 (.inl rfl) (by simp) fun h8 T2 hT2 x8 t8 k8 => ?_
    have neT2 : T2 ≠ h3.objs.size + 1 := Nat.ne_of_gt (Nat.lt_of_lt_of_le e7lt hT2)
    obtain ⟨o8, v8, m1, m2, m3, m4, m5, m6⟩ := id x8
    show wpAny _ _ (do
      if (← field (.ref (h3.objs.size + 1)) 1) == .none then unsupported "frame.own-activation:exception-without-traceback"
      setFlight (.ref (h3.objs.size + 1)) (some s0.heap.objs.size)) _ _ _
    refine wpAny_bind (wpAny_field m1 m4 m5 ?_)
    rw [if_neg (by simp)]
    refine fly_x (s := ⟨h8, _, _, _, _⟩) x8 t8 neT2 fun h9 x9 t9 sz9 oth9 => ?_
    refine leave_f (s := ⟨h9, _, _, _, _⟩) rfl x9 t9 neT2 fun h10 x10 t10 sz10 oth10 => ?_
    have kf : KeptX (frs (cxOf (CXe P w) P w K mg base N qual scope f0 cd A outer s0 H0 E).stack) (h3.objs.size + 1) .none h7 h10 := fun b o hb hbe hbt => by
      obtain ⟨sl, k1, k2⟩ := k8 b o hb hbe hbt
      have nb : b ≠ T2 := Nat.ne_of_lt (Nat.lt_of_lt_of_le (Heap.lt_size hb) hT2)
      exact ⟨sl, (oth10 b nb).trans ((oth9 b nb).trans k1), k2⟩
    exact ⟨_, _, _, T2, _, rfl, J7.os, J7.bare, KeptX.un kf J7 he7 x10.xp (fun T0 z => by cases z), KeptX.hok J7 kf he7 (fun T0 z => by cases z) x10.xp, Nat.le_trans J3.sz (Nat.le_succ _), Nat.le_trans J7.sz hT2, neT2, he7, J7.hok.fresh hT2, x10, t10, q _ _ (fun b o z => by rw [upd_ne (ne_of_none z fr), upd_ne (ne_of_none z fr)]; exact z) fr he7⟩
end

end L2

namespace L2
open PySem PySem.Spec PyProof.Rows
section
variable {X : Cx}
theorem inN_key {K : PySem.W.Frag} {pins : List (Addr × Obj)} {σ : St} {H : Hp} {s : Shared} {A : Around} (hX : X.K = K) (I : Inv X pins σ H s) (hcl : A.units < cLine) : ∀ {xs : List V} {us : List Value}, Vals xs us → (∀ v ∈ xs, flatV v = true ∨ ∃ a ys, v = .ref a ∧ SqL K H a ys) → (∀ u ∈ us, SeqAt.EqAt A s u .none (eqU .non u)) ∧ us.any (eqU .non) = xs.any fun v => decide (v = .non)
  | _, _, .nil, _ => ⟨(fun u hu => by cases hu), rfl⟩
  | y :: xs, u :: us, .cons r t, h => by
    obtain ⟨h1, h2⟩ := inN_key hX I hcl t fun v hv => h v (List.mem_cons_of_mem _ hv)
    have h0 : SeqAt.EqAt A s u .none (eqU .non u) ∧ eqU .non u = decide (y = .non) := by
      rcases h y List.mem_cons_self with f | ⟨a, ys, rfl, hq⟩
      · rw [eqU_of r f]
        refine ⟨eqAt_V r rfl f rfl, ?_⟩
        cases y <;> first | rfl | exact absurd (show false = true from f) Bool.false_ne_true
      · subst hX
        cases r
        obtain ⟨its, _, pl, _⟩ := I.list hq
        exact ⟨SeqAt.EqAt.list_none pl.isList hcl, rfl⟩
    refine ⟨fun u' hu' => ?_, ?_⟩
    · rcases List.mem_cons.mp hu' with rfl | hu'
      · exact h0.1
      · exact h1 u' hu'
    · rw [List.any_cons, List.any_cons, h0.2, h2]
theorem op_inN (K : PySem.W.Frag) {k : Nat} (hr : Room k X.A) (hK : X.K = K := by rfl) : OpR X (compareOp .In) (fun x y H Q => x = .non ∧ ∃ p xs, y = .ref p ∧ SqT K H p xs ∧ (∀ v ∈ xs, flatV v = true ∨ ∃ a ys, v = .ref a ∧ SqL K H a ys) ∧ Q (.bl (xs.any fun v => decide (v = .non))) H) := by
  subst hK
  intro pins s σ H x y v u Q I rx ry h
  obtain ⟨rfl, p, xs, rfl, hq, hf, q⟩ := h
  cases rx; cases ry
  have hcl : X.A.units + 64 < cLine := hr.units
  obtain ⟨its, r, pl, hz⟩ := I.tuple hq
  obtain ⟨k1, k2⟩ := inN_key (A := X.A.in1) rfl I (by show X.A.units + 1 < cLine; omega) r hf
  refine SeqAt.in_tupleAt (eqU .non) pl (fun w hw => k1 w (by simpa using hw)) ⟨.bl _, H, I, rfl, ?_⟩
  rw [show its.toArray.any (eqU .non) = its.any (eqU .non) by simp, k2]
  exact q
end

end L2

namespace L2
open PySem PySem.Spec PyProof.Rows
theorem ps_catLit {X : Cx} (i : Nat) {x : Str} {es : List Expr} {zs : List Str} {pos pos' pl pb py : Pos} (hN : X.N.Nodup) (hi : X.N[i]? = some x) (hx : Loc X.env.scope x) (hz : strsC es = some zs) (hk : PE X (.Name x py) (tVar i))
    (hf : X.fn x = true ∨ X.env.scope.names.lookup x = some .local) : PS X (.Assign [.Name x pos'] (.BinOp (.Name x py) .Add (.List es pl) pb) pos) (tAsg (tOp rCat (tVar i) (tLst (fun _ H Q => Q (zs.map V.str) H))) (gName i)) :=
  ps_set hN hi hx (pe_op op_cat hk (@pe_lst _ _ _ _ (@pa_strs _ _ _ hz))) rfl hf

end L2

namespace KU
open PySem PySem.Builtin PySem.Builtin.Str PySem.StrLaws
def scanF (y : List Nat) : Nat → Nat → Nat → List Nat → List Nat
  | _, _, _, [] => []
  | lim, skip + 1, i, _ :: r => scanF y lim skip (i + 1) r
  | lim, 0, i, c :: r => if 0 < lim ∧ y <+: c :: r then i :: scanF y (lim - 1) (y.length - 1) (i + 1) r else scanF y lim 0 (i + 1) r
theorem subAt_pre (s y : Str) (i : Nat) (hy : y.cps.toList ≠ []) : (i + y.length ≤ s.length ∧ subAt s y i = true) ↔ y.cps.toList <+: s.cps.toList.drop i := by
  have e1 : s.length = s.cps.toList.length := by simp [Str.length]
  have e2 : y.length = y.cps.toList.length := by simp [Str.length]
  rw [subAt_eq, beq_iff_eq, e1, e2]
  constructor
  · intro h
    rw [List.prefix_iff_eq_take]
    exact h.2.symm
  · intro h
    refine ⟨?_, (List.prefix_iff_eq_take.mp h).symm⟩
    have hl := h.length_le
    rw [List.length_drop] at hl
    cases hc : y.cps.toList with
    | nil => exact absurd hc hy
    | cons a b => rw [hc] at hl; simp only [List.length_cons] at hl ⊢; omega
theorem occ_go (s y : Str) (hy : y.cps.toList ≠ []) (limit : Nat) : ∀ (n i : Nat) (st : Array Nat × Nat), i + n = s.length + 1 →
    (forIn (List.range' i n) st (occBody s y s.length limit)).run.fst.toList = st.fst.toList ++ scanF y.cps.toList (limit - st.fst.size) (st.snd - i) i (s.cps.toList.drop i) := by
  have e1 : s.cps.toList.length = s.length := by simp [Str.length]
  have e2 : y.cps.toList.length = y.length := by simp [Str.length]
  intro n
  induction n with
  | zero =>
    intro i st h
    have hd : s.cps.toList.drop i = [] := List.drop_eq_nil_of_le (by omega)
    rw [hd]
    simp [scanF]
  | succ n ih =>
    intro i st h
    rw [List.range'_succ, List.forIn_cons]
    have hdn : s.cps.toList.drop i = [] → s.cps.toList.drop (i + 1) = [] := fun z => by
      have := List.drop_eq_nil_iff.mp z
      exact List.drop_eq_nil_of_le (by omega)
    have hdc : ∀ c r, s.cps.toList.drop i = c :: r → s.cps.toList.drop (i + 1) = r := fun c r z => by
      have : (s.cps.toList.drop i).drop 1 = r := by rw [z]; rfl
      rwa [List.drop_drop] at this
    by_cases hc : (((st.fst.size < limit ∧ st.snd ≤ i) ∧ i + y.length ≤ s.length) ∧ subAt s y i = true)
    · have hb : occBody s y s.length limit i st = pure (ForInStep.yield (st.fst.push i, i + y.length)) := by unfold occBody; rw [if_pos hc]
      rw [hb]
      have ih' := ih (i + 1) (st.fst.push i, i + y.length) (by omega)
      refine Eq.trans ih' ?_
      have hp := (subAt_pre s y i hy).mp ⟨hc.1.2, hc.2⟩
      obtain ⟨⟨⟨h1, h2⟩, _⟩, _⟩ := hc
      cases hd : s.cps.toList.drop i with
      | nil => rw [hd] at hp; exact absurd (List.prefix_nil.mp hp) hy
      | cons c r =>
        rw [hdc c r hd, show st.snd - i = 0 by omega, scanF]
        rw [hd] at hp
        rw [if_pos ⟨by omega, hp⟩]
        simp only [Array.toList_push, Array.size_push, List.append_assoc, List.singleton_append]
        rw [show limit - (st.fst.size + 1) = limit - st.fst.size - 1 by omega, show i + y.length - (i + 1) = y.cps.toList.length - 1 by omega]
    · have hb : occBody s y s.length limit i st = pure (ForInStep.yield (st.fst, st.snd)) := by unfold occBody; rw [if_neg hc]
      rw [hb]
      refine Eq.trans (ih (i + 1) (st.fst, st.snd) (by omega)) ?_
      cases hd : s.cps.toList.drop i with
      | nil => rw [hdn hd]; simp [scanF]
      | cons c r =>
        rw [hdc c r hd]
        cases hk : st.snd - i with
        | succ k => rw [scanF, show st.snd - (i + 1) = k by omega]
        | zero =>
          rw [scanF, if_neg, show st.snd - (i + 1) = 0 by omega]
          rintro ⟨z1, z2⟩
          rw [← hd] at z2
          have := (subAt_pre s y i hy).mpr z2
          exact hc ⟨⟨⟨by omega, by omega⟩, this.1⟩, this.2⟩
theorem occ_scan (s y : Str) (hy : y.cps.toList ≠ []) {lo limit : Nat} (h : lo ≤ s.length) : occurrences s y lo s.length limit = scanF y.cps.toList limit 0 lo (s.cps.toList.drop lo) := by
  rw [occ_eq]
  refine Eq.trans (occ_go s y hy limit (s.length + 1 - lo) lo (#[], lo) (by omega)) ?_
  simp
def joinL (z : List Nat) : List (List Nat) → List Nat
  | [] => []
  | [p] => p
  | p :: q :: r => p ++ z ++ joinL z (q :: r)
theorem join_cps (z : Str) : ∀ ps : List Str, (Str.join z ps).cps.toList = joinL z.cps.toList (ps.map fun p => p.cps.toList)
  | [] => rfl
  | [p] => rfl
  | p :: q :: r => by
    show (p ++ z ++ Str.join z (q :: r)).cps.toList = p.cps.toList ++ z.cps.toList ++ joinL z.cps.toList ((q :: r).map fun p => p.cps.toList)
    simp only [Str.cps_append, Array.toList_append]
    rw [join_cps z (q :: r)]
def partsL (l : List Nat) (w : Nat) : Nat → List Nat → List (List Nat)
  | a, [] => [l.drop a]
  | a, c :: r => (l.drop a).take (c - a) :: partsL l w (c + w) r
theorem parts_cps (x : Str) (w : Nat) : ∀ (cuts : List Nat) (a : Nat), (partsFrom x w a cuts).map (fun p => p.cps.toList) = partsL x.cps.toList w a cuts
  | [], a => by
    have e1 : x.cps.toList.length = x.length := by simp [Str.length]
    simp only [partsFrom, partsL, List.map_cons, List.map_nil, strSub_toList]
    rw [List.take_of_length_le (by rw [List.length_drop]; omega)]
  | c :: r, a => by
    simp only [partsFrom, partsL, List.map_cons, strSub_toList]
    rw [parts_cps x w r (c + w)]
theorem partsL_cons (l : List Nat) (w : Nat) : ∀ (cuts : List Nat) (a : Nat), ∃ p r, partsL l w a cuts = p :: r
  | [], a => ⟨_, _, rfl⟩
  | _ :: _, _ => ⟨_, _, rfl⟩
def repF (y z : List Nat) : Nat → Nat → List Nat → List Nat
  | _, _, [] => []
  | lim, skip + 1, _ :: r => repF y z lim skip r
  | lim, 0, c :: r => if 0 < lim ∧ y <+: c :: r then z ++ repF y z (lim - 1) (y.length - 1) r else c :: repF y z lim 0 r
theorem drop_one {l r : List Nat} {i c : Nat} (h : l.drop i = c :: r) : l.drop (i + 1) = r := by
  have : (l.drop i).drop 1 = r := by rw [h]; rfl
  rwa [List.drop_drop] at this
theorem drop_at {l r : List Nat} {i c : Nat} (h : l.drop i = c :: r) : l[i]? = some c := by
  have : (l.drop i)[0]? = some c := by rw [h]; rfl
  rwa [List.getElem?_drop] at this
theorem take_more {l r : List Nat} {a i c : Nat} (h : l.drop i = c :: r) (ha : a ≤ i) : (l.drop a).take (i + 1 - a) = (l.drop a).take (i - a) ++ [c] := by
  have e : (l.drop a)[i - a]? = some c := by rw [List.getElem?_drop, show a + (i - a) = i by omega]; exact drop_at h
  rw [show i + 1 - a = (i - a) + 1 by omega, List.take_succ, e]
  rfl
theorem rep_parts (l y z : List Nat) (hy : y ≠ []) : ∀ (r : List Nat) (i lim skip a : Nat), l.drop i = r → 
    (a = i + skip → joinL z (partsL l y.length a (scanF y lim skip i r)) = repF y z lim skip r) ∧
    (skip = 0 → a ≤ i → joinL z (partsL l y.length a (scanF y lim skip i r)) = (l.drop a).take (i - a) ++ repF y z lim 0 r)
  | [], i, lim, skip, a, h => by
    have hi := List.drop_eq_nil_iff.mp h
    simp only [scanF, partsL, joinL, repF, List.append_nil]
    refine ⟨fun e => List.drop_eq_nil_of_le (by omega), fun _ ha => ?_⟩
    rw [List.take_of_length_le (by rw [List.length_drop]; omega)]
  | c :: r, i, lim, skip, a, h => by
    have hy0 : 0 < y.length := List.length_pos_iff.mpr hy
    have h' := drop_one h
    have two : skip = 0 → a ≤ i → joinL z (partsL l y.length a (scanF y lim skip i (c :: r))) = (l.drop a).take (i - a) ++ repF y z lim 0 (c :: r) := by
      intro e ha
      subst e
      rw [scanF, repF]
      by_cases hm : 0 < lim ∧ y <+: c :: r
      · rw [if_pos hm, if_pos hm, partsL]
        have ih := (rep_parts l y z hy r (i + 1) (lim - 1) (y.length - 1) (i + y.length) h').1 (by omega)
        obtain ⟨p, q, e⟩ := partsL_cons l y.length (scanF y (lim - 1) (y.length - 1) (i + 1) r) (i + y.length)
        rw [e] at ih ⊢
        rw [joinL, ih, List.append_assoc]
      · rw [if_neg hm, if_neg hm]
        rw [(rep_parts l y z hy r (i + 1) lim 0 a h').2 rfl (by omega), take_more h ha, List.append_assoc]
        rfl
    refine ⟨fun e => ?_, two⟩
    cases skip with
    | zero =>
      rw [two rfl (by omega), show i - a = 0 by omega]
      rfl
    | succ k =>
      rw [scanF, repF]
      exact (rep_parts l y z hy r (i + 1) lim k a h').1 (by omega)
theorem replace_rep (x y z : Str) (hy : y.cps.toList ≠ []) : (Txt.replace x y z).cps.toList = repF y.cps.toList z.cps.toList (x.length + 1) 0 x.cps.toList := by
  have e2 : y.cps.toList.length = y.length := by simp [Str.length]
  have hz : (y.length == 0) = false := by rw [beq_eq_false_iff_ne, ← e2]; exact fun h => hy (List.length_eq_zero_iff.mp h)
  have key := (rep_parts x.cps.toList y.cps.toList z.cps.toList hy x.cps.toList 0 (x.length + 1) 0 0 rfl).1 rfl
  have ho : occurrences x y 0 x.length (x.length + 1) = scanF y.cps.toList (x.length + 1) 0 0 x.cps.toList := occ_scan x y hy (Nat.zero_le _)
  unfold Txt.replace
  rw [hz, Bool.false_and, Bool.or_false]
  cases he : (occurrences x y 0 x.length (x.length + 1)).isEmpty
  · rw [if_neg Bool.false_ne_true, glued_eq_join, partsBetween_eq, join_cps, parts_cps, ho, ← e2]
    exact key
  · rw [if_pos rfl]
    rw [ho] at he
    rw [List.isEmpty_iff.mp he] at key
    exact key
def splitF (b : Nat) : Nat → List Nat → List (List Nat)
  | _, [] => [[]]
  | lim, c :: r => if 0 < lim ∧ c = b then [] :: splitF b (lim - 1) r else (c :: (splitF b lim r).headD []) :: (splitF b lim r).tail
theorem splitF_cons (b : Nat) : ∀ (l : List Nat) (lim : Nat), ∃ p r, splitF b lim l = p :: r
  | [], _ => ⟨_, _, rfl⟩
  | c :: r, lim => by
    unfold splitF
    split
    · exact ⟨_, _, rfl⟩
    · exact ⟨_, _, rfl⟩
theorem split_parts (l : List Nat) (b : Nat) : ∀ (r : List Nat) (i lim a : Nat), l.drop i = r → a ≤ i →
    partsL l 1 a (scanF [b] lim 0 i r) = ((l.drop a).take (i - a) ++ (splitF b lim r).headD []) :: (splitF b lim r).tail
  | [], i, lim, a, h, ha => by
    have hi := List.drop_eq_nil_iff.mp h
    simp only [scanF, partsL, splitF, List.headD_cons, List.tail_cons, List.append_nil]
    rw [List.take_of_length_le (by rw [List.length_drop]; omega)]
  | c :: r, i, lim, a, h, ha => by
    have h' := drop_one h
    rw [scanF, splitF]
    have hm : (0 < lim ∧ [b] <+: c :: r) ↔ (0 < lim ∧ c = b) := by
      rw [List.cons_prefix_cons]
      constructor
      · rintro ⟨h1, h2, _⟩; exact ⟨h1, h2.symm⟩
      · rintro ⟨h1, h2⟩; exact ⟨h1, h2.symm, List.nil_prefix⟩
    by_cases hc : 0 < lim ∧ c = b
    · rw [if_pos (hm.mpr hc), if_pos hc, partsL]
      have ih := split_parts l b r (i + 1) (lim - 1) (i + 1) h' (Nat.le_refl _)
      show _ :: partsL l 1 (i + 1) (scanF [b] (lim - 1) 0 (i + 1) r) = _
      rw [ih, Nat.sub_self, List.take_zero, List.nil_append]
      obtain ⟨p, q, e⟩ := splitF_cons b r (lim - 1)
      rw [e]
      simp
    · rw [if_neg (fun z => hc (hm.mp z)), if_neg hc]
      rw [split_parts l b r (i + 1) lim a h' (by omega), take_more h ha]
      simp
theorem kind_pos (x : Str) : 1 ≤ PySem.Builtin.Str.strKind x := by
  unfold PySem.Builtin.Str.strKind
  split
  · exact Nat.le_refl _
  · split <;> decide
theorem splitMax_split (x : Str) (b : Nat) (hb : b < 256) (k : Int) (hk : 0 ≤ k) : (Txt.splitMax x ⟨#[b]⟩ k).map (fun p => p.cps.toList) = splitF b k.toNat x.cps.toList := by
  have hy : (⟨#[b]⟩ : Str).cps.toList ≠ [] := by simp
  have ho : occurrences x ⟨#[b]⟩ 0 x.length (limitOf x k) = scanF [b] k.toNat 0 0 x.cps.toList := by
    have := occ_scan x ⟨#[b]⟩ hy (lo := 0) (limit := limitOf x k) (Nat.zero_le _)
    rw [this]
    unfold limitOf
    rw [if_neg (by omega)]
    rfl
  have key : partsL x.cps.toList 1 0 (scanF [b] k.toNat 0 0 x.cps.toList) = splitF b k.toNat x.cps.toList := by
    rw [split_parts x.cps.toList b x.cps.toList 0 k.toNat 0 rfl (Nat.le_refl _)]
    obtain ⟨p, q, e⟩ := splitF_cons b x.cps.toList k.toNat
    rw [e]
    simp
  have k1 : PySem.Builtin.Str.strKind ⟨#[b]⟩ = 1 := by
    unfold PySem.Builtin.Str.strKind
    rw [if_pos (by simp [hb])]
  unfold Txt.splitMax
  by_cases h1 : (decide (x.length < (⟨#[b]⟩ : Str).length) || decide (PySem.Builtin.Str.strKind x < PySem.Builtin.Str.strKind ⟨#[b]⟩)) = true
  · rw [if_pos h1]
    have hx : x.cps.toList = [] := by
      rw [Bool.or_eq_true, decide_eq_true_iff, decide_eq_true_iff, k1] at h1
      rcases h1 with z | z
      · have e1 : x.cps.toList.length = x.length := by simp [Str.length]
        have z' : x.length < 1 := z
        exact List.length_eq_zero_iff.mp (by omega)
      · have := kind_pos x; omega
    simp only [List.map_cons, List.map_nil, hx, splitF]
  · rw [if_neg h1]
    by_cases he : (occurrences x ⟨#[b]⟩ 0 x.length (limitOf x k)).isEmpty = true
    · rw [if_pos he]
      rw [ho] at he
      rw [← key, List.isEmpty_iff.mp he]
      rfl
    · rw [if_neg he, partsBetween_eq, parts_cps, ho]
      exact key
theorem split_all (x : Str) (b : Nat) (hb : b < 256) : (Txt.split x ⟨#[b]⟩).map (fun p => p.cps.toList) = splitF b (x.length + 1) x.cps.toList := by
  have e : Txt.split x ⟨#[b]⟩ = Txt.splitMax x ⟨#[b]⟩ ((x.length + 1 : Nat) : Int) := by
    unfold Txt.split Txt.splitMax
    have : limitOf x ((x.length + 1 : Nat) : Int) = x.length + 1 := by unfold limitOf; rw [if_neg (by omega)]; rfl
    rw [this]
  rw [e, splitMax_split x b hb _ (by omega)]
  rfl
theorem find3_scan (x y : Str) (hy : y.cps.toList ≠ []) (i : Nat) (hi : i ≤ x.length) : Txt.find3 x y (i : Int) = match scanF y.cps.toList 1 0 i (x.cps.toList.drop i) with | k :: _ => (k : Int) | [] => -1 := by
  have e : fromIndex x.length (i : Int) = i := by
    unfold fromIndex
    split <;> omega
  unfold Txt.find3
  rw [e, occ_scan x y hy hi]
  cases scanF y.cps.toList 1 0 i (List.drop i x.cps.toList) <;> rfl
theorem scan_pass {y : List Nat} {b : Nat} {ys : List Nat} (hy : y = b :: ys) {lim : Nat} : ∀ (f : List Nat) (i : Nat) (r : List Nat), b ∉ f → scanF y lim 0 i (f ++ r) = scanF y lim 0 (i + f.length) r
  | [], i, r, _ => rfl
  | c :: f, i, r, h => by
    rw [List.cons_append, scanF, if_neg, scan_pass hy f (i + 1) r (fun z => h (List.mem_cons_of_mem _ z)), List.length_cons, show i + 1 + f.length = i + (f.length + 1) by omega]
    rintro ⟨_, z⟩
    rw [hy] at z
    have := (List.cons_prefix_cons.mp z).1
    exact h (by rw [this]; exact List.mem_cons_self)
end KU

namespace KU
def dblL : List Nat → List Nat
  | [] => []
  | c :: r => if c = 39 then 39 :: 39 :: dblL r else c :: dblL r
theorem rep_dbl : ∀ (l : List Nat) (lim : Nat), l.length ≤ lim → repF [39] [39, 39] lim 0 l = dblL l
  | [], _, _ => rfl
  | c :: r, lim, h => by
    rw [List.length_cons] at h
    rw [repF, dblL]
    by_cases hc : c = 39
    · rw [if_pos ⟨by omega, by rw [hc]; exact List.cons_prefix_cons.mpr ⟨rfl, List.nil_prefix⟩⟩, if_pos hc]
      show 39 :: 39 :: repF [39] [39, 39] (lim - 1) 0 r = _
      rw [rep_dbl r (lim - 1) (by omega)]
    · rw [if_neg (fun z => hc (List.cons_prefix_cons.mp z.2).1.symm), if_neg hc, rep_dbl r lim (by omega)]
theorem rep_undbl : ∀ (l : List Nat) (lim : Nat), l.length ≤ lim → repF [39, 39] [39] lim 0 (dblL l) = l
  | [], _, _ => rfl
  | c :: r, lim, h => by
    rw [List.length_cons] at h
    rw [dblL]
    by_cases hc : c = 39
    · rw [if_pos hc, repF, if_pos ⟨by omega, List.cons_prefix_cons.mpr ⟨rfl, List.cons_prefix_cons.mpr ⟨rfl, List.nil_prefix⟩⟩⟩]
      show 39 :: repF [39, 39] [39] (lim - 1) 1 (39 :: dblL r) = _
      rw [repF, rep_undbl r (lim - 1) (by omega), hc]
    · rw [if_neg hc, repF, if_neg (fun z => hc (List.cons_prefix_cons.mp z.2).1.symm), rep_undbl r lim (by omega)]
theorem dblL_append : ∀ a b : List Nat, dblL (a ++ b) = dblL a ++ dblL b
  | [], _ => rfl
  | c :: r, b => by
    rw [List.cons_append, dblL, dblL, dblL_append r b]
    split <;> rfl
theorem dblL_free : ∀ l : List Nat, 39 ∉ l → dblL l = l
  | [], _ => rfl
  | c :: r, h => by
    rw [dblL, if_neg (fun e : c = 39 => h (e ▸ List.mem_cons_self)), dblL_free r fun z => h (List.mem_cons_of_mem _ z)]
theorem dblL_mem : ∀ {l : List Nat} {c : Nat}, c ∈ dblL l → c ∈ l
  | a :: r, c, h => by
    rw [dblL] at h
    by_cases ha : a = 39
    · rw [if_pos ha] at h
      rcases List.mem_cons.mp h with e | h
      · rw [e, ha]; exact List.mem_cons_self
      · rcases List.mem_cons.mp h with e | h
        · rw [e, ha]; exact List.mem_cons_self
        · exact List.mem_cons_of_mem _ (dblL_mem h)
    · rw [if_neg ha] at h
      rcases List.mem_cons.mp h with e | h
      · rw [e]; exact List.mem_cons_self
      · exact List.mem_cons_of_mem _ (dblL_mem h)
theorem dblL_le : ∀ l : List Nat, l.length ≤ (dblL l).length ∧ (dblL l).length ≤ 2 * l.length
  | [] => ⟨Nat.le_refl _, Nat.le_refl _⟩
  | c :: r => by
    have := dblL_le r
    rw [dblL]
    split <;> simp only [List.length_cons] <;> omega
theorem quote_cut : ∀ t : List Nat, 39 ∉ t ∨ ∃ f r, t = f ++ 39 :: r ∧ 39 ∉ f
  | [] => .inl (by simp)
  | c :: r => by
    by_cases hc : c = 39
    · exact .inr ⟨[], r, by rw [hc]; rfl, by simp⟩
    · rcases quote_cut r with h | ⟨f, q, e, h⟩
      · exact .inl (by simp; exact ⟨fun z => hc z.symm, h⟩)
      · exact .inr ⟨c :: f, q, by rw [e]; rfl, by simp; exact ⟨fun z => hc z.symm, h⟩⟩
theorem scan_hit {y : List Nat} (hy : y ≠ []) {lim i : Nat} {r : List Nat} (hl : 0 < lim) (h : y <+: r) : ∃ q, scanF y lim 0 i r = i :: q := by
  cases r with
  | nil => exact absurd (List.prefix_nil.mp h) hy
  | cons c r => exact ⟨_, by rw [scanF, if_pos ⟨hl, h⟩]⟩
theorem pre1 (c : Nat) (r : List Nat) : [c] <+: c :: r := List.cons_prefix_cons.mpr ⟨rfl, List.nil_prefix⟩
theorem pre2 (c d : Nat) (r : List Nat) : [c, d] <+: c :: d :: r := List.cons_prefix_cons.mpr ⟨rfl, pre1 d r⟩
theorem splitF_free (b : Nat) : ∀ (p : List Nat) (lim : Nat), b ∉ p → splitF b lim p = [p]
  | [], _, _ => rfl
  | c :: r, lim, h => by
    rw [splitF, if_neg (fun z : 0 < lim ∧ c = b => h (z.2 ▸ List.mem_cons_self)), splitF_free b r lim fun z => h (List.mem_cons_of_mem _ z)]
    rfl
theorem splitF_zero (b : Nat) : ∀ p : List Nat, splitF b 0 p = [p]
  | [] => rfl
  | c :: r => by
    rw [splitF, if_neg (fun z => absurd z.1 (Nat.lt_irrefl _)), splitF_zero b r]
    rfl
theorem splitF_first (b : Nat) : ∀ (p r : List Nat) (lim : Nat), b ∉ p → 0 < lim → splitF b lim (p ++ b :: r) = p :: splitF b (lim - 1) r
  | [], r, lim, _, hl => by rw [List.nil_append, splitF, if_pos ⟨hl, rfl⟩]
  | c :: p, r, lim, h, hl => by
    rw [List.cons_append, splitF, if_neg (fun z : 0 < lim ∧ c = b => h (z.2 ▸ List.mem_cons_self)), splitF_first b p r lim (fun z => h (List.mem_cons_of_mem _ z)) hl]
    rfl
def fieldL (p : List Nat × List Nat) : List Nat := p.1 ++ 58 :: 39 :: (dblL p.2 ++ [39])
inductive Arg where
  | num (n : Int)
  | doc (ps : List (PySem.Str × PySem.Str))
abbrev pairL (p : PySem.Str × PySem.Str) : List Nat × List Nat := (p.1.cps.toList, p.2.cps.toList)
def digs (n : Int) : List Nat := ((toString n : String) : PySem.Str).cps.toList
def argL : Arg → List Nat
  | .num n => digs n
  | .doc [] => [110, 111, 110, 101]
  | .doc (p :: ps) => joinL [32] ((p :: ps).map fun p => fieldL (pairL p))
def lineL (name : PySem.Str) (as : List Arg) : List Nat := joinL [32] (name.cps.toList :: as.map argL)
theorem joinL_flat (b : List Nat) : ∀ (ps : List (List Nat)) (p : List Nat), joinL b (p :: ps) = p ++ ps.flatMap (b ++ ·)
  | [], p => by simp [joinL]
  | q :: ps, p => by rw [joinL, joinL_flat b ps q]; simp
end KU

namespace KU
theorem digD_pos (m : Nat) : Nat.toDigits 10 m ≠ [] ∧ (1 ≤ m → (Nat.toDigits 10 m).head? ≠ some '0') := by
  induction m using Nat.strongRecOn with
  | _ m ih =>
    by_cases h : m < 10
    · rw [Nat.toDigits_of_lt_base h]
      refine ⟨by simp, fun h1 => ?_⟩
      have : ∀ d : Nat, d < 10 → 1 ≤ d → Nat.digitChar d ≠ '0' := by decide
      simpa using this m h h1
    · have hm : m % 10 < 10 := Nat.mod_lt m (by decide)
      have t : Nat.toDigits 10 (m / 10) ++ Nat.toDigits 10 (m % 10) = Nat.toDigits 10 (10 * (m / 10) + m % 10) := Nat.toDigits_append_toDigits (by decide) (by omega) hm
      rw [Nat.div_add_mod] at t
      obtain ⟨i1, i2⟩ := ih (m / 10) (by omega)
      rw [← t]
      cases hq : Nat.toDigits 10 (m / 10) with
      | nil => exact absurd hq i1
      | cons a r =>
        rw [hq] at i2
        exact ⟨by simp, fun _ => by simpa using i2 (by omega)⟩
theorem digD_len : ∀ (k m : Nat), m < 10 ^ (k + 1) → (Nat.toDigits 10 m).length ≤ k + 1
  | 0, m, h => by rw [Nat.toDigits_of_lt_base (by simpa using h)]; simp
  | k + 1, m, h => by
    by_cases hm10 : m < 10
    · rw [Nat.toDigits_of_lt_base hm10]; simp
    have hm : m % 10 < 10 := Nat.mod_lt m (by decide)
    have t : Nat.toDigits 10 (m / 10) ++ Nat.toDigits 10 (m % 10) = Nat.toDigits 10 (10 * (m / 10) + m % 10) := Nat.toDigits_append_toDigits (by decide) (by omega) hm
    rw [Nat.div_add_mod] at t
    rw [← t, List.length_append, Nat.toDigits_of_lt_base hm]
    have := digD_len k (m / 10) (by rw [Nat.pow_succ] at h; omega)
    simp only [List.length_cons, List.length_nil]
    omega
theorem digs_nat (m : Nat) : digs (m : Int) = (Nat.toDigits 10 m).map Char.toNat := by
  unfold digs
  rw [show (((toString ((m : Nat) : Int) : String) : PySem.Str)).cps.toList = (toString ((m : Nat) : Int)).toList.map Char.toNat from by
    first | exact PySem.signs_ofString _ | exact PySem.W.signs_ofString _ | exact PyProof.Rows.signs_ofString _ | simp [PySem.Str.ofString]]
  show (Nat.repr m).toList.map Char.toNat = _
  rw [Nat.toList_repr]
theorem digs_fig {n : Int} (h0 : 0 ≤ n) : ∀ c ∈ digs n, 48 ≤ c ∧ c ≤ 57 := by
  obtain ⟨m, rfl⟩ := Int.eq_ofNat_of_zero_le h0
  intro c hc
  rw [digs_nat] at hc
  obtain ⟨ch, hch, e⟩ := List.mem_map.mp hc
  have hd := Nat.isDigit_of_mem_toDigits (by decide) (by decide) hch
  rw [← e]
  have := Char.isDigit_iff_toNat.mp hd
  simpa using this
theorem digs_len {n : Int} (h0 : 0 ≤ n) (h : n < 10 ^ 60) : 1 ≤ (digs n).length ∧ (digs n).length ≤ 60 := by
  obtain ⟨m, rfl⟩ := Int.eq_ofNat_of_zero_le h0
  rw [digs_nat, List.length_map]
  refine ⟨?_, digD_len 59 m (by have : ((10 ^ 60 : Nat) : Int) = (10 : Int) ^ 60 := by norm_cast
                                omega)⟩
  have := (digD_pos m).1
  exact List.length_pos_iff.mpr this
theorem digs_lead {n : Int} (h0 : 0 ≤ n) (h : 1 < (digs n).length) : (digs n).head? ≠ some 48 := by
  obtain ⟨m, rfl⟩ := Int.eq_ofNat_of_zero_le h0
  rw [digs_nat] at h ⊢
  have hm : 10 ≤ m := by
    apply Decidable.byContradiction
    intro z
    rw [Nat.toDigits_of_lt_base (by omega)] at h
    simp at h
  have := (digD_pos m).2 (by omega)
  cases hq : Nat.toDigits 10 m with
  | nil => simp
  | cons a r =>
    rw [hq] at this
    simp only [List.map_cons, List.head?_cons, ne_eq, Option.some.injEq] at this ⊢
    intro e
    apply this
    have e' : a.toNat = '0'.toNat := e
    exact Char.toNat_inj.mp e'
end KU

namespace KU
def txE : List Nat → Option (List Nat × List Nat)
  | [] => none
  | [c] => if c = 39 then some ([], []) else none
  | c :: d :: r => if c = 39 then (if d = 39 then (txE r).map fun p => (39 :: p.1, p.2) else some ([], d :: r)) else (txE (d :: r)).map fun p => (c :: p.1, p.2)
theorem txE_some : ∀ {s t r : List Nat}, txE s = some (t, r) → s = dblL t ++ 39 :: r ∧ r.head? ≠ some 39
  | [], t, r, h => by cases h
  | [c], t, r, h => by
    rw [txE] at h
    split at h
    · rename_i e
      cases h
      exact ⟨by rw [e]; rfl, by simp⟩
    · cases h
  | c :: d :: s, t, r, h => by
    rw [txE] at h
    split at h
    · rename_i e
      split at h
      · rename_i e2
        obtain ⟨p, hp, y⟩ := Option.map_eq_some_iff.mp h
        cases y
        obtain ⟨h1, h2⟩ := txE_some (t := p.1) (r := p.2) hp
        exact ⟨by rw [e, e2, h1]; simp [dblL], h2⟩
      · rename_i e2
        cases h
        exact ⟨by rw [e]; rfl, by simp [e2]⟩
    · rename_i e
      obtain ⟨p, hp, y⟩ := Option.map_eq_some_iff.mp h
      cases y
      obtain ⟨h1, h2⟩ := txE_some (t := p.1) (r := p.2) hp
      exact ⟨by rw [h1, dblL, if_neg e]; rfl, h2⟩
theorem txE_of : ∀ (t : List Nat) {r : List Nat}, r.head? ≠ some 39 → txE (dblL t ++ 39 :: r) = some (t, r)
  | [], [], _ => rfl
  | [], d :: r, h => by
    have e : d ≠ 39 := fun e => h (by rw [e]; rfl)
    show txE (39 :: d :: r) = _
    rw [txE, if_pos rfl, if_neg e]
  | c :: t, r, h => by
    have ih := txE_of t h
    by_cases e : c = 39
    · subst e
      rw [dblL, if_pos rfl]
      show txE (39 :: 39 :: (dblL t ++ 39 :: r)) = _
      rw [txE, if_pos rfl, if_pos rfl, ih]
      rfl
    · rw [dblL, if_neg e]
      cases hq : dblL t ++ 39 :: r with
      | nil => simp at hq
      | cons d s =>
        rw [List.cons_append, hq, txE, if_neg e, ← hq, ih]
        rfl
def cqF : List Nat → Option (List Nat × List Nat)
  | [] => none
  | [_] => none
  | c :: d :: r => if c = 58 ∧ d = 39 then some ([], r) else (cqF (d :: r)).map fun p => (c :: p.1, p.2)
theorem cqF_some : ∀ {s n r : List Nat}, cqF s = some (n, r) → s = n ++ 58 :: 39 :: r
  | [], n, r, h => by cases h
  | [_], n, r, h => by cases h
  | c :: d :: s, n, r, h => by
    rw [cqF] at h
    split at h
    · rename_i e
      cases h
      rw [e.1, e.2]; rfl
    · obtain ⟨p, hp, y⟩ := Option.map_eq_some_iff.mp h
      cases y
      rw [cqF_some (n := p.1) (r := p.2) hp]
      rfl
def prF : Nat → List Nat → Option (List (List Nat × List Nat))
  | 0, _ => none
  | n + 1, s => match cqF s with
    | none => none
    | some (nm, r) => match txE r with
      | none => none
      | some (t, []) => some [(nm, t)]
      | some (t, c :: r) => if c = 32 then (prF n r).map ((nm, t) :: ·) else none
theorem field_app (p : List Nat × List Nat) (r : List Nat) : fieldL p ++ r = p.1 ++ 58 :: 39 :: (dblL p.2 ++ 39 :: r) := by
  unfold fieldL
  simp
theorem prF_sound : ∀ {n : Nat} {s : List Nat} {ps : List (List Nat × List Nat)}, prF n s = some ps → ps ≠ [] ∧ joinL [32] (ps.map fieldL) = s
  | 0, s, ps, h => by cases h
  | n + 1, s, ps, h => by
    rw [prF] at h
    split at h
    · cases h
    · rename_i nm r hq
      have e1 := cqF_some hq
      split at h
      · cases h
      · rename_i t ht
        cases h
        obtain ⟨e2, _⟩ := txE_some ht
        refine ⟨by simp, ?_⟩
        show fieldL (nm, t) = s
        rw [e1, e2, fieldL]
      · rename_i t c r2 ht
        obtain ⟨e2, _⟩ := txE_some ht
        split at h
        · rename_i ec
          obtain ⟨qs, hqs, y⟩ := Option.map_eq_some_iff.mp h
          subst y
          obtain ⟨q1, q2⟩ := prF_sound hqs
          refine ⟨by simp, ?_⟩
          cases qs with
          | nil => exact absurd rfl q1
          | cons x qs =>
            show fieldL (nm, t) ++ [32] ++ joinL [32] ((x :: qs).map fieldL) = s
            rw [q2, e1, e2, ec, List.append_assoc, field_app]
            rfl
        · cases h
end KU

namespace KU
open PySem PySem.Builtin PySem.Builtin.Str PySem.StrLaws
theorem digD_of : ∀ (k : Nat) (l : List Nat), l.length = k + 1 → (∀ c ∈ l, 48 ≤ c ∧ c ≤ 57) → (1 < l.length → l.head? ≠ some 48) → ∃ m : Nat, m < 10 ^ (k + 1) ∧ (l.head? ≠ some 48 → 0 < m) ∧ (Nat.toDigits 10 m).map Char.toNat = l := by
  have one : ∀ d : Nat, d < 10 → (Nat.digitChar d).toNat = d + 48 := by decide
  intro k
  induction k with
  | zero =>
    intro l hl hf _
    match l, hl with
    | [c], _ =>
      have := hf c List.mem_cons_self
      refine ⟨c - 48, by simp; omega, fun h => ?_, ?_⟩
      · have : c ≠ 48 := fun e => h (by rw [e]; rfl)
        omega
      · rw [Nat.toDigits_of_lt_base (by omega)]
        show [(Nat.digitChar (c - 48)).toNat] = [c]
        rw [one _ (by omega)]
        congr 1
        omega
  | succ k ih =>
    intro l hl hf h0
    have hne : l ≠ [] := fun e => by rw [e] at hl; simp at hl
    have e : l = l.dropLast ++ [l.getLast hne] := (List.dropLast_concat_getLast hne).symm
    have hdl : l.dropLast.length = k + 1 := by rw [List.length_dropLast]; omega
    have hh : l.dropLast.head? = l.head? := by
      match l, hl with
      | a :: b :: r, _ => rfl
    have hl0 : l.head? ≠ some 48 := h0 (by omega)
    obtain ⟨m, m1, m2, m3⟩ := ih l.dropLast hdl (fun c hc => hf c (List.dropLast_subset l hc)) (fun _ => by rw [hh]; exact hl0)
    have hm := m2 (by rw [hh]; exact hl0)
    have hg := hf _ (List.getLast_mem hne)
    have t := Nat.toDigits_append_toDigits (b := 10) (n := m) (d := l.getLast hne - 48) (by decide) hm (by omega)
    refine ⟨10 * m + (l.getLast hne - 48), ?_, fun _ => by omega, ?_⟩
    · rw [Nat.pow_succ]
      omega
    · rw [← t, List.map_append, m3, Nat.toDigits_of_lt_base (by omega)]
      show l.dropLast ++ [(Nat.digitChar (l.getLast hne - 48)).toNat] = l
      rw [one _ (by omega), show l.getLast hne - 48 + 48 = l.getLast hne by omega]
      exact e.symm
theorem digs_of {l : List Nat} (h1 : 1 ≤ l.length) (h2 : l.length ≤ 60) (hf : ∀ c ∈ l, 48 ≤ c ∧ c ≤ 57) (h0 : 1 < l.length → l.head? ≠ some 48) : ∃ n : Int, 0 ≤ n ∧ n < 10 ^ 60 ∧ digs n = l := by
  obtain ⟨m, m1, _, m3⟩ := digD_of (l.length - 1) l (by omega) hf h0
  refine ⟨(m : Int), Int.natCast_nonneg _, ?_, by rw [digs_nat]; exact m3⟩
  have h3 : m < 10 ^ 60 := Nat.lt_of_lt_of_le m1 (Nat.pow_le_pow_right (by decide) (by omega))
  have : ((10 ^ 60 : Nat) : Int) = (10 : Int) ^ 60 := by norm_cast
  omega
theorem txE_free {s : List Nat} (h : 39 ∉ s) : txE s = none := by
  cases hq : txE s with
  | none => rfl
  | some p =>
    obtain ⟨e, _⟩ := txE_some (t := p.1) (r := p.2) hq
    exact absurd (by rw [e]; simp) h
theorem txE_cut1 {f r : List Nat} (hf : 39 ∉ f) (h : r.head? ≠ some 39) : txE (f ++ 39 :: r) = some (f, r) := by
  have := txE_of f h
  rwa [dblL_free f hf] at this
theorem txE_cut2 : ∀ {f : List Nat} (r : List Nat), 39 ∉ f → txE (f ++ 39 :: 39 :: r) = (txE r).map fun p => (f ++ 39 :: p.1, p.2)
  | [], r, _ => by
    show txE (39 :: 39 :: r) = _
    rw [txE, if_pos rfl, if_pos rfl]
    rfl
  | c :: f, r, h => by
    have ih := txE_cut2 (f := f) r fun y => h (List.mem_cons_of_mem _ y)
    have e : c ≠ 39 := fun e => h (by rw [e]; exact List.mem_cons_self)
    cases hq : f ++ 39 :: 39 :: r with
    | nil => simp at hq
    | cons d s =>
      rw [List.cons_append, hq, txE, if_neg e, ← hq, ih, Option.map_map]
      rfl
theorem find_q39 (z : Str) {i : Nat} (hi : i ≤ z.length) : (39 ∉ z.cps.toList.drop i ∧ Txt.find3 z ⟨#[39]⟩ (i : Int) = -1) ∨ ∃ f r, z.cps.toList.drop i = f ++ 39 :: r ∧ 39 ∉ f ∧ Txt.find3 z ⟨#[39]⟩ (i : Int) = ((i + f.length : Nat) : Int) := by
  rw [find3_scan z ⟨#[39]⟩ (by simp) i hi]
  rcases quote_cut (z.cps.toList.drop i) with h | ⟨f, r, e, h⟩
  · refine .inl ⟨h, ?_⟩
    have := scan_pass (y := [39]) rfl (lim := 1) (z.cps.toList.drop i) i [] h
    rw [List.append_nil] at this
    show (match scanF [39] 1 0 i (z.cps.toList.drop i) with | k :: _ => (k : Int) | [] => -1) = -1
    rw [this]
    rfl
  · refine .inr ⟨f, r, e, h, ?_⟩
    rw [e, scan_pass (y := [39]) rfl f i (39 :: r) h]
    obtain ⟨q, e2⟩ := scan_hit (y := [39]) (by simp) (lim := 1) (i := i + f.length) (by decide) (pre1 39 r)
    show (match scanF [39] 1 0 (i + f.length) (39 :: r) with | k :: _ => (k : Int) | [] => -1) = _
    rw [e2]
theorem cq_scan : ∀ (s : List Nat) (i : Nat), (match scanF [58, 39] 1 0 i s with | k :: _ => (k : Int) | [] => -1) = match cqF s with | some p => ((i + p.1.length : Nat) : Int) | none => -1
  | [], i => rfl
  | [c], i => by
    rw [scanF, if_neg (fun h => by have := h.2.length_le; simp at this)]
    rfl
  | c :: d :: r, i => by
    by_cases h : c = 58 ∧ d = 39
    · obtain ⟨rfl, rfl⟩ := h
      rw [scanF, if_pos ⟨by decide, pre2 58 39 r⟩, cqF, if_pos ⟨rfl, rfl⟩]
      rfl
    · have np : ¬ (0 < 1 ∧ [58, 39] <+: c :: d :: r) := fun ⟨_, y⟩ => by
        have y1 := List.cons_prefix_cons.mp y
        have y2 := List.cons_prefix_cons.mp y1.2
        exact h ⟨y1.1.symm, y2.1.symm⟩
      rw [scanF, if_neg np, cqF, if_neg h, cq_scan (d :: r) (i + 1)]
      cases cqF (d :: r) with
      | none => rfl
      | some p =>
        show ((i + 1 + p.1.length : Nat) : Int) = ((i + (p.1.length + 1) : Nat) : Int)
        congr 1
        omega
theorem find_cq (z y : Str) (hy : y.cps.toList = [58, 39]) {i : Nat} (hi : i ≤ z.length) : Txt.find3 z y (i : Int) = match cqF (z.cps.toList.drop i) with | some p => ((i + p.1.length : Nat) : Int) | none => -1 := by
  rw [find3_scan z y (by rw [hy]; simp) i hi, hy]
  exact cq_scan _ i
end KU

namespace K34
open PySem L2 KU
local macro_rules
  | `(tactic| simpa only [$xs,*]) => `(tactic| simp only [tIfS, tAnd, tOr, tNot, tB, tVar, tTest, tOp, tC, tUn, tCB, tCons, tNil, rI0, rI, rU, rNe, rEq, scal, rAppend, tBM, tDrop, tSeq, tAsg, gName, tRet, tNext, List.set_cons_zero, List.set_cons_succ, List.getElem?_cons_zero, List.getElem?_cons_succ, Option.some.injEq, V.int.injEq, V.bl.injEq, V.ref.injEq, V.str.injEq, exists_eq_left', exists_eq_left, exists_and_left, List.cons.injEq, and_true, true_and, and_assoc, exists_const, L2.start, List.map_cons, List.map_nil, List.length_cons, List.length_nil, List.replicate_succ, List.replicate_zero, List.cons_append, List.nil_append, List.append_nil, Nat.reduceAdd, Nat.reduceSub, tFor_eq, tComp_eq, tWhile_eq, tChain, tAug, ipI, rIxS, rSlS, rLower, rIndex, rPop, rCat, tBM0, gSub, rSetL, tSl, tPart, tNoPart, rSlL, tCall, tLst, tTup, iRng1, iRng2, iRng3, iList, iEnum, gTup, gCons, gNil, rIxL, rIxT, tYes, tAndV, tOrV, tNotV, tIf, tTest, exists_eq', List.ne_cons_self, reduceCtorEq, if_true, if_false, and_false, false_and, $xs,*])
def top (i : Nat) : Stmt := PySem.Challenge.pw_findcourt_k34_lines_of_deeds_looked_at.main.body.getD i (.Pass ⟨0, 0, 0, 0⟩)
abbrev sSmall : Stmt := top 14
abbrev sFig : Stmt := top 15
abbrev sTS : Stmt := top 16
abbrev sName : Stmt := top 17
abbrev sLook : Stmt := top 18
abbrev sShF : Stmt := top 23
abbrev sShFs : Stmt := top 24
abbrev sShD : Stmt := top 25
abbrev sRF : Stmt := top 26
abbrev sEoT : Stmt := top 27
abbrev sRTS : Stmt := top 28
abbrev sRP : Stmt := top 29
abbrev sRFs : Stmt := top 30
abbrev sRD : Stmt := top 31
abbrev sDraws : Stmt := top 33
abbrev sPop : Stmt := top 34
abbrev sAlike : Stmt := top 35
abbrev sNms : Stmt := top 36
abbrev sText : Stmt := top 37
abbrev sDoc : Stmt := top 38
abbrev sNum : Stmt := top 39
abbrev sDeed : Stmt := top 40
abbrev sLine : Stmt := top 41
abbrev sNuI : Stmt := top 42
abbrev sTxI : Stmt := top 43
abbrev sDoI : Stmt := top 44
abbrev sDeI : Stmt := top 45
abbrev sKi : Stmt := top 46
abbrev sOdd : Stmt := top 47
abbrev sBe : Stmt := top 48
abbrev sRef : Stmt := top 49
abbrev sLaw : Stmt := top 50
abbrev sXF : Stmt := inClass (top 2) 0
structure Txt (mg : Str → Option Value) : Prop where
  len : mg "len" = none
  range : mg "range" = none
  isinstance : mg "isinstance" = none
  str : mg "str" = none
  int : mg "int" = none
  bool : mg "bool" = none
  list : mg "list" = none
  tuple : mg "tuple" = none
  ord : mg "ord" = none
  sorted : mg "sorted" = none
  all : mg "all" = none
  enumerate : mg "enumerate" = none
  zip : mg "zip" = none
  valueError : mg "ValueError" = none
  most : ∃ t, mg "MOST_NAME_SIGNS" = some (.int 12 t)
  noS : ∃ t, mg "NO_SIGN" = some (.int 37 t)
  mostF : ∃ t, mg "MOST_FIGURES" = some (.int 60 t)
  noF : ∃ t, mg "NO_FIELDS" = some (.str "none" t)
def Asc (z : Str) : Prop := ∀ c ∈ z.cps.toList, 32 ≤ c ∧ c ≤ 126 ∧ c ≠ 37
theorem slen (z : Str) : z.cps.toList.length = z.length := by simp [Str.length]
def SameX (d : Addr) (H H' : Hp) : Prop := ∀ b o, H b = some o → b ≠ d → H' b = some o
theorem SameX.trans {d : Addr} {H H1 H2 : Hp} (a : SameX d H H1) (b : SameX d H1 H2) : SameX d H H2 := fun c o h n => b c o (a c o h n) n
theorem SameX.of {d : Addr} {H H1 : Hp} (a : Same H H1) : SameX d H H1 := fun c o h _ => a c o h
theorem SameX.upd {d : Addr} {H H1 : Hp} (a : SameX d H H1) (o : HO) : SameX d H (L2.upd H1 d o) := fun c u h n => by rw [upd_ne n]; exact a c u h n
theorem SameX.out {d : Addr} {H H1 H2 : Hp} (a : Same H H1) (h : H d = none) (b : SameX d H1 H2) : Same H H2 := fun c o q => b c o (a c o q) (ne_of_none q h)
abbrev D31 := { x : Int // 0 ≤ x ∧ x < 2147483587 }
def dI (x : D31) : V := .int x.1
def d31 (x : Int) : D31 := ⟨x % 2147483587, Int.emod_nonneg x (by decide), Int.emod_lt_of_pos x (by decide)⟩
def spDraws (K : PySem.W.Frag) : Sp := fun vs H Q _ => ∃ (a : Addr) (ns : List Int) (t m : Int), vs = [.ref a, .int t, .int m] ∧ SqL K H a (ns.map V.int) ∧ ns.length ≤ 63 ∧ 0 ≤ t ∧ t ≤ 10 ∧ 0 ≤ m ∧ m ≤ 900 ∧
  ∀ (r : Addr) (ds : List D31) (H' : Hp), Same H H' → H r = none → H' r = some (.lst (ds.map dI)) → Q (.ref r) H'
def spPop : Sp := fun vs H Q _ => ∃ (d : Addr) (ns : List D31), vs = [.ref d] ∧ H d = some (.lst (ns.map dI)) ∧
  ∀ (z : D31) (ns' : List D31) (H' : Hp), SameX d H H' → H' d = some (.lst (ns'.map dI)) → Q (.int z.1) H'
theorem cutV_map (ns : List Int) (lo hi : Option Int) : cutV (ns.map V.int) lo hi = (cutL ns lo hi).map V.int := by
  unfold cutV cutL
  rw [List.length_map, List.map_take, List.map_drop]
theorem cmul_mod {a b j : Int} (h : 0 < j) (h' : j < 2 ^ 63) : CMul (a % j) b := by
  have h1 := Int.emod_nonneg a (show j ≠ 0 by omega)
  have h2 := Int.emod_lt_of_pos a h
  exact .inl ⟨by omega, by omega⟩
section
variable {P : Program} {w : World} {K : PySem.W.Frag} {mg : Str → Option Value} {base : Heap} {f : Addr} {fd : FuncData}
theorem scPop : FnScope ["_law_draws_here"] ["_law_draws_here"] (defScope sPop) := ⟨rfl, rfl, rfl, by decide +kernel, rfl, by decide +kernel, by decide +kernel⟩
theorem ok_pop (F : Fun K "_law_pop" "_law_pop" sPop f fd) : FnOk P w K mg base CX0 1 f fd ["_law_draws_here"] spPop := by
  refine F.ok scPop (fun vs H Q E h => ?_) (fun cdv A outer s H vs Q E hr h => ?_)
  · obtain ⟨d, ns, rfl, _⟩ := h
    rfl
  obtain ⟨d, ns, rfl, hd, q⟩ := h
  refine ⟨_, (pss_cons (ps_if (pt_cmpR (op_eqE K hr) (pv 0) (pe_lst pa_nil) (nomark _)) (pss_one (ps_ret pe_int)) pss_nil)
    (pss_one (ps_ret (bm0K K PySem.F.plainAttrs_list PySem.F.slot_list_pop PySem.F.type_list_pop mt_pop (pv 0))))), ?_⟩
  simpa only [and_self]
  refine ⟨by decide, fun p hp => ⟨_, SqL.of (upd_at hd hp), SqL.of upd_same, ?_⟩⟩
  have hs := same_new hp (.lst [])
  refine ite2 (fun c => ?_) (fun c => ?_)
  · exact q ⟨0, by decide⟩ ns _ (SameX.of hs) (hs _ _ hd)
  · have hne : ns ≠ [] := by intro z; subst z; exact c rfl
    have hl : 0 < ns.length := List.length_pos_iff.mpr hne
    refine ⟨.inl ⟨rfl, _, SqL.of (hs _ _ hd)⟩, _, hs _ _ hd, dI ns[ns.length - 1], ?_, ?_⟩
    · rw [List.getElem?_map, List.length_map, List.getElem?_eq_getElem (by omega)]
      rfl
    · refine q _ ns.dropLast _ ((SameX.of hs).upd _) ?_
      rw [upd_same, List.map_dropLast]
theorem pick3 {one : Int} {s0 s1 s2 : Str} : ∃ s, atI [V.str s0, V.str s1, V.str s2] (one % 3) = some (.str s) ∧ (s = s0 ∨ s = s1 ∨ s = s2) := by
  have h0 := Int.emod_nonneg one (show (3 : Int) ≠ 0 by decide)
  have h1 := Int.emod_lt_of_pos one (show (0 : Int) < 3 by decide)
  have h2 : one % 3 = 0 ∨ one % 3 = 1 ∨ one % 3 = 2 := by omega
  rcases h2 with e | e | e
  · rw [e]; exact ⟨s0, rfl, .inl rfl⟩
  · rw [e]; exact ⟨s1, rfl, .inr (.inl rfl)⟩
  · rw [e]; exact ⟨s2, rfl, .inr (.inr rfl)⟩
theorem scD : FnScope ["_law_script", "_law_turn", "_law_many", "_law_cells", "_law_found", "_law_left", "_law_k", "_law_at", "_law_place", "_law_number_here"] ["_law_script", "_law_turn", "_law_many"] (defScope sDraws) := ⟨rfl, rfl, rfl, by decide +kernel, rfl, by decide +kernel, by decide +kernel⟩
def invQ (H1 : Hp) (j : Nat) (ys : List V) (σ : St) (L : Hp) : Prop := ∃ (ls : List Int) (v0 : Option V), ys = ls.map V.int ∧ ls.length = j ∧ L = H1 ∧ σ = [v0]
def invU (a ce fo le : Addr) (t m : Int) (n : Nat) (H : Hp) (i : Nat) (σ : St) (L : Hp) : Prop := ∃ (ds : List D31) (ls : List Int) (v6 v7 v8 v9 : Option V), σ = [some (.ref a), some (.int t), some (.int m), some (.ref ce), some (.ref fo), some (.ref le), v6, v7, v8, v9] ∧ Same H L ∧
  L fo = some (.lst (ds.map dI)) ∧ L le = some (.lst (ls.map V.int)) ∧ ds.length ≤ i ∧ ls.length = n
def invV (a ce fo : Addr) (t m : Int) (H : Hp) (i : Nat) (σ : St) (L : Hp) : Prop := ∃ (ds : List D31) (v5 v6 v7 v8 v9 : Option V), σ = [some (.ref a), some (.int t), some (.int m), some (.ref ce), some (.ref fo), v5, v6, v7, v8, v9] ∧ Same H L ∧
  L fo = some (.lst (ds.map dI)) ∧ ds.length ≤ i
theorem ok_draws (F : Fun K "_law_draws" "_law_draws" sDraws f fd) (T : Txt mg) : FnOk P w K mg base CX0 1 f fd ["_law_script", "_law_turn", "_law_many"] (spDraws K) := by
  refine F.ok scD (fun vs H Q E h => ?_) (fun cdv A outer s H vs Q E hr h => ?_)
  · obtain ⟨a, ns, t, m, rfl, _⟩ := h
    rfl
  obtain ⟨a, ns, t, m, rfl, hS, hlen, t0, t1, m0, m1, q⟩ := h
  refine ⟨_, (pss_cons (ps_set (i := 3) scD.nd rfl (Or.inl rfl) (pe_op op_cat (pe_slice (slL K) (pv 0) po_none (po_some pe_int)) (pe_lst (pa_cons (pv 1) pa_nil))))
    (pss_cons (ps_set (i := 4) scD.nd rfl (Or.inl rfl) (pe_lst pa_nil))
    (pss_cons (ps_if (pt_cmpR op_eq (pe_op op_mod (pe_op op_fdiv (pe_ix (ixL K) (pv 3) pe_int (fun _ _ => rfl)) pe_int) pe_int) pe_int (nomark _)) (pss_cons (ps_setC (i := 5) scD.nd rfl rfl (N := ["_law_cell"]) (pick := [none]) (NX := ["_law_script", "_law_turn", "_law_many", "_law_cells", "_law_found", "_law_left", "_law_k", "_law_at", "_law_place", "_law_number_here"]) (sX := defScope sDraws) (by decide +kernel) rfl rfl rfl (pi_listK K (pv 3))
        (fun _ _ _ _ => (pg_name (i := 0) (by decide +kernel : (["_law_cell"] : List Str).Nodup) rfl (Or.inl rfl))) (fun _ _ _ _ => pifs_nil) (fun _ _ _ _ => (pe_op op_fdiv (pv 0) pe_int)))
    (pss_cons (ps_for PassesOwn.never rfl (pi_range1 rfl T.range (pa_cons (pe_op op_add (pv 1) (pv 2)) pa_nil)) (pg_name (i := 6) scD.nd rfl (Or.inl rfl))
      (pss_cons (ps_set (i := 7) scD.nd rfl (Or.inl rfl) (pe_op op_mod (pv 6) (pe_callB (lenK K) rfl T.len PySem.boot_len (pa_cons (pv 5) pa_nil))))
    (pss_cons (ps_if (pt_cmpR op_ge (pv 6) (pv 1) (nomark _)) (pss_one (ps_expr (bmK K PySem.F.plainAttrs_list PySem.F.slot_list_append PySem.F.type_list_append mt_append (pv 4) (pa_cons (pe_op op_mod (pe_ix (ixL K) (pv 5) (pv 7) (fun _ _ => rfl)) pe_int) pa_nil)))) pss_nil)
    (pss_one (ps_asg (pe_op op_fdivB (pe_ix (ixL K) (pv 5) (pv 7) (fun _ _ => rfl)) pe_int) (pg_sub (pv 5) (pv 7) set_list))))))
    (pss_one (ps_ret (pv 4))))) pss_nil)
    (pss_cons (ps_for PassesOwn.never rfl (pi_range1 rfl T.range (pa_cons (pv 2) pa_nil)) (pg_name (i := 6) scD.nd rfl (Or.inl rfl))
      (pss_cons (ps_set (i := 8) scD.nd rfl (Or.inl rfl) (pe_op op_add (pe_op op_mul (pe_op op_mul (pe_op op_add (pv 6) (pv 1)) (pe_op op_add (pv 6) (pv 1))) pe_int) pe_int))
    (pss_cons (ps_set (i := 9) scD.nd rfl (Or.inl rfl) (pe_op op_mod (pe_op op_mul (pe_op op_add (pe_op op_mod (pe_ix (ixL K) (pv 3) (pe_op op_mod (pv 6) (pe_callB (lenK K) rfl T.len PySem.boot_len (pa_cons (pv 3) pa_nil))) (fun _ _ => rfl)) pe_int) (pv 8)) pe_int) pe_int))
    (pss_cons (ps_set (i := 9) scD.nd rfl (Or.inl rfl) (pe_op op_mod (pe_op op_add (pe_op op_mul (pv 9) (pv 9)) (pe_op op_mul pe_int (pv 6))) pe_int))
    (pss_one (ps_expr (bmK K PySem.F.plainAttrs_list PySem.F.slot_list_append PySem.F.type_list_append mt_append (pv 4) (pa_cons (pe_op op_mod (pe_op op_mul (pv 9) (pv 9)) pe_int) pa_nil))))))))
    (pss_one (ps_ret (pv 4))))))), ?_⟩
  simpa only [and_self]
  refine ⟨_, hS, fun p1 h1 => ⟨by decide, fun p2 h2 => ?_⟩⟩
  rw [cutV_map] at h2 ⊢
  have hcl : (cutL ns none (some 63)).length ≤ 63 := by
    unfold cutL
    rw [List.length_take, List.length_drop]
    omega
  refine ⟨_, upd_at upd_same h2, _, upd_same, ?_, fun ce hce => ⟨by decide, fun fo hfo => ?_⟩⟩
  · rw [List.length_map, List.length_singleton]
    exact small (by omega)
  have ecs : (cutL ns none (some 63)).map V.int ++ [V.int t] = (cutL ns none (some 63) ++ [t]).map V.int := by rw [List.map_append]; rfl
  rw [ecs] at hfo ⊢
  have ecl : (cutL ns none (some 63) ++ [t]).length ≤ 64 ∧ 0 < (cutL ns none (some 63) ++ [t]).length := by
    rw [List.length_append, List.length_singleton]
    omega
  generalize cutL ns none (some 63) ++ [t] = cs at hfo ecl ⊢
  obtain ⟨cl1, cl0⟩ := ecl
  have s2 : Same H (upd (upd (upd H p1 (.lst ((cutL ns none (some 63)).map V.int))) p2 (.lst [V.int t])) ce (.lst (cs.map V.int))) := (same_new h1 _).trans ((same_new h2 _).trans (same_new hce _))
  have e2 : (upd (upd (upd H p1 (.lst ((cutL ns none (some 63)).map V.int))) p2 (.lst [V.int t])) ce (.lst (cs.map V.int))) ce = some (.lst (cs.map V.int)) := upd_same
  generalize upd (upd (upd H p1 (.lst ((cutL ns none (some 63)).map V.int))) p2 (.lst [V.int t])) ce (.lst (cs.map V.int)) = H2 at hfo s2 e2 ⊢
  have fH : H fo = none := s2.free hfo
  have s23 : Same H2 (upd H2 fo (.lst [])) := same_new hfo _
  have s3 : Same H (upd H2 fo (.lst [])) := s2.trans (same_new hfo _)
  have e3 : (upd H2 fo (.lst [])) ce = some (.lst (cs.map V.int)) := (same_new hfo _) _ _ e2
  have e4 : (upd H2 fo (.lst [])) fo = some (.lst []) := upd_same
  have nce : ce ≠ fo := fun z => by subst z; rw [hfo] at e2; cases e2
  generalize upd H2 fo (.lst []) = H3 at s23 s3 e3 e4 ⊢
  obtain ⟨v0, hv0⟩ := atI_ints (ns := cs) (k := 0) (by omega) (by omega)
  refine ⟨_, SqL.of e3, _, hv0, _, rfl, ⟨by decide, by decide⟩, by decide, ite2 (fun _ => ⟨⟨_, SqL.of e3⟩, ?_⟩) (fun _ => ?_)⟩
  · refine compW_list (cs.map V.int) (invQ H3) ⟨[], none, rfl, rfl, rfl, rfl⟩ ?_ ?_ ?_
    · rintro i ys σ L hi ⟨ls, u0, rfl, hl, rfl, rfl⟩
      refine ⟨SqL.of e3, ?_⟩
      rw [List.length_map] at hi ⊢
      exact small (by omega)
    · rintro i x ys σ L hx ⟨ls, u0, rfl, hl, rfl, rfl⟩
      obtain ⟨z, rfl, _⟩ := int_of_map hx
      simpa only [and_self]
      exact ⟨⟨by decide, by decide⟩, ls ++ [_], _, by rw [List.map_append]; rfl, by rw [List.length_append, hl]; rfl, rfl, rfl⟩
    · rintro ys σ L ⟨ls, u0, rfl, hl, rfl, rfl⟩ le hle
      rw [List.length_map] at hl
      refine ⟨by omega, by omega, ?_⟩
      have nfl : fo ≠ le := ne_of_none e4 hle
      have fle : H le = none := s3.free hle
      refine forW_range (lo := 0) (invU a ce fo le t m cs.length H) ⟨[], ls, none, none, none, none, rfl, s3.trans (same_new hle _), (same_new hle _) _ _ e4, upd_same, Nat.le_refl _, hl⟩ ?_ ?_
      · rintro i σ M hi ⟨ds, ls, v6, v7, v8, v9, rfl, sM, hf, hl2, hdl, hll⟩
        simpa only [and_self]
        have cp : (0 : Int) < (((ls.map V.int).length : Nat) : Int) := by rw [List.length_map]; omega
        have x0 := Int.emod_nonneg (0 + (i : Int)) (show (((ls.map V.int).length : Nat) : Int) ≠ 0 by omega)
        have x1 := Int.emod_lt_of_pos (0 + (i : Int)) cp
        rw [List.length_map] at x0 x1
        obtain ⟨v, hv⟩ := atI_ints (ns := ls) x0 x1
        refine ⟨_, .inl (SqL.of hl2), cp, ?_⟩
        rw [List.length_map]
        have fin : ∀ (M' : Hp) (ds' : List D31) (v6 v7 v8 v9 : Option V), Same H M' → M' fo = some (.lst (ds'.map dI)) → M' le = some (.lst (ls.map V.int)) → ds'.length ≤ i + 1 → ∃ x, SqL K M' le x ∧ ∃ x_1, atI x ((0 + (i : Int)) % (ls.length : Int)) = some x_1 ∧ ∃ j, x_1 = V.int j ∧ CDivB j 2147483587 ∧ ∃ y, M' le = some (.lst y) ∧ ∃ k, ixN y.length ((0 + (i : Int)) % (ls.length : Int)) = some k ∧
            invU a ce fo le t m cs.length H (i + 1) [some (.ref a), some (.int t), some (.int m), some (.ref ce), some (.ref fo), some (.ref le), v6, v7, v8, v9] (upd M' le (.lst (y.set k (.int (j / 2147483587))))) := fun M' ds' v6 v7 v8 v9 q1 q2 q3 q4 =>
          ⟨_, SqL.of q3, _, hv, _, rfl, ⟨by decide, by decide⟩, _, q3, _, ixN_of x0 (by rw [List.length_map]; exact x1), ds', ls.set _ _, _, _, _, _, rfl, q1.newer fle _, by rw [upd_ne nfl]; exact q2, by rw [upd_same, List.map_set], q4, by rw [List.length_set]; exact hll⟩
        refine ite2 (fun _ => ?_) (fun _ => ?_)
        · refine ⟨.inl ⟨rfl, _, SqL.of hf⟩, _, SqL.of hl2, _, hv, _, rfl, by decide, _, hf, small1000 (by rw [List.length_map]; omega), ?_⟩
          exact fin _ (ds ++ [d31 _]) _ _ _ _ (sM.newer fH _) (by rw [upd_same, List.map_append]; rfl) (by rw [upd_ne nfl.symm]; exact hl2) (by rw [List.length_append, List.length_singleton]; omega)
        · exact fin _ ds _ _ _ _ sM hf hl2 (by omega)
      · rintro σ M ⟨ds, ls, v6, v7, v8, v9, rfl, sM, hf, hl2, hdl, hll⟩
        simpa only [and_self]
        exact q fo ds M sM fH hf
  · refine ⟨by omega, by omega, ?_⟩
    refine forW_range (lo := 0) (invV a ce fo t m H2) ⟨[], none, none, none, none, none, rfl, s23, e4, Nat.le_refl _⟩ ?_ ?_
    · rintro i σ M hi ⟨ds, v5, v6, v7, v8, v9, rfl, sM, hf, hdl⟩
      simpa only [and_self]
      have ec := sM _ _ e2
      have cp : (0 : Int) < (((cs.map V.int).length : Nat) : Int) := by rw [List.length_map]; omega
      have x0 := Int.emod_nonneg (0 + (i : Int)) (show (((cs.map V.int).length : Nat) : Int) ≠ 0 by omega)
      have x1 := Int.emod_lt_of_pos (0 + (i : Int)) cp
      obtain ⟨v, hv⟩ := atI_ints (ns := cs) x0 (by rw [List.length_map] at x1 ⊢; exact x1)
      refine ⟨.inl ⟨by omega, by omega⟩, .inr ⟨by decide, by decide⟩, _, .inl (SqL.of ec), cp, _, SqL.of ec, _, hv, _, rfl, by decide, .inr ⟨by decide, by decide⟩, by decide, cmul_mod (by decide) (by decide), .inl ⟨by decide, by decide⟩, by decide, .inl ⟨rfl, _, SqL.of hf⟩, cmul_mod (by decide) (by decide), by decide, _, hf, small1000 (by rw [List.length_map]; omega), ?_⟩
      exact ⟨ds ++ [d31 _], _, _, _, _, _, rfl, sM.newer hfo _, by rw [upd_same, List.map_append]; rfl, by rw [List.length_append, List.length_singleton]; omega⟩
    · rintro σ M ⟨ds, v5, v6, v7, v8, v9, rfl, sM, hf, hdl⟩
      simpa only [and_self]
      exact q fo ds M (s2.trans sM) fH hf
end
def spSmall : Sp := fun vs H Q _ => ∃ c : Nat, vs = [.str ⟨#[c]⟩] ∧ Q (.bl (decide (97 ≤ c ∧ c ≤ 122))) H
theorem lt1 (a b : Nat) : decide ([a] < [b]) = decide (a < b) := by
  by_cases h : a < b
  · rw [decide_eq_true h]
    exact decide_eq_true (List.cons_lt_cons_iff.mpr (.inl h))
  · rw [decide_eq_false h]
    refine decide_eq_false fun q => ?_
    rcases List.cons_lt_cons_iff.mp q with q | ⟨_, q⟩
    · exact h q
    · cases q
theorem cs1 (c : Nat) : (⟨#[c]⟩ : Str).cps.toList = [c] := rfl
theorem csa : ("a" : Str).cps.toList = [97] := by decide +kernel
theorem csz : ("z" : Str).cps.toList = [122] := by decide +kernel
theorem cs0 : ("0" : Str).cps.toList = [48] := by decide +kernel
theorem cs9 : ("9" : Str).cps.toList = [57] := by decide +kernel
section
variable {P : Program} {w : World} {K : PySem.W.Frag} {mg : Str → Option Value} {base : Heap} {f : Addr} {fd : FuncData}
theorem scSmall : FnScope ["sign"] ["sign"] (defScope sSmall) := ⟨rfl, rfl, rfl, by decide +kernel, rfl, by decide +kernel, by decide +kernel⟩
theorem ok_small (F : Fun K "is_small_letter" "is_small_letter" sSmall f fd) : FnOk P w K mg base CX0 1 f fd ["sign"] spSmall := by
  refine F.ok scSmall (fun vs H Q E h => ?_) (fun cdv A outer s H vs Q E hr h => ?_)
  · obtain ⟨c, rfl, _⟩ := h
    rfl
  obtain ⟨c, rfl, q⟩ := h
  refine ⟨_, (pss_one (ps_ret (pe_chain op_le_str op_le_str pe_str (pv 0) pe_str))), ?_⟩
  simpa only [V.str.injEq]
  simp only [csa, csz, cs1, lt1]
  refine ite2 (fun h1 => ?_) (fun h1 => ?_)
  · have e : (!decide (122 < c)) = decide (97 ≤ c ∧ c ≤ 122) := by
      rw [Bool.eq_iff_iff]; simp at h1 ⊢; omega
    rw [e]; exact q
  · have e : false = decide (97 ≤ c ∧ c ≤ 122) := by
      symm; apply decide_eq_false; simp at h1; omega
    rw [e]; exact q
def isFig (c : Nat) : Bool := decide (48 ≤ c ∧ c ≤ 57)
def isTx (c : Nat) : Bool := decide (32 ≤ c ∧ c ≤ 126 ∧ c ≠ 37)
def spFig : Sp := fun vs H Q _ => ∃ c : Nat, vs = [.str ⟨#[c]⟩] ∧ Q (.bl (isFig c)) H
def spTx : Sp := fun vs H Q _ => ∃ c : Nat, vs = [.str ⟨#[c]⟩] ∧ Q (.bl (isTx c)) H
theorem cSp : (" " : Str).cps.toList = [32] := by decide +kernel
theorem cTl : ("~" : Str).cps.toList = [126] := by decide +kernel
theorem scFig : FnScope ["sign"] ["sign"] (defScope sFig) := ⟨rfl, rfl, rfl, by decide +kernel, rfl, by decide +kernel, by decide +kernel⟩
theorem ok_fig (F : Fun K "is_figure" "is_figure" sFig f fd) : FnOk P w K mg base CX0 1 f fd ["sign"] spFig := by
  refine F.ok scFig (fun vs H Q E h => ?_) (fun cdv A outer s H vs Q E hr h => ?_)
  · obtain ⟨c, rfl, _⟩ := h
    rfl
  obtain ⟨c, rfl, q⟩ := h
  refine ⟨_, (pss_one (ps_ret (pe_chain op_le_str op_le_str pe_str (pv 0) pe_str))), ?_⟩
  simpa only [V.str.injEq]
  simp only [cs0, cs9, cs1, lt1]
  unfold isFig at q
  refine ite2 (fun h1 => ?_) (fun h1 => ?_)
  · have e : (!decide (57 < c)) = decide (48 ≤ c ∧ c ≤ 57) := by
      rw [Bool.eq_iff_iff]; simp at h1 ⊢; omega
    rw [e]; exact q
  · have e : false = decide (48 ≤ c ∧ c ≤ 57) := by
      symm; apply decide_eq_false; simp at h1; omega
    rw [e]; exact q
theorem scTS : FnScope ["sign"] ["sign"] (defScope sTS) := ⟨rfl, rfl, rfl, by decide +kernel, rfl, by decide +kernel, by decide +kernel⟩
theorem ok_ts (F : Fun K "is_text_sign" "is_text_sign" sTS f fd) (T : Txt mg) : FnOk P w K mg base CX0 1 f fd ["sign"] spTx := by
  refine F.ok scTS (fun vs H Q E h => ?_) (fun cdv A outer s H vs Q E hr h => ?_)
  · obtain ⟨c, rfl, _⟩ := h
    rfl
  obtain ⟨c, rfl, q⟩ := h
  obtain ⟨tN, hNS⟩ := T.noS
  refine ⟨_, (pss_one (ps_ret (pe_and (pe_chain op_le_str op_le_str pe_str (pv 0) pe_str) (pe_one (pe_cmpR op_ne (pe_callB call_ord rfl T.ord (by decide +kernel) (pa_cons (pv 0) pa_nil)) (pe_gint rfl hNS) (nomark _)))))), ?_⟩
  simpa only [V.str.injEq]
  simp only [cSp, cTl, cs1, lt1]
  unfold isTx at q
  refine ite2 (fun h1 => ite2 (fun h2 => ⟨rfl, ?_⟩) fun h2 => ?_) fun h1 => ?_
  · have e : (!decide (((#[c].getD 0 0 : Nat) : Int) = 37)) = decide (32 ≤ c ∧ c ≤ 126 ∧ c ≠ 37) := by
      have e0 : #[c].getD 0 0 = c := rfl
      rw [e0, Bool.eq_iff_iff]; simp at h1 h2 ⊢; omega
    rw [e]; exact q
  · have e : false = decide (32 ≤ c ∧ c ≤ 126 ∧ c ≠ 37) := by
      symm; apply decide_eq_false; simp at h2; omega
    rw [e]; exact q
  · have e : false = decide (32 ≤ c ∧ c ≤ 126 ∧ c ≠ 37) := by
      symm; apply decide_eq_false; simp at h1; omega
    rw [e]; exact q
end
abbrev Fld := Str × Str
def dvF (x : Fld) : DV := .tup [.str x.1, .str x.2]
def lower1 (c : Nat) : Bool := decide (97 ≤ c ∧ c ≤ 122)
def okNm (z : Str) : Bool := decide (1 ≤ z.length ∧ z.length ≤ 12) && z.cps.toList.all lower1
def badF (prev f : Str) : Bool := !okNm f || !decide (prev.cps.toList < f.cps.toList)
def dw (prev : Str) (j : Nat) : List Fld → Option Nat
  | [] => none
  | x :: r => if badF prev x.1 = true then some j else dw x.1 (j + 1) r
def spName : Sp := fun vs H Q _ => ∃ z : Str, vs = [.str z] ∧ z.length ≤ 1000 ∧ ∀ H', Same H H' → Q (.bl (okNm z)) H'
def WrongAt (C : Addr) (k : Nat) (H : Hp) (E : XK) : Prop := ∀ e dx H', Same H H' → H e = none → H' e = some (XO e (.ref C) (some dx)) → H' dx = some (.xd [("place", .int (k : Int))]) → E (.ref e) none H'
def spLook (NF : Addr) : Sp := fun vs H Q E => ∃ (a : Addr) (d : List Fld) (xs : List V), vs = [.ref a] ∧ H a = some (.lst xs) ∧ DeepTs H (d.map dvF) xs ∧ d.length ≤ 1000 ∧ (∀ x ∈ d, x.1.length ≤ 1000) ∧
  match dw "" 0 d with
  | none => ∀ H', Same H H' → Q .non H'
  | some k => WrongAt NF k H E
theorem dvF_at {H : Hp} {x : Fld} {v : V} (h : DeepT H (dvF x) v) : ∃ a, v = .ref a ∧ H a = some (.tup [.str x.1, .str x.2]) := by
  rw [dvF, DeepT] at h
  obtain ⟨a, us, rfl, ha, hus⟩ := h
  refine ⟨a, rfl, ?_⟩
  rw [ha]
  rw [DeepTs] at hus
  obtain ⟨y, ys, rfl, hy, hus⟩ := hus
  rw [DeepTs] at hus
  obtain ⟨y2, ys2, rfl, hy2, hus⟩ := hus
  rw [DeepTs] at hus
  rw [DeepT] at hy
  rw [DeepT] at hy2
  rw [hy, hy2, hus]
section
variable {P : Program} {w : World} {K : PySem.W.Frag} {mg : Str → Option Value} {base : Heap} {f : Addr} {fd : FuncData}
theorem scName : FnScope ["text"] ["text"] (defScope sName) := ⟨rfl, rfl, rfl, by decide +kernel, rfl, by decide +kernel, by decide +kernel⟩
def invN (z : Str) (H : Hp) (i : Nat) (ys : List V) (σ : St) (L : Hp) : Prop := ∃ v0 : Option V, ys = ((z.cps.toList.take i).map lower1).map V.bl ∧ L = H ∧ σ = [v0]
theorem ok_name {g : Addr} {gd : FuncData} (F : Fun K "is_name" "is_name" sName f fd) (T : Txt mg) (GS : FnOk P w K mg base CX0 1 g gd ["sign"] spSmall) (bS : Binds K gd ["sign"] []) (kS : PySem.W.keepIn K (.ref g) = true) (mS : mg "is_small_letter" = some (.ref g)) : FnOk P w K mg base CX0 2 f fd ["text"] spName := by
  refine F.ok scName (fun vs H Q E h => ?_) (fun cdv A outer s H vs Q E hr h => ?_)
  · obtain ⟨z, rfl, _⟩ := h
    rfl
  obtain ⟨z, rfl, hz, q⟩ := h
  obtain ⟨tM, hM⟩ := T.most
  refine ⟨_, (pss_one (ps_ret (pe_and (pe_chain op_le op_le pe_int (pe_callB call_len_str rfl T.len PySem.boot_len (pa_cons (pv 0) pa_nil)) (pe_gint rfl hM)) (pe_one (pe_callB (call_all K rfl) rfl T.all (by decide +kernel) (pa_cons (pe_comp (N := ["sign"]) (pick := [none]) (NX := ["text"]) (sX := defScope sName) (by decide +kernel) rfl rfl rfl (pi_str (pv 0))
        (fun _ _ _ _ => (pg_name (i := 0) (by decide +kernel : (["sign"] : List Str).Nodup) rfl (Or.inl rfl))) (fun _ _ _ _ => pifs_nil) (fun _ _ _ _ => (pe_call GS hr rfl mS kS bS .nil pass0 (pa_cons (pv 0) pa_nil)))) pa_nil)))))), ?_⟩
  simpa only [iStr]
  have hsz : z.length ≤ sizeLine := small hz
  have bad : ¬ (1 ≤ z.length ∧ z.length ≤ 12) → Q (.bl false) H := fun n => by
    have e : okNm z = false := by unfold okNm; rw [decide_eq_false n, Bool.false_and]
    have := q H (Same.refl _)
    rw [e] at this
    exact this
  refine ⟨hsz, ite2 (fun c1 => ite2 (fun c2 => ?_) fun c2 => bad ?_) fun c1 => bad ?_⟩
  · have d1 := of_decide_eq_true c1
    have d2 := of_decide_eq_true c2
    refine compW_str (invN z H) ⟨none, rfl, rfl, rfl⟩ ?_ ?_ ?_
    · rintro i ys σ L hi ⟨v0, rfl, rfl, rfl⟩
      rw [List.length_map, List.length_map, List.length_take]
      exact small (by omega)
    · rintro i c ys σ L hc ⟨v0, rfl, rfl, rfl⟩
      simpa only [spSmall]
      refine ⟨c, rfl, _, ?_, rfl, rfl⟩
      rw [List.take_add_one, hc, List.map_append, List.map_append]
      rfl
    · rintro ys σ L ⟨v0, rfl, rfl, rfl⟩ p hp
      rw [← slen, List.take_length]
      refine ⟨p, rfl, _, SqL.of upd_same, ?_⟩
      have e : okNm z = ((z.cps.toList.map lower1).all id) := by
        unfold okNm
        rw [decide_eq_true (by omega), Bool.true_and, List.all_map]
        rfl
      rw [← e]
      exact q _ (same_new hp _)
  · have := of_decide_eq_false (Bool.eq_false_iff.mpr c2); omega
  · have := of_decide_eq_false (Bool.eq_false_iff.mpr c1); omega
theorem scLook : FnScope ["document", "ahead", "place", "pair", "field"] ["document"] (defScope sLook) := ⟨rfl, rfl, rfl, by decide +kernel, rfl, by decide +kernel, by decide +kernel⟩
def invK (a : Addr) (d : List Fld) (H : Hp) (i : Nat) (σ : St) (L : Hp) : Prop := ∃ (prev : Str) (v2 v3 v4 : Option V), σ = [some (.ref a), some (.str prev), v2, v3, v4] ∧ Same H L ∧ dw "" 0 d = dw prev i (d.drop i)
theorem ok_look {NF FE fI gn : Addr} {dI dn : FuncData} (F : Fun K "look_at_document" "look_at_document" sLook f fd) (T : Txt mg) (GN : FnOk P w K mg base CX0 2 gn dn ["text"] spName) (bN : Binds K dn ["text"] []) (kN : PySem.W.keepIn K (.ref gn) = true) (mN : mg "is_name" = some (.ref gn))
    (xcF : XCls K NF FE) (hiF : PySem.W.findIn K (.ref NF) "__init__" = some (some (.ref fI))) (hfF : PySem.W.isFn K (.ref fI) = true) (hkF : PySem.W.keepIn K (.ref NF) = true) (hnF : PySem.W.findIn K (.ref NF) "place" = some none)
    (GF : FnOk P w K mg base CX0 1 fI dI ["self", "place"] (spXInit K "place")) (bF : Binds K dI ["self", "place"] []) (mF : mg "NoField" = some (.ref NF)) : FnOk P w K mg base (CXe P w) 3 f fd ["document"] (spLook NF) := by
  refine F.okX scLook (fun vs H Q E h => ?_) (fun cdv A outer s H vs Q E hr h => ?_)
  · obtain ⟨a, d, xs, rfl, _⟩ := h
    rfl
  obtain ⟨a, d, xs, rfl, ha, hd, hl, hfl, q⟩ := h
  have hr2 : Room 2 _ := hr
  refine ⟨_, (pss_cons (ps_set (i := 1) scLook.nd rfl (Or.inl rfl) pe_str)
    (pss_one (ps_for PassesOwn.leaving rfl (pi_enum rfl T.enumerate (pa_cons (pv 0) pa_nil)) (pgT K (n := 2) rfl (pgs_cons (pg_name (i := 2) scLook.nd rfl (Or.inl rfl)) (pgs_cons (pg_name (i := 3) scLook.nd rfl (Or.inl rfl)) pgs_nil)))
      (pss_cons (ps_set (i := 4) scLook.nd rfl (Or.inl rfl) (pe_ix (ixT K) (pv 3) pe_int (fun _ _ => rfl)))
    (pss_cons (ps_if (PW.pt (pw_or (pt_not (pt_val (pe_call GN hr rfl mN kN bN .nil pass0 (pa_cons (pv 4) pa_nil)))) (pw_or1 (pt_cmpR op_le_str (pv 4) (pv 1) (nomark _))))) (pss_one (ps_raiseI xcF hiF hfF hkF hnF GF hr2 bF rfl mF (pa_cons (pv 2) pa_nil))) pss_nil)
    (pss_one (ps_set (i := 1) scLook.nd rfl (Or.inl rfl) (pv 4)))))))), ?_⟩
  simpa only [and_self]
  refine ⟨⟨_, SqL.of ha⟩, forW_enum xs (invK a d H) ⟨"", none, none, none, rfl, Same.refl _, by rw [List.drop_zero]⟩ ?_ ?_ ?_⟩
  · rintro i σ L hi ⟨prev, v2, v3, v4, rfl, sL, hw⟩
    exact SqL.of (sL _ _ ha)
  · rintro i y T σ L hy ⟨prev, v2, v3, v4, rfl, sL, hw⟩ hT
    obtain ⟨dv, h1, h2⟩ := hd.get hy
    rw [List.getElem?_map] at h1
    obtain ⟨x, hx, rfl⟩ := Option.map_eq_some_iff.mp h1
    obtain ⟨b, rfl, hb⟩ := dvF_at h2
    have hb' : (upd L T (.tup [.int i, .ref b])) b = some (.tup [.str x.1, .str x.2]) := upd_at (sL _ _ hb) hT
    have sT : Same H (upd L T (.tup [.int i, .ref b])) := sL.trans (same_new hT _)
    have hil : i < d.length := (List.getElem?_eq_some_iff.mp hx).1
    have hdr : d.drop i = x :: d.drop (i + 1) := by
      rw [List.drop_eq_getElem_cons hil]
      congr 1
      exact (List.getElem?_eq_some_iff.mp hx).2
    have hxm : x ∈ d := List.mem_of_getElem? hx
    simpa only [spName, tRaise]
    refine ⟨_, SqT.of upd_same, rfl, ?_⟩
    simpa only [spName, tRaise]
    refine ⟨_, SqT.of hb', _, rfl, _, rfl, hfl x hxm, fun H2 s2 => ?_⟩
    have s02 : Same H H2 := sT.trans s2
    have wr : badF prev x.1 = true → WrongAt NF i H2 E := fun hbad => by
      rw [hdr, dw, if_pos hbad] at hw
      rw [hw] at q
      exact fun e dx H' z1 z2 z3 z4 => q e dx H' (s02.trans z1) (s02.free z2) z3 z4
    refine ite2 (fun c1 => fun e dx H' z1 z2 _ z3 z4 => wr ?_ e dx H' z1 z2 z3 z4) fun c1 => ⟨_, rfl, ite2 (fun c2 => fun e dx H' z1 z2 _ z3 z4 => wr ?_ e dx H' z1 z2 z3 z4) fun c2 => ⟨x.1, _, _, _, rfl, s02, ?_⟩⟩
    · unfold badF; rw [c1, Bool.true_or]
    · unfold badF; rw [c2, Bool.or_true]
    · rw [hw, hdr, dw, if_neg]
      unfold badF
      intro z
      rcases Bool.or_eq_true _ _ ▸ z with z | z
      · exact c1 z
      · exact c2 z
  · rintro σ L ⟨prev, v2, v3, v4, rfl, sL, hw⟩
    have hl' : xs.length = d.length := by have := hd.length; rwa [List.length_map] at this
    rw [hl', List.drop_length] at hw
    rw [hw] at q
    exact q L sL
theorem scXF : FnScope ["self", "place"] ["self", "place"] (defScope sXF) := ⟨rfl, rfl, rfl, by decide +kernel, rfl, by decide +kernel, by decide +kernel⟩
theorem ok_xinitF (F : Fun K "__init__" "NoField.__init__" sXF f fd) : FnOk P w K mg base CX0 1 f fd ["self", "place"] (spXInit K "place") := by
  refine F.ok scXF (fun vs H Q E h => ?_) (fun cdv A outer s H vs Q E hr h => ?_)
  · obtain ⟨e, C, FE, y, rfl, _⟩ := h
    rfl
  obtain ⟨e, C, FE, y, rfl, he, xc, hn, q⟩ := h
  refine ⟨_, pss_one (ps_xfld (pv 0) (pv 1) rfl), ?_⟩
  exact ⟨_, rfl, _, rfl, e, C, FE, rfl, he, xc, hn, q⟩
end
theorem cQ : ("'" : Str) = ⟨#[39]⟩ := by decide +kernel
theorem cQQ : ("''" : Str) = ⟨#[39, 39]⟩ := by decide +kernel
theorem cCQ : (":'" : Str) = ⟨#[58, 39]⟩ := by decide +kernel
theorem cBl : (" " : Str) = ⟨#[32]⟩ := by decide +kernel
theorem cNone : ("none" : Str).cps.toList = [110, 111, 110, 101] := by decide +kernel
theorem sx {a b : Str} (h : a.cps.toList = b.cps.toList) : a = b := by
  obtain ⟨a⟩ := a
  obtain ⟨b⟩ := b
  congr 1
  exact Array.toList_inj.mp h
theorem app_cps (a b : Str) : (a ++ b).cps.toList = a.cps.toList ++ b.cps.toList := by
  show (a.cps ++ b.cps).toList = _
  simp
def spShF : Sp := fun vs H Q _ => ∃ (f t : Str), vs = [.str f, .str t] ∧ f.length ≤ 1000 ∧ t.length ≤ 1000 ∧ ∀ z : Str, z.cps.toList = fieldL (pairL (f, t)) → Q (.str z) H
def spRTS : Sp := fun vs H Q _ => ∃ (z t : Str), vs = [.str z] ∧ z.cps.toList = dblL t.cps.toList ∧ Asc t ∧ t.length ≤ 1000 ∧ ∀ H', Same H H' → Q (.str t) H'
section
variable {P : Program} {w : World} {K : PySem.W.Frag} {mg : Str → Option Value} {base : Heap} {f : Addr} {fd : FuncData}
theorem scShF : FnScope ["field", "text", "doubled"] ["field", "text"] (defScope sShF) := ⟨rfl, rfl, rfl, by decide +kernel, rfl, by decide +kernel, by decide +kernel⟩
theorem repl_dbl (t : Str) : (Txt.replace t "'" "''").cps.toList = dblL t.cps.toList := by
  rw [cQ, cQQ, replace_rep t ⟨#[39]⟩ ⟨#[39, 39]⟩ (by simp)]
  exact rep_dbl _ _ (by rw [slen]; omega)
theorem repl_und (z t : Str) (h : z.cps.toList = dblL t.cps.toList) : Txt.replace z "''" "'" = t := by
  apply sx
  rw [cQ, cQQ, replace_rep z ⟨#[39, 39]⟩ ⟨#[39]⟩ (by simp), h]
  have hl := (dblL_le t.cps.toList).1
  have : (dblL t.cps.toList).length = z.length := by rw [← h, slen]
  exact rep_undbl _ _ (by omega)
theorem ok_shf (F : Fun K "show_field" "show_field" sShF f fd) : FnOk P w K mg base CX0 1 f fd ["field", "text"] spShF := by
  refine F.ok scShF (fun vs H Q E h => ?_) (fun cdv A outer s H vs Q E hr h => ?_)
  · obtain ⟨g, t, rfl, _⟩ := h
    rfl
  obtain ⟨g, t, rfl, hg, ht, q⟩ := h
  refine ⟨_, (pss_cons (ps_set (i := 2) scShF.nd rfl (Or.inl rfl) (pe_repl K (pv 1)))
    (pss_one (ps_ret (pe_fstr (ts := [tFv (tVar 0), tC (.str ":'"), tFv (tVar 2), tC (.str "'")]) ⟨pe_fv (pv 0), pe_str, pe_fv (pv 2), pe_str, trivial⟩)))), ?_⟩
  simpa only [tRepl, tJ, tFv]
  have e := repl_dbl t
  have el : (Txt.replace t "'" "''").length ≤ 2000 := by rw [← slen, e]; have := (dblL_le t.cps.toList).2; rw [slen] at this; omega
  generalize Txt.replace t "'" "''" = d at e el ⊢
  have lA : ∀ a b : Str, (a ++ b).length = a.length + b.length := fun a b => by rw [← slen, app_cps, List.length_append, slen, slen]
  have l0 : Str.empty.length = 0 := rfl
  have l1 : (":'" : Str).length = 2 := by decide +kernel
  have l2 : ("'" : Str).length = 1 := by decide +kernel
  have sz := sizeLine_eq
  refine ⟨by omega, by decide +kernel, by decide +kernel, by omega, by rw [lA]; omega, by rw [lA, lA]; omega, by omega, by rw [lA, lA, lA]; omega, by rw [lA, lA, lA, lA]; omega, by rw [lA, lA, lA, lA]; omega, q _ ?_⟩
  rw [app_cps, app_cps, app_cps, app_cps, e, cCQ, cQ]
  unfold fieldL pairL
  show ([] ++ g.cps.toList ++ [58, 39] ++ dblL t.cps.toList) ++ [39] = _
  simp
theorem scRTS : FnScope ["shown"] ["shown"] (defScope sRTS) := ⟨rfl, rfl, rfl, by decide +kernel, rfl, by decide +kernel, by decide +kernel⟩
def invTs (z : Str) (H : Hp) (i : Nat) (ys : List V) (σ : St) (L : Hp) : Prop := ∃ v0 : Option V, ys = ((z.cps.toList.take i).map isTx).map V.bl ∧ L = H ∧ σ = [v0]
theorem ok_rts {g : Addr} {gd : FuncData} (F : Fun K "read_text_signs" "read_text_signs" sRTS f fd) (T : Txt mg) (GTs : FnOk P w K mg base CX0 1 g gd ["sign"] spTx) (bTs : Binds K gd ["sign"] []) (kTs : PySem.W.keepIn K (.ref g) = true) (mTs : mg "is_text_sign" = some (.ref g)) : FnOk P w K mg base CX0 2 f fd ["shown"] spRTS := by
  refine F.ok scRTS (fun vs H Q E h => ?_) (fun cdv A outer s H vs Q E hr h => ?_)
  · obtain ⟨z, t, rfl, _⟩ := h
    rfl
  obtain ⟨z, t, rfl, hz, hA, hl, q⟩ := h
  have zl : z.length ≤ 2000 := by rw [← slen, hz]; have := (dblL_le t.cps.toList).2; rw [slen] at this; omega
  refine ⟨_, (pss_cons (ps_if (pt_not (pt_val (pe_callB (call_all K rfl) rfl T.all (by decide +kernel) (pa_cons (pe_comp (N := ["sign"]) (pick := [none]) (NX := ["shown"]) (sX := defScope sRTS) (by decide +kernel) rfl rfl rfl (pi_str (pv 0))
        (fun _ _ _ _ => (pg_name (i := 0) (by decide +kernel : (["sign"] : List Str).Nodup) rfl (Or.inl rfl))) (fun _ _ _ _ => pifs_nil) (fun _ _ _ _ => (pe_call GTs hr rfl mTs kTs bTs .nil pass0 (pa_cons (pv 0) pa_nil)))) pa_nil)))) (pss_one ps_never) pss_nil)
    (pss_one (ps_ret (pe_repl K (pv 0))))), ?_⟩
  simpa only [iStr, tRepl]
  refine compW_str (invTs z H) ⟨none, rfl, rfl, rfl⟩ ?_ ?_ ?_
  · rintro i ys σ L hi ⟨v0, rfl, rfl, rfl⟩
    rw [List.length_map, List.length_map, List.length_take, sizeLine_eq, slen]
    omega
  · rintro i c ys σ L hc ⟨v0, rfl, rfl, rfl⟩
    simpa only [spTx]
    refine ⟨c, rfl, _, ?_, rfl, rfl⟩
    rw [List.take_add_one, hc, List.map_append, List.map_append]
    rfl
  · rintro ys σ L ⟨v0, rfl, rfl, rfl⟩ p hp
    rw [← slen, List.take_length]
    refine ⟨p, rfl, _, SqL.of upd_same, ?_⟩
    have e : ((z.cps.toList.map isTx).all id) = true := by
      rw [List.all_map, List.all_eq_true]
      intro c hc
      rw [hz] at hc
      have := hA c (dblL_mem hc)
      exact decide_eq_true this
    rw [e]
    refine iteF ⟨by rw [slen]; omega, by decide +kernel, by decide +kernel, ?_⟩
    rw [repl_und z t hz]
    exact q _ (same_new hp _)
theorem int_of {z : Str} {n : Int} (hz : z.cps.toList = digs n) (n0 : 0 ≤ n) (n1 : n < 10 ^ 60) : PySem.intText? z = some n := by
  have hf := digs_fig n0
  have hl := digs_len n0 n1
  have e := PySem.intText_digits (x := z) (fun c hc => by rw [hz] at hc; exact hf c hc) (fun h => by rw [hz] at h; rw [h] at hl; simp at hl) (by rw [← slen, hz]; omega)
  obtain ⟨m, rfl⟩ := Int.eq_ofNat_of_zero_le n0
  rw [hz, digs_nat, PySem.W.KIN.val_back] at e
  exact e
theorem scRF : FnScope ["shown"] ["shown"] (defScope sRF) := ⟨rfl, rfl, rfl, by decide +kernel, rfl, by decide +kernel, by decide +kernel⟩
def invFg (z : Str) (H : Hp) (i : Nat) (ys : List V) (σ : St) (L : Hp) : Prop := ∃ v0 : Option V, ys = ((z.cps.toList.take i).map isFig).map V.bl ∧ L = H ∧ σ = [v0]
def numB (l : List Nat) : Bool := decide (1 ≤ l.length ∧ l.length ≤ 60) && l.all isFig && (decide (l.length ≤ 1) || decide (l.head? ≠ some 48))
theorem numB_digs {n : Int} (n0 : 0 ≤ n) (n1 : n < 10 ^ 60) : numB (digs n) = true := by
  have hl := digs_len n0 n1
  unfold numB
  rw [Bool.and_eq_true, Bool.and_eq_true, Bool.or_eq_true]
  refine ⟨⟨decide_eq_true hl, List.all_eq_true.mpr fun c hc => decide_eq_true (digs_fig n0 c hc)⟩, ?_⟩
  by_cases h : (digs n).length ≤ 1
  · exact .inl (decide_eq_true h)
  · exact .inr (decide_eq_true (digs_lead n0 (by omega)))
def Bad0 (NT : Addr) (H : Hp) (E : XK) : Prop := ∀ e H', Same H H' → H e = none → H' e = some (XO e (.ref NT) none) → E (.ref e) none H'
theorem Bad0.on {NT : Addr} {H L : Hp} {E : XK} (b : Bad0 NT H E) (s : Same H L) : Bad0 NT L E := fun e H' s' he hx => b e H' (s.trans s') (s.free he) hx
def spRF (NL : Addr) : Sp := fun vs H Q E => ∃ z : Str, vs = [.str z] ∧ z.length ≤ 100000 ∧ (∀ n : Int, 0 ≤ n → n < 10 ^ 60 → z.cps.toList = digs n → ∀ H', Same H H' → Q (.int n) H') ∧ (numB z.cps.toList = false → Bad0 NL H E)
theorem ok_rf {g NL FE : Addr} {gd : FuncData} (F : Fun K "read_figures" "read_figures" sRF f fd) (T : Txt mg) (xc : XCls0 K NL FE) (kX : PySem.W.keepIn K (.ref NL) = true) (mX : mg "NoLine" = some (.ref NL)) (GFg : FnOk P w K mg base CX0 1 g gd ["sign"] spFig) (bFg : Binds K gd ["sign"] []) (kFg : PySem.W.keepIn K (.ref g) = true) (mFg : mg "is_figure" = some (.ref g)) : FnOk P w K mg base (CXe P w) 2 f fd ["shown"] (spRF NL) := by
  refine F.okX scRF (fun vs H Q E h => ?_) (fun cdv A outer s H vs Q E hr h => ?_)
  · obtain ⟨z, rfl, _⟩ := h
    rfl
  obtain ⟨z, rfl, hz, q, qb⟩ := h
  obtain ⟨tM, hMF⟩ := T.mostF
  refine ⟨_, (pss_cons (ps_if (PW.pt (pw_or (pt_not (pt_chain op_le op_le pe_int (pe_callB call_len_str rfl T.len PySem.boot_len (pa_cons (pv 0) pa_nil)) (pe_gint rfl hMF))) (pw_or1 (pt_not (pt_val (pe_callB (call_all K rfl) rfl T.all (by decide +kernel) (pa_cons (pe_comp (N := ["sign"]) (pick := [none]) (NX := ["shown"]) (sX := defScope sRF) (by decide +kernel) rfl rfl rfl (pi_str (pv 0))
        (fun _ _ _ _ => (pg_name (i := 0) (by decide +kernel : (["sign"] : List Str).Nodup) rfl (Or.inl rfl))) (fun _ _ _ _ => pifs_nil) (fun _ _ _ _ => (pe_call GFg hr rfl mFg kFg bFg .nil pass0 (pa_cons (pv 0) pa_nil)))) pa_nil))))))) (pss_one (ps_raise0 xc kX rfl mX (pa_cons pe_str pa_nil))) pss_nil)
    (pss_cons (ps_if (PW.pt (pw_and (pt_cmpR op_gt (pe_callB call_len_str rfl T.len PySem.boot_len (pa_cons (pv 0) pa_nil)) pe_int (nomark _)) (pw_and1 (pt_cmpR op_eq (pe_ix ix_str (pv 0) pe_int (fun _ _ => rfl)) pe_str (nomark _))))) (pss_one (ps_raise0 xc kX rfl mX (pa_cons pe_str pa_nil))) pss_nil)
    (pss_one (ps_ret (pe_callTy call_intT rfl T.int (by decide +kernel) (pa_cons (pv 0) pa_nil)))))), ?_⟩
  simpa only [iStr, tRaise0]
  have zs : z.length ≤ sizeLine := by rw [sizeLine_eq]; omega
  have bad : ¬ (1 ≤ z.length ∧ z.length ≤ 60) → Bad0 NL H E := fun n => qb (by
    unfold numB
    rw [slen, decide_eq_false n]
    rfl)
  refine ⟨zs, ite2 (fun c1 => ite2 (fun c2 => bad fun y => ?_) fun c2 => ?_) fun c1 => iteT (bad fun y => c1 (decide_eq_true (by omega)))⟩
  · rw [decide_eq_true (show (z.length : Int) ≤ 60 by omega)] at c2
    cases c2
  have d1 := of_decide_eq_true c1
  have d2 : (z.length : Int) ≤ 60 := by
    cases h : decide ((z.length : Int) ≤ 60) with
    | true => exact of_decide_eq_true h
    | false => rw [h] at c2; exact absurd rfl c2
  refine compW_str (invFg z H) ⟨none, rfl, rfl, rfl⟩ ?_ ?_ ?_
  · rintro i ys σ L hi ⟨v0, rfl, rfl, rfl⟩
    rw [List.length_map, List.length_map, List.length_take, sizeLine_eq, slen]
    omega
  · rintro i c ys σ L hc ⟨v0, rfl, rfl, rfl⟩
    simpa only [spFig]
    refine ⟨c, rfl, _, ?_, rfl, rfl⟩
    rw [List.take_add_one, hc, List.map_append, List.map_append]
    rfl
  · rintro ys σ L ⟨v0, rfl, rfl, rfl⟩ p hp
    have et : z.cps.toList.take z.length = z.cps.toList := by rw [← slen, List.take_length]
    rw [et]
    have sP := same_new hp (.lst ((z.cps.toList.map isFig).map V.bl))
    refine ⟨p, rfl, _, SqL.of upd_same, ite2 (fun c3 => (qb ?_).on sP) fun c3 => ⟨zs, ?_⟩⟩
    · unfold numB
      rw [List.all_map] at c3
      have c3' : z.cps.toList.all isFig = false := by
        cases h : z.cps.toList.all isFig with
        | false => rfl
        | true => rw [show z.cps.toList.all (id ∘ isFig) = z.cps.toList.all isFig from rfl, h] at c3; cases c3
      rw [c3', Bool.and_false, Bool.false_and]
    have c3' : z.cps.toList.all isFig = true := by
      cases h : z.cps.toList.all isFig with
      | true => rfl
      | false => rw [List.all_map, show z.cps.toList.all (id ∘ isFig) = z.cps.toList.all isFig from rfl, h] at c3; exact absurd rfl c3
    have lead : (1 < z.length → z.cps.toList.head? ≠ some 48) → z.length ≤ 640 ∧ ∃ x, PySem.intText? z = some x ∧ Q (V.int x) (upd L p (.lst ((z.cps.toList.map isFig).map V.bl))) := fun hq => by
      obtain ⟨n, n0, n1, hn⟩ := digs_of (l := z.cps.toList) (by rw [slen]; omega) (by rw [slen]; omega) (fun c hc => of_decide_eq_true (List.all_eq_true.mp c3' c hc)) (by rw [slen]; exact hq)
      exact ⟨by omega, n, int_of hn.symm n0 n1, q n n0 n1 hn.symm _ sP⟩
    refine ite2 (fun c4 => ?_) fun c4 => lead fun y => absurd (decide_eq_true (show (1 : Int) < (z.length : Int) by omega)) c4
    have d4 := of_decide_eq_true c4
    cases hc : z.cps.toList with
    | nil => have := slen z; rw [hc] at this; simp at this; omega
    | cons x r =>
      refine ⟨zs, x, atI_nat (j := 0) rfl, ite2 (fun c5 => ?_) fun c5 => ?_⟩
      · have e4 := of_decide_eq_true c5
        have e5 : [x] = [48] := by
          have : (⟨#[x]⟩ : Str).cps.toList = ("0" : Str).cps.toList := by rw [e4]
          rw [cs0] at this
          exact this
        rw [← hc]
        refine (qb ?_).on sP
        unfold numB
        rw [slen, decide_eq_false (show ¬ z.length ≤ 1 by omega), hc, List.head?_cons, (List.cons.inj e5).1]
        simp
      · rw [← hc]
        refine lead fun _ y => c5 (decide_eq_true ?_)
        rw [hc, List.head?_cons] at y
        apply sx
        rw [cs0, Option.some.inj y]
end
theorem drop_add {l : List Nat} {i : Nat} {a b : List Nat} (h : l.drop i = a ++ b) : l.drop (i + a.length) = b := by
  rw [← List.drop_drop, h, List.drop_left]

def spEoT (NL : Addr) : Sp := fun vs H Q E => ∃ (z : Str) (b : Nat), vs = [.str z, .int (b : Int)] ∧ b ≤ z.length ∧ z.length ≤ 100000 ∧ (∀ t rest, txE (z.cps.toList.drop b) = some (t, rest) → Q (.int ((b + (dblL t).length : Nat) : Int)) H) ∧ (txE (z.cps.toList.drop b) = none → Bad0 NL H E)
section
variable {P : Program} {w : World} {K : PySem.W.Frag} {mg : Str → Option Value} {base : Heap} {f : Addr} {fd : FuncData}
theorem scEoT : FnScope ["shown", "begin", "end"] ["shown", "begin"] (defScope sEoT) := ⟨rfl, rfl, rfl, by decide +kernel, rfl, by decide +kernel, by decide +kernel⟩
def invEo (z : Str) (b : Nat) (H : Hp) (σ : St) (L : Hp) : Prop := ∃ (pos : Nat) (u : List Nat), σ = [some (.str z), some (.int (b : Int)), some (.int (Txt.find3 z "'" (pos : Int)))] ∧ L = H ∧ pos ≤ z.length ∧ pos = b + (dblL u).length ∧ txE (z.cps.toList.drop b) = (txE (z.cps.toList.drop pos)).map fun p => (u ++ p.1, p.2)
def muEo (z : Str) (σ : St) (_ : Hp) : Nat := match σ with
  | [_, _, some (.int e)] => if e < 0 then 0 else (z.length + 1) - e.toNat
  | _ => 0
theorem ok_eot {NL FE : Addr} (F : Fun K "end_of_text" "end_of_text" sEoT f fd) (T : Txt mg) (xc : XCls0 K NL FE) (kX : PySem.W.keepIn K (.ref NL) = true) (mX : mg "NoLine" = some (.ref NL)) : FnOk P w K mg base (CXe P w) 1 f fd ["shown", "begin"] (spEoT NL) := by
  refine F.okX scEoT (fun vs H Q E h => ?_) (fun cdv A outer s H vs Q E hr h => ?_)
  · obtain ⟨z, b, rfl, _⟩ := h
    rfl
  obtain ⟨z, b, rfl, hb, hz, q, qb⟩ := h
  have zs : z.length ≤ sizeLine := by rw [sizeLine_eq]; omega
  refine ⟨_, (pss_cons (ps_set (i := 2) scEoT.nd rfl (Or.inl rfl) (bmK K PySem.F.plainAttrs_str PySem.F.slot_str_find PySem.F.type_str_find mt_find3 (pv 0) (pa_cons pe_str (pa_cons (pv 1) pa_nil))))
    (pss_cons (ps_while PassesOwn.leaving (PW.pt (pw_and (pt_cmpR op_ge (pv 2) pe_int (nomark _)) (pw_and1 (pt_cmpR op_eq (pe_slice sl_str (pv 0) (po_some (pe_op op_add (pv 2) pe_int)) (po_some (pe_op op_add (pv 2) pe_int))) pe_str (nomark _)))))
      (pss_one (ps_set (i := 2) scEoT.nd rfl (Or.inl rfl) (bmK K PySem.F.plainAttrs_str PySem.F.slot_str_find PySem.F.type_str_find mt_find3 (pv 0) (pa_cons pe_str (pa_cons (pe_op op_add (pv 2) pe_int) pa_nil))))))
    (pss_cons (ps_if (pt_cmpR op_lt (pv 2) pe_int (nomark _)) (pss_one (ps_raise0 xc kX rfl mX (pa_cons pe_str pa_nil))) pss_nil)
    (pss_one (ps_ret (pv 2)))))), ?_⟩
  simpa only [rFind3, tyV, tRaise0]
  refine whileW2 (invEo z b H) (muEo z) ⟨b, [], rfl, rfl, hb, rfl, by cases txE (z.cps.toList.drop b) <;> rfl⟩ ?_
  rintro σ L ⟨pos, u, rfl, rfl, hp, hu, he⟩
  simpa only [rFind3, tyV, tRaise0]
  have zl : z.cps.toList.length = z.length := slen z
  rcases find_q39 z hp with ⟨h1, h2⟩ | ⟨fr, r, h1, h2, h3⟩
  · rw [cQ, h2]
    refine iteF (iteT (qb ?_))
    rw [he, txE_free h1]
    rfl
  · rw [cQ, h3]
    have el : pos + fr.length + 1 + r.length = z.length := by
      have := congrArg List.length h1
      rw [List.length_drop, List.length_append, List.length_cons, zl] at this
      omega
    have c1 : ((pos + fr.length : Nat) : Int) + 1 = ((pos + fr.length + 1 : Nat) : Int) := by omega
    have c2 : ((pos + fr.length : Nat) : Int) + 2 = ((pos + fr.length + 2 : Nat) : Int) := by omega
    have e1 : z.cps.toList.drop (pos + fr.length) = 39 :: r := drop_add h1
    rw [c1, c2, cutL_nat _ (by omega), show pos + fr.length + 2 - (pos + fr.length + 1) = 1 by omega, drop_one e1]
    rw [decide_eq_true (show (0 : Int) ≤ ((pos + fr.length : Nat) : Int) by omega), decide_eq_false (show ¬ ((pos + fr.length : Nat) : Int) < 0 by omega)]
    refine iteT ⟨zs, ?_⟩
    by_cases hq : r.head? = some 39
    · cases r with
      | nil => cases hq
      | cons c r =>
        have hc : c = 39 := Option.some.inj hq
        subst hc
        rw [decide_eq_true (show (⟨((39 :: r).take 1).toArray⟩ : Str) = ⟨#[39]⟩ from rfl)]
        have e3 : z.cps.toList.drop (pos + fr.length + 2) = r := drop_one (drop_one e1)
        rw [List.length_cons] at el
        refine iteT ⟨_, fun _ _ h => h, _, ?_, rfl, pos + fr.length + 2, u ++ fr ++ [39], by rw [cQ], rfl, by omega, ?_, ?_⟩
        · show (if Txt.find3 z ⟨#[39]⟩ ((pos + fr.length + 2 : Nat) : Int) < 0 then 0 else z.length + 1 - (Txt.find3 z ⟨#[39]⟩ ((pos + fr.length + 2 : Nat) : Int)).toNat) < (if ((pos + fr.length : Nat) : Int) < 0 then 0 else z.length + 1 - (((pos + fr.length : Nat) : Int)).toNat)
          rcases find_q39 z (i := pos + fr.length + 2) (by omega) with ⟨_, h5⟩ | ⟨f2, r2, _, _, h5⟩
          · rw [h5, if_pos (by decide), if_neg (by omega)]; omega
          · rw [h5, if_neg (by omega), if_neg (by omega)]; omega
        · rw [dblL_append, dblL_append, dblL_free fr h2, List.length_append, List.length_append, hu]
          show _ = b + ((dblL u).length + fr.length + 2)
          omega
        · rw [he, e3, h1, txE_cut2 r h2, Option.map_map]
          congr 1
          funext p
          simp
    · have hne : ¬ (⟨(r.take 1).toArray⟩ : Str) = ⟨#[39]⟩ := fun y => by
        have y' := congrArg (fun s : Str => s.cps.toList) y
        have y2 : r.take 1 = [39] := by simpa using y'
        cases r with
        | nil => cases y2
        | cons c r =>
          have y3 : c = 39 := by simpa using y2
          exact hq (by rw [y3]; rfl)
      rw [decide_eq_false hne]
      refine iteF (iteF ?_)
      have := q (u ++ fr) r (by rw [he, h1, txE_cut1 h2 hq]; rfl)
      rw [dblL_append, dblL_free fr h2, List.length_append] at this
      rw [show pos + fr.length = b + ((dblL u).length + fr.length) by omega]
      exact this
end
def Doc (d : List Fld) : Prop := dw "" 0 d = none ∧ d.length ≤ 20 ∧ ∀ x ∈ d, Asc x.2 ∧ x.2.length ≤ 1000
theorem dw_ok : ∀ {d : List Fld} {p : Str} {j : Nat}, dw p j d = none → ∀ x ∈ d, okNm x.1 = true
  | y :: d, p, j, h, x, hx => by
    rw [dw] at h
    by_cases hb : badF p y.1 = true
    · rw [if_pos hb] at h; cases h
    · rw [if_neg hb] at h
      rcases List.mem_cons.mp hx with e | e
      · rw [e]
        unfold badF at hb
        cases ho : okNm y.1 with
        | true => rfl
        | false => rw [ho] at hb; exact absurd rfl hb
      · exact dw_ok h x e
theorem nm_len {z : Str} (h : okNm z = true) : 1 ≤ z.length ∧ z.length ≤ 12 := by
  unfold okNm at h
  rw [Bool.and_eq_true, decide_eq_true_iff] at h
  exact h.1
def docL (d : List Fld) : List (List Nat) := d.map fun p => fieldL (pairL p)
theorem argL_doc {d : List Fld} (h : d ≠ []) : argL (.doc d) = joinL [32] (docL d) := by
  cases d with
  | nil => exact absurd rfl h
  | cons x d => rfl
theorem field_len {x : Fld} (h1 : x.1.length ≤ 12) (h2 : x.2.length ≤ 1000) : (fieldL (pairL x)).length ≤ 2015 := by
  have := (dblL_le x.2.cps.toList).2
  rw [slen] at this
  show (x.1.cps.toList ++ 58 :: 39 :: (dblL x.2.cps.toList ++ [39])).length ≤ 2015
  rw [List.length_append, List.length_cons, List.length_cons, List.length_append, List.length_singleton, slen]
  omega
theorem txt_join (z : Str) (ps : List Str) : (Txt.join z ps).cps.toList = joinL z.cps.toList (ps.map fun p => p.cps.toList) := by
  show (Builtin.Str.glued z ps).cps.toList = _
  rw [StrLaws.glued_eq_join, join_cps]
theorem mem_dblL : ∀ {l : List Nat} {c : Nat}, c ∈ l → c ∈ dblL l
  | x :: l, c, h => by
    rw [dblL]
    rcases List.mem_cons.mp h with e | h
    · split
      · rename_i e2
        rw [e, e2]; exact List.mem_cons_self
      · rw [e]; exact List.mem_cons_self
    · have := mem_dblL h
      split
      · exact List.mem_cons_of_mem _ (List.mem_cons_of_mem _ this)
      · exact List.mem_cons_of_mem _ this
theorem prF_no {n : Nat} {s : List Nat} (h : cqF s = none) : prF (n + 1) s = none := by rw [prF, h]
theorem prF_no2 {n : Nat} {s g r : List Nat} (h : cqF s = some (g, r)) (h2 : txE r = none) : prF (n + 1) s = none := by
  rw [prF, h]
  show (match txE r with | none => none | some (t, []) => some [(g, t)] | some (t, c :: r) => if c = 32 then (prF n r).map ((g, t) :: ·) else none) = _
  rw [h2]
theorem prF_end {n : Nat} {s g r t : List Nat} (h : cqF s = some (g, r)) (h2 : txE r = some (t, [])) : prF (n + 1) s = some [(g, t)] := by
  rw [prF, h]
  show (match txE r with | none => none | some (t, []) => some [(g, t)] | some (t, c :: r) => if c = 32 then (prF n r).map ((g, t) :: ·) else none) = _
  rw [h2]
theorem prF_go {n : Nat} {s g r t r2 : List Nat} {c : Nat} (h : cqF s = some (g, r)) (h2 : txE r = some (t, c :: r2)) : prF (n + 1) s = if c = 32 then (prF n r2).map ((g, t) :: ·) else none := by
  rw [prF, h]
  show (match txE r with | none => none | some (t, []) => some [(g, t)] | some (t, c :: r) => if c = 32 then (prF n r).map ((g, t) :: ·) else none) = _
  rw [h2]
def spRP (NL : Addr) : Sp := fun vs H Q E => ∃ z : Str, vs = [.str z] ∧ z.length ≤ 1000 ∧ Asc z ∧ (∀ d : List Fld, prF (z.length + 1) z.cps.toList = some (d.map pairL) → ∀ (p : Addr) (xs : List V) (H' : Hp), Same H H' → H p = none → H' p = some (.lst xs) → DeepTs H' (d.map dvF) xs → Q (.ref p) H') ∧ (prF (z.length + 1) z.cps.toList = none → Bad0 NL H E)
section
variable {P : Program} {w : World} {K : PySem.W.Frag} {mg : Str → Option Value} {base : Heap} {f : Addr} {fd : FuncData}
theorem scRP : FnScope ["shown", "pairs", "at", "colon", "end"] ["shown"] (defScope sRP) := ⟨rfl, rfl, rfl, by decide +kernel, rfl, by decide +kernel, by decide +kernel⟩
def AtP (z : Str) (d : List Fld) (at_ : Nat) : Prop := (∃ n, at_ ≤ z.length ∧ z.length - at_ < n ∧ prF (z.length + 1) z.cps.toList = (prF n (z.cps.toList.drop at_)).map (d.map pairL ++ ·)) ∨ (at_ = z.length + 1 ∧ prF (z.length + 1) z.cps.toList = some (d.map pairL))
def invRP (z : Str) (r : Addr) (H : Hp) (σ : St) (L : Hp) : Prop := ∃ (d : List Fld) (at_ : Nat) (xs : List V) (v3 v4 : Option V), σ = [some (.str z), some (.ref r), some (.int (at_ : Int)), v3, v4] ∧ Same H L ∧ L r = some (.lst xs) ∧ DeepTs (hide r L) (d.map dvF) xs ∧ d.length ≤ at_ ∧ AtP z d at_
def muRP (z : Str) (σ : St) (_ : Hp) : Nat := match σ with
  | [_, _, some (.int e), _, _] => (z.length + 2) - e.toNat
  | _ => 0
theorem ok_rp {ge gt NL FE : Addr} {de dt : FuncData} (F : Fun K "read_pairs" "read_pairs" sRP f fd) (T : Txt mg) (xc : XCls0 K NL FE) (kX : PySem.W.keepIn K (.ref NL) = true) (mX : mg "NoLine" = some (.ref NL)) (GEo : FnOk P w K mg base (CXe P w) 1 ge de ["shown", "begin"] (spEoT NL)) (bEo : Binds K de ["shown", "begin"] []) (kEo : PySem.W.keepIn K (.ref ge) = true) (mEo : mg "end_of_text" = some (.ref ge))
    (GRt : FnOk P w K mg base CX0 2 gt dt ["shown"] spRTS) (bRt : Binds K dt ["shown"] []) (kRt : PySem.W.keepIn K (.ref gt) = true) (mRt : mg "read_text_signs" = some (.ref gt)) : FnOk P w K mg base (CXe P w) 3 f fd ["shown"] (spRP NL) := by
  refine F.okX scRP (fun vs H Q E h => ?_) (fun cdv A outer s H vs Q E hr h => ?_)
  · obtain ⟨z, rfl, _⟩ := h
    rfl
  obtain ⟨z, rfl, hz, hA, q, qb⟩ := h
  have hr1 : Room 1 _ := hr.mono (show 1 ≤ 2 by decide)
  have zl : z.cps.toList.length = z.length := slen z
  have zs : z.length ≤ sizeLine := small hz
  refine ⟨_, (pss_cons (ps_set (i := 1) scRP.nd rfl (Or.inl rfl) (pe_lst pa_nil))
    (pss_cons (ps_set (i := 2) scRP.nd rfl (Or.inl rfl) pe_int)
    (pss_cons (ps_while PassesOwn.leaving (pt_cmpR op_le (pv 2) (pe_callB call_len_str rfl T.len PySem.boot_len (pa_cons (pv 0) pa_nil)) (nomark _))
      (pss_cons (ps_set (i := 3) scRP.nd rfl (Or.inl rfl) (bmK K PySem.F.plainAttrs_str PySem.F.slot_str_find PySem.F.type_str_find mt_find3 (pv 0) (pa_cons pe_str (pa_cons (pv 2) pa_nil))))
    (pss_cons (ps_if (pt_cmpR op_lt (pv 3) pe_int (nomark _)) (pss_one (ps_raise0 xc kX rfl mX (pa_cons pe_str pa_nil))) pss_nil)
    (pss_cons (ps_set (i := 4) scRP.nd rfl (Or.inl rfl) (pe_call GEo hr1 rfl mEo kEo bEo .nil passX (pa_cons (pv 0) (pa_cons (pe_op op_add (pv 3) pe_int) pa_nil))))
    (pss_cons (ps_expr (bmK K PySem.F.plainAttrs_list PySem.F.slot_list_append PySem.F.type_list_append mt_append (pv 1) (pa_cons (pe_tup (pa_cons (pe_slice sl_str (pv 0) (po_some (pv 2)) (po_some (pv 3))) (pa_cons (pe_call GRt hr rfl mRt kRt bRt .nil pass0 (pa_cons (pe_slice sl_str (pv 0) (po_some (pe_op op_add (pv 3) pe_int)) (po_some (pv 4))) pa_nil)) pa_nil))) pa_nil)))
    (pss_cons (ps_if (PW.pt (pw_and (pt_cmpR op_lt (pe_op op_add (pv 4) pe_int) (pe_callB call_len_str rfl T.len PySem.boot_len (pa_cons (pv 0) pa_nil)) (nomark _)) (pw_and1 (pt_cmpR op_ne (pe_ix ix_str (pv 0) (pe_op op_add (pv 4) pe_int) (fun _ _ => rfl)) pe_str (nomark _))))) (pss_one (ps_raise0 xc kX rfl mX (pa_cons pe_str pa_nil))) pss_nil)
    (pss_one (ps_set (i := 2) scRP.nd rfl (Or.inl rfl) (pe_op op_add (pv 4) pe_int)))))))))
    (pss_one (ps_ret (pv 1)))))), ?_⟩
  simpa only [tRaise0]
  refine ⟨by decide, fun r hr0 => ?_⟩
  refine whileW2 (invRP z r H) (muRP z) ⟨[], 0, [], none, none, rfl, same_new hr0 _, upd_same, DeepTs.nil, Nat.le_refl _, .inl ⟨z.length + 1, Nat.zero_le _, by omega, by rw [List.drop_zero]; cases prF (z.length + 1) z.cps.toList <;> rfl⟩⟩ ?_
  rintro σ L ⟨d, at_, xs, v3, v4, rfl, sL, hL, hd, hda, hat⟩
  simpa only [rFind3, tyV, spEoT, spRTS, tRaise0]
  refine ⟨zs, ite2 (fun c1 => ?_) fun c1 => ?_⟩
  · have c1' := of_decide_eq_true c1
    rcases hat with ⟨n, hle, hn, hp⟩ | ⟨e, _⟩
    · obtain ⟨n, rfl⟩ : ∃ m, n = m + 1 := ⟨n - 1, by omega⟩
      refine ⟨_, fun _ _ h => h, ?_⟩
      have hf := find_cq z ":'" (by rw [cCQ]) hle
      cases hcq : cqF (z.cps.toList.drop at_) with
      | none =>
        have hf : Txt.find3 z ":'" (at_ : Int) = -1 := by rw [hf, hcq]
        rw [hf]
        refine iteT ((qb ?_).on sL)
        rw [hp, prF_no hcq]; rfl
      | some y =>
        obtain ⟨g, rest⟩ := y
        have hf : Txt.find3 z ":'" (at_ : Int) = ((at_ + g.length : Nat) : Int) := by rw [hf, hcq]
        rw [hf]
        have e1 := cqF_some hcq
        have e2 := drop_add e1
        have e3 := drop_one (drop_one e2)
        have hlz : at_ + g.length + 2 + rest.length = z.length := by
          have := congrArg List.length e1
          rw [List.length_drop, List.length_append, List.length_cons, List.length_cons, zl] at this
          omega
        have n1 : ((at_ + g.length : Nat) : Int) + 2 = ((at_ + g.length + 2 : Nat) : Int) := by omega
        rw [decide_eq_false (show ¬ ((at_ + g.length : Nat) : Int) < 0 by omega)]
        refine iteF ⟨at_ + g.length + 2, n1, by omega, by omega, fun t r2 ht => ?_, fun ht => ?_⟩
        · have ht' : txE rest = some (t, r2) := by rw [← e3]; exact ht
          obtain ⟨e4, _⟩ := txE_some ht'
          have e5 : z.cps.toList.drop (at_ + g.length + 2) = dblL t ++ 39 :: r2 := by rw [← e4]; exact e3
          have e6 := drop_add e5
          have e7 := drop_one e6
          have hl2 : at_ + g.length + 2 + (dblL t).length + 1 + r2.length = z.length := by
            have := congrArg List.length e4
            rw [List.length_append, List.length_cons] at this
            omega
          have tl := (dblL_le t).1
          refine ⟨.inl ⟨_, SqL.of hL⟩, zs, zs, ⟨t.toArray⟩, ?_, fun c hc => ?_, ?_, fun H2 s2 => ⟨by decide, fun p hp2 => ?_⟩⟩
          · rw [n1, cutL_nat _ (by omega), show at_ + g.length + 2 + (dblL t).length - (at_ + g.length + 2) = (dblL t).length by omega, e5, List.take_left]
          · have hc' : c ∈ t := by simpa using hc
            refine hA c (List.mem_of_mem_drop (i := at_ + g.length + 2) ?_)
            rw [e5]
            exact List.mem_append_left _ (mem_dblL hc')
          · show t.toArray.size ≤ 1000
            rw [List.size_toArray]; omega
          have hcut : (⟨(cutL z.cps.toList (some (at_ : Int)) (some ((at_ + g.length : Nat) : Int))).toArray⟩ : Str) = ⟨g.toArray⟩ := by
            rw [cutL_nat _ (by omega), show at_ + g.length - at_ = g.length by omega, e1, List.take_left]
          rw [hcut]
          have hr2 := s2 _ _ hL
          have npr : r ≠ p := fun y => by rw [y, hp2] at hr2; cases hr2
          have lx : xs.length = d.length := by
            have := hd.length
            rwa [List.length_map] at this
          refine ⟨xs, by rw [upd_ne npr]; exact hr2, by rw [sizeLine_eq]; omega, zs, ?_⟩
          have sNew : Same H (upd (upd H2 p (.tup [.str ⟨g.toArray⟩, .str ⟨t.toArray⟩])) r (.lst (xs ++ [.ref p]))) := (sL.trans (s2.trans (same_new hp2 _))).newer hr0 _
          have hpl : (d ++ [((⟨g.toArray⟩ : Str), (⟨t.toArray⟩ : Str))]).map pairL = d.map pairL ++ [(g, t)] := by
            rw [List.map_append]
            simp [pairL]
          have fin : (r2 = [] ∨ ∃ r3, r2 = 32 :: r3) → ∃ m', m' < muRP z [some (V.str z), some (V.ref r), some (V.int (at_ : Int)), v3, v4] L ∧ m' = muRP z [some (V.str z), some (V.ref r), some (V.int (((at_ + g.length + 2 + (dblL t).length : Nat) : Int) + 2)), some (V.int ((at_ + g.length : Nat) : Int)), some (V.int ((at_ + g.length + 2 + (dblL t).length : Nat) : Int))] (upd (upd H2 p (.tup [.str ⟨g.toArray⟩, .str ⟨t.toArray⟩])) r (.lst (xs ++ [.ref p]))) ∧
              invRP z r H [some (V.str z), some (V.ref r), some (V.int (((at_ + g.length + 2 + (dblL t).length : Nat) : Int) + 2)), some (V.int ((at_ + g.length : Nat) : Int)), some (V.int ((at_ + g.length + 2 + (dblL t).length : Nat) : Int))] (upd (upd H2 p (.tup [.str ⟨g.toArray⟩, .str ⟨t.toArray⟩])) r (.lst (xs ++ [.ref p]))) := by
            intro hr3
            refine ⟨_, ?_, rfl, d ++ [(⟨g.toArray⟩, ⟨t.toArray⟩)], at_ + g.length + 2 + (dblL t).length + 2, xs ++ [.ref p], some (.int ((at_ + g.length : Nat) : Int)), some (.int ((at_ + g.length + 2 + (dblL t).length : Nat) : Int)), ?_, sNew, upd_same, ?_, ?_, ?_⟩
            · show z.length + 2 - ((((at_ + g.length + 2 + (dblL t).length : Nat) : Int) + 2)).toNat < z.length + 2 - ((at_ : Int)).toNat
              omega
            · rw [show ((at_ + g.length + 2 + (dblL t).length : Nat) : Int) + 2 = ((at_ + g.length + 2 + (dblL t).length + 2 : Nat) : Int) by omega]
            · rw [hide_upd, List.map_append]
              refine DeepTs.app (hd.same ((hide_mono (s2.trans (same_new hp2 _))))) ?_
              show DeepTs _ [dvF _] [.ref p]
              refine DeepTs.one ?_
              unfold dvF
              rw [DeepT]
              exact ⟨p, _, rfl, by rw [hide_ne npr.symm]; exact upd_same, strs_deeps [⟨g.toArray⟩, ⟨t.toArray⟩]⟩
            · rw [List.length_append, List.length_singleton]; omega
            · rcases hr3 with e | ⟨r3, e⟩
              · subst e
                rw [List.length_nil] at hl2
                refine .inr ⟨by omega, ?_⟩
                rw [hp, prF_end hcq ht', hpl]
                rfl
              · subst e
                rw [List.length_cons] at hl2
                refine .inl ⟨n, by omega, by omega, ?_⟩
                rw [hp, prF_go hcq ht', if_pos rfl, drop_one e7, hpl, Option.map_map]
                congr 1
                funext y
                simp
          refine ite2 (fun c2 => ?_) fun c2 => fin (.inl ?_)
          · have c2' := of_decide_eq_true c2
            cases r2 with
            | nil => rw [List.length_nil] at hl2; omega
            | cons c r3 =>
              refine ⟨zs, c, ?_, ?_⟩
              · rw [show ((at_ + g.length + 2 + (dblL t).length : Nat) : Int) + 1 = ((at_ + g.length + 2 + (dblL t).length + 1 : Nat) : Int) by omega]
                exact atI_nat (drop_at e7)
              · by_cases hc : c = 32
                · subst hc
                  rw [decide_eq_true (show (⟨#[32]⟩ : Str) = " " from cBl.symm)]
                  exact iteF (fin (.inr ⟨r3, rfl⟩))
                · rw [decide_eq_false (fun y => hc (by have := congrArg (fun s : Str => s.cps.toList) y; rw [cBl] at this; exact (List.cons.inj this).1) : ¬ (⟨#[c]⟩ : Str) = " ")]
                  refine iteT ((qb ?_).on sNew)
                  rw [hp, prF_go hcq ht', if_neg hc]
                  rfl
          · cases r2 with
            | nil => rfl
            | cons c r3 =>
              rw [List.length_cons] at hl2
              exact absurd (decide_eq_true (show ((at_ + g.length + 2 + (dblL t).length : Nat) : Int) + 1 < (z.length : Int) by omega)) c2
        · rw [e3] at ht
          refine (qb ?_).on sL
          rw [hp, prF_no2 hcq ht]; rfl
    · omega
  · rcases hat with ⟨n, hle, _, _⟩ | ⟨e, hp⟩
    · exact absurd (decide_eq_true (show (at_ : Int) ≤ (z.length : Int) by omega)) c1
    · exact q d hp r xs L sL hr0 hL (hd.same (hide_same r L))
end
theorem field_ge (q : List Nat × List Nat) : q.1.length + 3 ≤ (fieldL q).length := by unfold fieldL; simp
theorem flat_ge : ∀ qs : List (List Nat × List Nat), qs.length ≤ ((qs.map fieldL).flatMap ([32] ++ ·)).length ∧ ∀ p ∈ qs, p.1.length ≤ ((qs.map fieldL).flatMap ([32] ++ ·)).length
  | [] => ⟨Nat.le_refl _, fun p hp => by cases hp⟩
  | y :: qs => by
    have h1 := field_ge y
    have h2 := flat_ge qs
    rw [List.map_cons, List.flatMap_cons, List.length_append, List.length_append, List.length_singleton, List.length_cons]
    refine ⟨by omega, fun p hp => ?_⟩
    rcases List.mem_cons.mp hp with e | hp
    · rw [e]; omega
    · have := h2.2 p hp; omega
theorem join_ge (ps : List (List Nat × List Nat)) : ps.length ≤ (joinL [32] (ps.map fieldL)).length ∧ ∀ p ∈ ps, p.1.length ≤ (joinL [32] (ps.map fieldL)).length := by
  cases ps with
  | nil => exact ⟨Nat.zero_le _, fun p hp => by cases hp⟩
  | cons p ps =>
    rw [List.map_cons, joinL_flat]
    have h1 := field_ge p
    have h3 := flat_ge ps
    rw [List.length_append, List.length_cons]
    refine ⟨by omega, fun y hy => ?_⟩
    rcases List.mem_cons.mp hy with e | hy
    · rw [e]; omega
    · have := h3.2 y hy; omega
theorem flds_len {z : Str} {d : List Fld} (hz : z.length ≤ 1000) (hd : prF (z.length + 1) z.cps.toList = some (d.map pairL)) : d.length ≤ 1000 ∧ ∀ x ∈ d, x.1.length ≤ 1000 := by
  obtain ⟨_, h2⟩ := prF_sound hd
  have ha := join_ge (d.map pairL)
  rw [h2, slen, List.length_map] at ha
  refine ⟨by omega, fun x hx => ?_⟩
  have h4 := ha.2 (pairL x) (List.mem_map.mpr ⟨x, hx, rfl⟩)
  have h6 : (pairL x).1.length = x.1.length := slen _
  omega
theorem pair_inj : ∀ (a b : List Fld), a.map pairL = b.map pairL → a = b
  | [], [], _ => rfl
  | [], _ :: _, h => by simp at h
  | _ :: _, [], h => by simp at h
  | x :: a, y :: b, h => by
    rw [List.map_cons, List.map_cons] at h
    obtain ⟨h1, h2⟩ := List.cons.inj h
    have h3 := Prod.mk.inj h1
    rw [pair_inj a b h2, Prod.ext (sx h3.1) (sx h3.2)]
theorem XO_inj {e : Addr} {C C' : Value} {dx dx' : Option Addr} (h : XO e C dx = XO e C' dx') : C = C' ∧ dx = dx' := by
  unfold XO at h
  injection h with h
  have h0 : XP e C dx (({ objs := Array.replicate e default } : Heap).push { cls := C, dict := dx, data := .fields #[.none, .none] }) := by
    refine ⟨{ cls := C, dict := dx, data := .fields #[.none, .none] }, _, ?_, rfl, rfl, rfl, by decide⟩
    have := Heap.get?_push_size (o := { cls := C, dict := dx, data := .fields #[.none, .none] }) ({ objs := Array.replicate e default } : Heap) rfl
    simpa using this
  rw [h] at h0
  obtain ⟨oe, vs, h1, h2, h3, _⟩ := h0
  have h4 : (({ objs := Array.replicate e default } : Heap).push { cls := C, dict := dx, data := .fields #[.none, .none] }).get? e = some { cls := C, dict := dx, data := .fields #[.none, .none] } := by
    have := Heap.get?_push_size (o := { cls := C, dict := dx, data := .fields #[.none, .none] }) ({ objs := Array.replicate e default } : Heap) rfl
    simpa using this
  rw [h4] at h1
  cases h1
  exact ⟨h2, h3⟩
abbrev noneL : List Nat := [110, 111, 110, 101]
def rdF (l : List Nat) (d : List Fld) : Prop := (l = noneL ∧ d = []) ∨ (l ≠ noneL ∧ prF (l.length + 1) l = some (d.map pairL) ∧ dw "" 0 d = none)
def spRFs (NL : Addr) : Sp := fun vs H Q E => ∃ z : Str, vs = [.str z] ∧ z.length ≤ 1000 ∧ Asc z ∧ (∀ d : List Fld, rdF z.cps.toList d → ∀ (p : Addr) (xs : List V) (H' : Hp), Same H H' → H p = none → H' p = some (.lst xs) → DeepTs H' (d.map dvF) xs → Q (.ref p) H') ∧ ((∀ d, ¬ rdF z.cps.toList d) → Bad0 NL H E)
section
variable {P : Program} {w : World} {K : PySem.W.Frag} {mg : Str → Option Value} {base : Heap} {f : Addr} {fd : FuncData}
theorem scRFs : FnScope ["shown", "document"] ["shown"] (defScope sRFs) := ⟨rfl, rfl, rfl, by decide +kernel, rfl, by decide +kernel, by decide +kernel⟩
theorem ok_rfs {gp gl NL NF FE : Addr} {dp dl : FuncData} (F : Fun K "read_fields" "read_fields" sRFs f fd) (T : Txt mg) (xc : XCls0 K NL FE) (kX : PySem.W.keepIn K (.ref NL) = true) (mX : mg "NoLine" = some (.ref NL)) (mNF : mg "NoField" = some (.ref NF)) (xkF : XCatch K NF) (xmF : PySem.W.mroIn K NF (.ref NF) = some true)
    (GRp : FnOk P w K mg base (CXe P w) 3 gp dp ["shown"] (spRP NL)) (bRp : Binds K dp ["shown"] []) (kRp : PySem.W.keepIn K (.ref gp) = true) (mRp : mg "read_pairs" = some (.ref gp))
    (GLk : FnOk P w K mg base (CXe P w) 3 gl dl ["document"] (spLook NF)) (bLk : Binds K dl ["document"] []) (kLk : PySem.W.keepIn K (.ref gl) = true) (mLk : mg "look_at_document" = some (.ref gl)) : FnOk P w K mg base (CXe P w) 4 f fd ["shown"] (spRFs NL) := by
  refine F.okX scRFs (fun vs H Q E h => ?_) (fun cdv A outer s H vs Q E hr h => ?_)
  · obtain ⟨z, rfl, _⟩ := h
    rfl
  obtain ⟨z, rfl, hz, hA, q, qb⟩ := h
  obtain ⟨tF, hNF⟩ := T.noF
  refine ⟨_, (pss_cons (ps_if (pt_cmpR op_eq (pv 0) (pe_gstr rfl hNF) (nomark _)) (pss_one (ps_ret (pe_lst pa_nil))) pss_nil)
    (pss_cons (ps_set (i := 1) scRFs.nd rfl (Or.inl rfl) (pe_call GRp hr rfl mRp kRp bRp .nil passX (pa_cons (pv 0) pa_nil)))
    (pss_cons (ps_tryRaise rfl mNF xkF xc kX rfl mX (fun _ _ => pss_one (ps_expr (pe_callT GLk hr rfl mLk kLk bLk (pa_cons (pv 1) pa_nil)))))
    (pss_one (ps_ret (pv 1)))))), ?_⟩
  simpa only [spRP, spLook, tTryR, tCallT]
  have len_of := fun d hd => flds_len (d := d) hz hd
  refine ite2 (fun c => ?_) fun c => ⟨hz, hA, fun d hd p xs H1 s1 hp hx hdd => ?_, fun hn => qb fun d hd => ?_⟩
  · have e : z = "none" := of_decide_eq_true c
    have e2 : z.cps.toList = noneL := by rw [e, cNone]
    exact ⟨by decide, fun p hp => q [] (.inl ⟨e2, rfl⟩) p [] _ (same_new hp _) hp upd_same DeepTs.nil⟩
  · have nz : z.cps.toList ≠ noneL := fun e => c (decide_eq_true (sx (by rw [e, cNone])))
    have hd' : prF (z.cps.toList.length + 1) z.cps.toList = some (d.map pairL) := by rw [slen]; exact hd
    have ll := len_of d hd
    refine ⟨fun _ e H2 => ∃ dx, Same H1 H2 ∧ H2 e = some (XO e (.ref NF) (some dx)) ∧ dw "" 0 d ≠ none, ⟨fun ev _ H2 => ∃ e dx, ev = .ref e ∧ Same H1 H2 ∧ H2 e = some (XO e (.ref NF) (some dx)) ∧ dw "" 0 d ≠ none, ⟨d, xs, hx, hdd, ll.1, ll.2, ?_⟩, ?_⟩, ?_⟩
    · cases hw : dw "" 0 d with
      | none => exact fun H2 s2 => q d (.inr ⟨nz, hd', hw⟩) p xs H2 (s1.trans s2) hp (s2 _ _ hx) (hdd.same s2)
      | some k => exact fun e dx H2 s2 he hxe _ => ⟨e, dx, rfl, s2, hxe, by simp⟩
    · rintro e H2 ⟨e', dx, ee, s2, hxe, hw⟩
      cases ee
      exact ⟨dx, s2, hxe, hw⟩
    · rintro σ' e Ce dx H2 ⟨dx', s2, hxe, hw⟩ hxo
      rw [hxe] at hxo
      obtain ⟨rfl, rfl⟩ := XO_inj (Option.some.inj hxo)
      refine ⟨NF, rfl, xmF, by simp, fun e2 H3 s3 he2 hx2 => ?_⟩
      refine ((qb fun d2 hd2 => ?_).on (s1.trans s2)) e2 H3 s3 he2 hx2
      rcases hd2 with ⟨e, _⟩ | ⟨_, e, hw2⟩
      · exact nz e
      · rw [hd'] at e
        have e3 := Option.some.inj e
        have e4 : d = d2 := by
          exact pair_inj d d2 e3
        exact hw (by rw [e4]; exact hw2)
  · rcases hd with ⟨e, _⟩ | ⟨_, e, _⟩
    · exact c (decide_eq_true (sx (by rw [e, cNone])))
    · rw [slen, hn] at e
      cases e
end
def kindOf : KU.Arg → Str
  | .num _ => "number"
  | .doc _ => "fields"
def tab : List (Str × List Str) := [("put", ["fields"]), ("change", ["number", "fields"]), ("take", ["number"]), ("stamp", []), ("drop", ["number"]), ("seal", []), ("pour", ["number", "number"]), ("thin", []), ("pack", ["number"])]
def dvA : KU.Arg → DV
  | .num n => .int n
  | .doc d => .lst (d.map dvF)
def dvD (nm : Str) (as : List KU.Arg) : List DV := .str nm :: as.map dvA
structure Deeds (P : Program) (w : World) (K : PySem.W.Frag) (mg : Str → Option Value) (dd : Addr) (kvs : List (Key × V)) : Prop where
  kd : KD P w K dd kvs
  on : ∀ nm, (valV kvs (.inr nm)).isSome = true → ∃ ks, (nm, ks) ∈ tab
  at_ : ∀ nm ks, (nm, ks) ∈ tab → ∃ a, valV kvs (.inr nm) = some (.ref a) ∧ ∀ H, SqT K H a (ks.map V.str)
theorem op_notinKd {X : Cx} {d : Addr} {kvs : List (Key × V)} (D : KD X.prog X.w X.K d kvs) : OpR X (compareOp .NotIn) (fun x y H Q => ∃ k, x = kV k ∧ y = .ref d ∧ Q (.bl (!(valV kvs k).isSome)) H) := by
  intro pins s σ H x y u v Q I rx ry h
  obtain ⟨k, rfl, rfl, q⟩ := h
  obtain rfl : v = Value.ref d := ry
  obtain ⟨vs, ep, rel, _, dd⟩ := D.at_ I
  refine wpAny_notIn_of (kV_is rx) D.sm dd.mapOf ?_
  rw [← (rel.val k).isSome_eq]
  exact ⟨.bl _, H, I.tok _, rfl, q⟩
theorem tab_args {nm : Str} {ks : List Str} (h : (nm, ks) ∈ tab) : ks.length ≤ 2 ∧ 32 ∉ nm.cps.toList ∧ nm.length ≤ 6 ∧ ("fields" : Str) ∉ ks.dropLast := by
  have all : ∀ q ∈ tab, q.2.length ≤ 2 ∧ 32 ∉ q.1.cps.toList ∧ q.1.length ≤ 6 ∧ ("fields" : Str) ∉ q.2.dropLast := by decide +kernel
  exact all _ h
theorem deepF_hide {H : Hp} {r : Addr} {ys : List V} (hr : H r = some (.lst ys)) : ∀ (d : List Fld) (us : List V), DeepTs H (d.map dvF) us → DeepTs (hide r H) (d.map dvF) us
  | [], us, h => by rw [List.map_nil, DeepTs] at h ⊢; exact h
  | x :: d, us, h => by
    rw [List.map_cons, DeepTs] at h ⊢
    obtain ⟨y, zs, rfl, h1, h2⟩ := h
    refine ⟨y, zs, rfl, ?_, deepF_hide hr d zs h2⟩
    obtain ⟨a, rfl, ha⟩ := dvF_at h1
    have na : a ≠ r := fun e => by rw [e, hr] at ha; cases ha
    unfold dvF
    rw [DeepT]
    exact ⟨a, _, rfl, by rw [hide_ne na]; exact ha, strs_deeps [x.1, x.2]⟩
def rdA (k : Str) (l : List Nat) : KU.Arg → Prop
  | .num n => k = "number" ∧ 0 ≤ n ∧ n < 10 ^ 60 ∧ l = digs n
  | .doc d => k = "fields" ∧ rdF l d
def rdAs : List Str → List (List Nat) → List KU.Arg → Prop
  | [], [], [] => True
  | k :: ks, l :: ls, a :: as => rdA k l a ∧ rdAs ks ls as
  | _, _, _ => False
theorem rdAs_len : ∀ {ks : List Str} {ls : List (List Nat)} {as : List KU.Arg}, rdAs ks ls as → ls.length = ks.length ∧ as.length = ks.length
  | [], [], [], _ => ⟨rfl, rfl⟩
  | _ :: _, _ :: _, _ :: _, h => by have := rdAs_len h.2; simp; omega
  | [], _ :: _, _, h => h.elim
  | [], [], _ :: _, h => h.elim
  | _ :: _, [], _, h => h.elim
  | _ :: _, _ :: _, [], h => h.elim
theorem rdAs_get : ∀ {ks : List Str} {ls : List (List Nat)} {as : List KU.Arg} {i : Nat} {k : Str} {l : List Nat}, rdAs ks ls as → ks[i]? = some k → ls[i]? = some l → ∃ a, rdA k l a
  | k0 :: ks, l0 :: ls, a0 :: as, 0, k, l, h, e1, e2 => by simp at e1 e2; subst e1 e2; exact ⟨a0, h.1⟩
  | _ :: ks, _ :: ls, _ :: as, i + 1, k, l, h, e1, e2 => rdAs_get (i := i) h.2 (by simpa using e1) (by simpa using e2)
  | [], _, _, i, k, l, h, e1, e2 => by simp at e1
  | _ :: _, [], _, i, k, l, h, e1, e2 => by simp at e2
  | _ :: _, _ :: _, [], i, k, l, h, e1, e2 => h.elim
theorem rdAs_snoc : ∀ {ks : List Str} {ls : List (List Nat)} {as : List KU.Arg} {k : Str} {l : List Nat} {a : KU.Arg}, rdAs ks ls as → rdA k l a → rdAs (ks ++ [k]) (ls ++ [l]) (as ++ [a])
  | [], [], [], _, _, _, _, h => ⟨h, trivial⟩
  | _ :: _, _ :: _, _ :: _, _, _, _, g, h => ⟨g.1, rdAs_snoc g.2 h⟩
  | [], _ :: _, _, _, _, _, g, _ => g.elim
  | [], [], _ :: _, _, _, _, g, _ => g.elim
  | _ :: _, [], _, _, _, _, g, _ => g.elim
  | _ :: _, _ :: _, [], _, _, _, g, _ => g.elim
def rdD (l : List Nat) (nm : Str) (as : List KU.Arg) : Prop := ∃ ks ps, (nm, ks) ∈ tab ∧ splitF 32 ks.length l = nm.cps.toList :: ps ∧ rdAs ks ps as
theorem tab_fun {nm : Str} {ks ks' : List Str} (h : (nm, ks) ∈ tab) (g : (nm, ks') ∈ tab) : ks = ks' := by
  have all : ∀ p ∈ tab, ∀ q ∈ tab, p.1 = q.1 → p.2 = q.2 := by decide +kernel
  exact all _ h _ g rfl
theorem split_lim (b : Nat) : ∀ (l : List Nat) (m n : Nat) {p : List Nat} {r : List (List Nat)}, splitF b (m + 1) l = p :: r → ∃ r', splitF b (n + 1) l = p :: r'
  | [], m, n, p, r, h => by rw [splitF] at h ⊢; cases h; exact ⟨_, rfl⟩
  | c :: l, m, n, p, r, h => by
    rw [splitF] at h ⊢
    by_cases e : c = b
    · rw [if_pos ⟨by omega, e⟩] at h ⊢
      cases h
      exact ⟨_, rfl⟩
    · rw [if_neg (fun z => e z.2)] at h ⊢
      obtain ⟨p1, r1, e1⟩ := splitF_cons b l (m + 1)
      obtain ⟨r2, e2⟩ := split_lim b l m n e1
      rw [e1] at h
      rw [e2]
      cases h
      exact ⟨_, rfl⟩
theorem rdD_first {l : List Nat} {nm : Str} {ks : List Str} {ps : List (List Nat)} (h : (nm, ks) ∈ tab) (e : splitF 32 ks.length l = nm.cps.toList :: ps) (n : Nat) : ∃ r, splitF 32 (n + 1) l = nm.cps.toList :: r := by
  cases hk : ks.length with
  | zero =>
    rw [hk, splitF_zero] at e
    have e1 := (List.cons.inj e).1
    have := (tab_args h).2.1
    exact ⟨[], by rw [e1, splitF_free 32 _ _ this]⟩
  | succ m =>
    rw [hk] at e
    exact split_lim 32 l m n e
theorem split_in (b : Nat) : ∀ (l : List Nat) (lim : Nat), ∀ p ∈ splitF b lim l, p.length ≤ l.length ∧ ∀ c ∈ p, c ∈ l
  | [], lim, p, h => by
    rw [splitF] at h
    rw [List.mem_singleton.mp h]
    exact ⟨Nat.le_refl _, fun c hc => hc⟩
  | c :: l, lim, p, h => by
    rw [splitF] at h
    split at h
    · rcases List.mem_cons.mp h with e | h
      · rw [e]; exact ⟨Nat.zero_le _, fun c hc => by cases hc⟩
      · have := split_in b l _ p h
        rw [List.length_cons]
        exact ⟨by omega, fun x hx => List.mem_cons_of_mem _ (this.2 x hx)⟩
    · obtain ⟨p1, r1, e1⟩ := splitF_cons b l lim
      rw [e1] at h
      rcases List.mem_cons.mp h with e | h
      · have := split_in b l lim p1 (by rw [e1]; exact List.mem_cons_self)
        rw [e, List.headD_cons, List.length_cons, List.length_cons]
        refine ⟨by omega, fun x hx => ?_⟩
        rcases List.mem_cons.mp hx with e2 | hx
        · rw [e2]; exact List.mem_cons_self
        · exact List.mem_cons_of_mem _ (this.2 x hx)
      · have := split_in b l lim p (by rw [e1]; exact List.mem_cons_of_mem _ h)
        rw [List.length_cons]
        exact ⟨by omega, fun x hx => List.mem_cons_of_mem _ (this.2 x hx)⟩
theorem split_many (b : Nat) : ∀ (l : List Nat) (lim : Nat), (splitF b lim l).length ≤ lim + 1
  | [], lim => by rw [splitF]; simp
  | c :: l, lim => by
    rw [splitF]
    split
    · rename_i h
      have := split_many b l (lim - 1)
      rw [List.length_cons]; omega
    · have := split_many b l lim
      obtain ⟨p1, r1, e1⟩ := splitF_cons b l lim
      rw [e1] at this ⊢
      exact this
def spRD (NL : Addr) : Sp := fun vs H Q E => ∃ z : Str, vs = [.str z] ∧ z.length ≤ 1000 ∧ Asc z ∧ (∀ (nm : Str) (as : List KU.Arg), rdD z.cps.toList nm as → ∀ (p : Addr) (xs : List V) (H' : Hp), Same H H' → H p = none → H' p = some (.tup xs) → DeepTs H' (dvD nm as) xs → (∀ b, V.ref b ∈ xs → H b = none) → Q (.ref p) H') ∧ ((∀ nm as, ¬ rdD z.cps.toList nm as) → Bad0 NL H E)
section
variable {P : Program} {w : World} {K : PySem.W.Frag} {mg : Str → Option Value} {base : Heap} {f : Addr} {fd : FuncData}
theorem scRD : FnScope ["line", "name", "kinds", "shown", "deed", "kind", "part"] ["line"] (defScope sRD) := ⟨rfl, rfl, rfl, by decide +kernel, rfl, by decide +kernel, by decide +kernel⟩
def invRD (z nm : Str) (ka sh r : Addr) (ks : List Str) (ps : List Str) (H : Hp) (i : Nat) (σ : St) (L : Hp) : Prop := ∃ (as : List KU.Arg) (xs : List V) (v5 v6 : Option V), σ = [some (.str z), some (.str nm), some (.ref ka), some (.ref sh), some (.ref r), v5, v6] ∧ Same H L ∧ L r = some (.lst xs) ∧ DeepTs (hide r L) (dvD nm as) xs ∧ xs.length = i + 1 ∧ (∀ b, V.ref b ∈ xs → H b = none) ∧ rdAs (ks.take i) ((ps.take i).map fun z => z.cps.toList) as
theorem ok_rd {gs gf dd NL FE : Addr} {ds df : FuncData} {kvs : List (Key × V)} (F : Fun K "read_deed" "read_deed" sRD f fd) (T : Txt mg) (xc : XCls0 K NL FE) (kX : PySem.W.keepIn K (.ref NL) = true) (mX : mg "NoLine" = some (.ref NL)) (GRf : FnOk P w K mg base (CXe P w) 4 gs ds ["shown"] (spRFs NL)) (bRf : Binds K ds ["shown"] []) (kRf : PySem.W.keepIn K (.ref gs) = true) (mRf : mg "read_fields" = some (.ref gs))
    (GRg : FnOk P w K mg base (CXe P w) 2 gf df ["shown"] (spRF NL)) (bRg : Binds K df ["shown"] []) (kRg : PySem.W.keepIn K (.ref gf) = true) (mRg : mg "read_figures" = some (.ref gf)) (DD : Deeds P w K mg dd kvs) (mD : mg "DEEDS" = some (.ref dd)) : FnOk P w K mg base (CXe P w) 5 f fd ["line"] (spRD NL) := by
  refine F.okX scRD (fun vs H Q E h => ?_) (fun cdv A outer s H vs Q E hr h => ?_)
  · obtain ⟨z, rfl, _⟩ := h
    rfl
  obtain ⟨z, rfl, hz, hA, q, qb⟩ := h
  have hr2 : Room 2 _ := hr.mono (show 2 ≤ 4 by decide)
  have D := DD.kd
  have zl : z.length ≤ 1000000 := by omega
  refine ⟨_, (pss_cons (ps_set (i := 1) scRD.nd rfl (Or.inl rfl) (pe_ix (ixL K) (bmK K PySem.F.plainAttrs_str PySem.F.slot_str_split PySem.F.type_str_split mt_split1 (pv 0) (pa_cons pe_str pa_nil)) pe_int (fun _ _ => rfl)))
    (pss_cons (ps_if (pt_cmpR (op_notinKd D) (pv 1) (pe_gref rfl mD) rfl) (pss_one (ps_raise0 xc kX rfl mX (pa_cons pe_str pa_nil))) pss_nil)
    (pss_cons (ps_set (i := 2) scRD.nd rfl (Or.inl rfl) (pe_kget D (pe_gref rfl mD) (pv 1) (fun _ _ => rfl)))
    (pss_cons (ps_set (i := 3) scRD.nd rfl (Or.inl rfl) (bmK K PySem.F.plainAttrs_str PySem.F.slot_str_split PySem.F.type_str_split mt_splitN (pv 0) (pa_cons pe_str (pa_cons (pe_callB (lenK K) rfl T.len PySem.boot_len (pa_cons (pv 2) pa_nil)) pa_nil))))
    (pss_cons (ps_if (PW.pt (pw_or (pt_cmpR op_ne (pe_ix (ixL K) (pv 3) pe_int (fun _ _ => rfl)) (pv 1) (nomark _)) (pw_or1 (pt_cmpR op_le (pe_callB (lenK K) rfl T.len PySem.boot_len (pa_cons (pv 3) pa_nil)) (pe_callB (lenK K) rfl T.len PySem.boot_len (pa_cons (pv 2) pa_nil)) (nomark _))))) (pss_one (ps_raise0 xc kX rfl mX (pa_cons pe_str pa_nil))) pss_nil)
    (pss_cons (ps_set (i := 4) scRD.nd rfl (Or.inl rfl) (pe_lst (pa_cons (pv 1) pa_nil)))
    (pss_cons (ps_for PassesOwn.leaving rfl (pi_zip K true false rfl T.zip (pa_cons (pv 2) (pa_cons (pe_slice (slL K) (pv 3) (po_some pe_int) po_none) pa_nil))) (pgT K (n := 2) rfl (pgs_cons (pg_name (i := 5) scRD.nd rfl (Or.inl rfl)) (pgs_cons (pg_name (i := 6) scRD.nd rfl (Or.inl rfl)) pgs_nil)))
      (pss_one (ps_expr (bmK K PySem.F.plainAttrs_list PySem.F.slot_list_append PySem.F.type_list_append mt_append (pv 4) (pa_cons (pe_ifExp (pt_cmpR op_eq (pv 5) pe_str (nomark _)) (pe_call GRf hr rfl mRf kRf bRf .nil passX (pa_cons (pv 6) pa_nil)) (pe_call GRg hr2 rfl mRg kRg bRg .nil passX (pa_cons (pv 6) pa_nil))) pa_nil)))))
    (pss_one (ps_ret (pe_callTy (tupK K) rfl T.tuple (by decide +kernel) (pa_cons (pv 4) pa_nil))))))))))), ?_⟩
  simpa only [rSplit1, rSplitN, tyV, tKGet, iZip, tRaise0]
  refine ⟨by decide +kernel, zl, fun p hp => ?_⟩
  obtain ⟨nm, rest1, e1, en⟩ : ∃ nm rest1, Txt.split z " " = nm :: rest1 ∧ ∃ r, splitF 32 (z.length + 1) z.cps.toList = nm.cps.toList :: r := by
    have h1 := split_all z 32 (by decide)
    rw [← cBl] at h1
    obtain ⟨p1, r1, h2⟩ := splitF_cons 32 z.cps.toList (z.length + 1)
    rw [h2] at h1
    cases hq : Txt.split z " " with
    | nil => rw [hq] at h1; cases h1
    | cons a b =>
      rw [hq] at h1
      exact ⟨a, b, rfl, r1, h2.trans (by have e9 : a.cps.toList = p1 := (List.cons.inj h1).1; rw [e9])⟩
  obtain ⟨rr, en⟩ := en
  have only : ∀ nm' as', rdD z.cps.toList nm' as' → ∃ ks ps, (nm, ks) ∈ tab ∧ nm' = nm ∧ splitF 32 ks.length z.cps.toList = nm.cps.toList :: ps ∧ rdAs ks ps as' := fun nm' as' ⟨ks, ps, h1, h2, h3⟩ => by
    obtain ⟨r', e'⟩ := rdD_first h1 h2 z.length
    rw [en] at e'
    have e3 : nm' = nm := sx (List.cons.inj e').1.symm
    subst e3
    exact ⟨ks, ps, h1, rfl, h2, h3⟩
  rw [e1]
  refine ⟨_, SqL.of upd_same, _, atI_nat (j := 0) rfl, .inr nm, rfl, ?_⟩
  have s1 := same_new hp (.lst ((nm :: rest1).map V.str))
  generalize upd H p (.lst ((nm :: rest1).map V.str)) = H1 at s1 ⊢
  refine ite2 (fun c1 => (qb fun nm' as' hh => ?_).on s1) fun c1 => ?_
  · obtain ⟨ks, ps, h1, _⟩ := only nm' as' hh
    obtain ⟨ta, tv, _⟩ := DD.at_ _ _ h1
    rw [tv] at c1
    cases c1
  have hsome : (valV kvs (.inr nm)).isSome = true := by
    cases h : (valV kvs (.inr nm)).isSome with
    | true => rfl
    | false => rw [h] at c1; exact absurd rfl c1
  obtain ⟨ks, hks⟩ := DD.on nm hsome
  obtain ⟨ta, tv, tq⟩ := DD.at_ _ _ hks
  have tb := tab_args hks
  obtain ⟨sp1, sps, e2, hsps⟩ : ∃ (a : Str) (ps : List Str), Txt.splitMax z " " (ks.length : Int) = a :: ps ∧ splitF 32 ks.length z.cps.toList = a.cps.toList :: ps.map (fun z => z.cps.toList) := by
    have h1 := splitMax_split z 32 (by decide) (ks.length : Int) (by omega)
    rw [← cBl, Int.toNat_natCast] at h1
    obtain ⟨p1, r1, h2⟩ := splitF_cons 32 z.cps.toList ks.length
    cases hq : Txt.splitMax z " " (ks.length : Int) with
    | nil => rw [hq, h2] at h1; cases h1
    | cons a b => rw [hq] at h1; exact ⟨a, b, rfl, h1.symm⟩
  have lk : (ks.map V.str).length = ks.length := by rw [List.length_map]
  refine ⟨.inr nm, rfl, _, tv, ta, rfl, ks.map V.str, .inr (tq _), by decide +kernel, zl, by omega, by rw [lk]; omega, fun sh hsh => ?_⟩
  rw [lk, e2]
  have s2 := same_new hsh (.lst ((sp1 :: sps).map V.str))
  have hs2 : (upd H1 sh (.lst ((sp1 :: sps).map V.str))) sh = some (.lst ((sp1 :: sps).map V.str)) := upd_same
  have s12 := s1.trans s2
  generalize upd H1 sh (.lst ((sp1 :: sps).map V.str)) = H2 at s2 hs2 s12 ⊢
  refine ⟨_, SqL.of hs2, _, atI_nat (j := 0) rfl, rfl, ?_⟩
  have noDeed : (∀ ps as', splitF 32 ks.length z.cps.toList = nm.cps.toList :: ps → ¬ rdAs ks ps as') → ∀ L, Same H L → Bad0 NL L E := fun hno L sL => (qb fun nm' as' hh => by
    obtain ⟨ks', ps', h1, _, h2, h3⟩ := only nm' as' hh
    obtain rfl := tab_fun hks h1
    exact hno ps' as' h2 h3).on sL
  refine ite2 (fun c2 => noDeed (fun ps as' h _ => ?_) _ s12) fun c2 => ?_
  · have e3 : sp1 = nm := sx (by rw [h] at hsps; exact (List.cons.inj hsps).1.symm)
    rw [decide_eq_true (by rw [e3])] at c2
    cases c2
  have e3 : sp1 = nm := by
    cases h : decide (V.str sp1 = V.str nm) with
    | true => exact V.str.inj (of_decide_eq_true h)
    | false => rw [h] at c2; exact absurd rfl c2
  subst e3
  have lmost : sps.length ≤ ks.length := by
    have := split_many 32 z.cps.toList ks.length
    rw [hsps, List.length_cons, List.length_map] at this
    omega
  refine ⟨_, .inl (SqL.of hs2), ta, rfl, _, .inr (tq _), ite2 (fun c3 => noDeed (fun ps as' h hra => ?_) _ s12) fun c3 => ?_⟩
  · have c3' := of_decide_eq_true c3
    have := (rdAs_len hra).1
    rw [h] at hsps
    have e4 := (List.cons.inj hsps).2
    rw [e4, List.length_map] at this
    rw [lk, List.length_map, List.length_cons] at c3'
    omega
  have lps : sps.length = ks.length := by
    have c3' : ¬ ((((sp1 :: sps).map V.str).length : Nat) : Int) ≤ (((ks.map V.str).length : Nat) : Int) := fun y => c3 (decide_eq_true y)
    rw [lk, List.length_map, List.length_cons] at c3'
    omega
  refine ⟨by decide, fun r hr0 => ⟨_, SqL.of (same_new hr0 _ _ _ hs2), fun c hc => ?_⟩⟩
  have ec : cutV ((sp1 :: sps).map V.str) (some 1) none = sps.map V.str := by
    unfold cutV HT.sIx
    simp
    exact List.take_of_length_le (by rw [List.length_map]; exact Nat.le_refl _)
  rw [ec]
  have nrc : r ≠ c := fun y => by rw [← y, upd_same] at hc; cases hc
  have s3 : Same H2 (upd (upd H2 r (.lst [V.str sp1])) c (.lst (sps.map V.str))) := (same_new hr0 _).trans (same_new hc _)
  have hr3 : (upd (upd H2 r (.lst [V.str sp1])) c (.lst (sps.map V.str))) r = some (.lst [V.str sp1]) := by rw [upd_ne nrc]; exact upd_same
  have hc3 : (upd (upd H2 r (.lst [V.str sp1])) c (.lst (sps.map V.str))) c = some (.lst (sps.map V.str)) := upd_same
  have hHr : H r = none := s12.free hr0
  generalize upd (upd H2 r (.lst [V.str sp1])) c (.lst (sps.map V.str)) = H3 at s3 hr3 hc3 ⊢
  have s03 := s12.trans s3
  refine ⟨ta, rfl, _, tq _, _, SqL.of hc3, ?_⟩
  refine forW_zip (by rw [lk, List.length_map, lps]) (fun i σ L => invRD z sp1 ta sh r ks sps H i σ L ∧ L c = some (.lst (sps.map V.str))) ⟨⟨[], [V.str sp1], none, none, rfl, s03, hr3, ?_, rfl, fun b hb => by simp at hb, by rw [List.take_zero, List.take_zero]; trivial⟩, hc3⟩ ?_ ?_ ?_
  · exact DeepTs.one (by rw [DeepT])
  · rintro i σ L hi ⟨_, hcL⟩
    exact ⟨tq L, SqL.of hcL⟩
  · rintro i ka pb T1 σ L hka hpb ⟨⟨as, xs, v5, v6, rfl, sL, hL, hd, hxl, hfr, hra⟩, hcL⟩ hT
    rw [List.getElem?_map] at hka hpb
    obtain ⟨kk, hkk, rfl⟩ := Option.map_eq_some_iff.mp hka
    obtain ⟨y, hy, rfl⟩ := Option.map_eq_some_iff.mp hpb
    have hil : i < ks.length := (List.getElem?_eq_some_iff.mp hkk).1
    have hym : y.cps.toList ∈ splitF 32 ks.length z.cps.toList := by
      rw [hsps]
      exact List.mem_cons_of_mem _ (List.mem_map.mpr ⟨y, List.mem_of_getElem? hy, rfl⟩)
    have hyi := split_in 32 _ _ _ hym
    rw [slen, slen] at hyi
    have hyA : Asc y := fun c hc => hA c (hyi.2 c hc)
    simpa only [spRFs, spRF, tyV]
    refine ⟨_, SqT.of upd_same, rfl, ?_⟩
    simpa only [spRFs, spRF, tyV]
    have sT := same_new hT (.tup [V.str kk, V.str y])
    have hrT : (upd L T1 (.tup [V.str kk, V.str y])) r = some (.lst xs) := sT _ _ hL
    have tk1 : ks.take (i + 1) = ks.take i ++ [kk] := by rw [List.take_add_one, hkk]; rfl
    have tk2 : (sps.take (i + 1)).map (fun z => z.cps.toList) = (sps.take i).map (fun z => z.cps.toList) ++ [y.cps.toList] := by rw [List.take_add_one, hy, List.map_append]; rfl
    have fin : ∀ (a : KU.Arg) (v : V) (L2 : Hp), rdA kk y.cps.toList a → Same (upd L T1 (.tup [V.str kk, V.str y])) L2 → DeepT (hide r L2) (dvA a) v → (∀ b, v = .ref b → H b = none) → ∀ v5 v6 : Option V,
        invRD z sp1 ta sh r ks sps H (i + 1) [some (.str z), some (.str sp1), some (.ref ta), some (.ref sh), some (.ref r), v5, v6] (upd L2 r (.lst (xs ++ [v]))) ∧ (upd L2 r (.lst (xs ++ [v]))) c = some (.lst (sps.map V.str)) := by
      intro a v L2 ha sL2 hv hf v5 v6
      refine ⟨⟨as ++ [a], xs ++ [v], v5, v6, rfl, (sL.trans (sT.trans sL2)).newer hHr _, upd_same, ?_, by rw [List.length_append, hxl]; rfl, fun b hb => ?_, by rw [tk1, tk2]; exact rdAs_snoc hra ha⟩, ?_⟩
      · rw [hide_upd]
        have e3 : dvD sp1 (as ++ [a]) = dvD sp1 as ++ [dvA a] := by
          unfold dvD
          rw [List.map_append]
          rfl
        rw [e3]
        exact DeepTs.app (hd.same (hide_mono (sT.trans sL2))) (DeepTs.one hv)
      · rcases List.mem_append.mp hb with h1 | h1
        · exact hfr b h1
        · exact hf b (List.mem_singleton.mp h1).symm
      · rw [upd_ne nrc.symm]
        exact sL2 _ _ (sT _ _ hcL)
    have noArg : (∀ a, ¬ rdA kk y.cps.toList a) → ∀ L2, Same (upd L T1 (.tup [V.str kk, V.str y])) L2 → Bad0 NL L2 E := fun hno L2 sL2 => noDeed (fun ps as' h hr' => by
      rw [h] at hsps
      have e4 := (List.cons.inj hsps).2
      rw [e4] at hr'
      obtain ⟨a, ha⟩ := rdAs_get hr' hkk (by rw [List.getElem?_map, hy]; rfl)
      exact hno a ha) L2 (sL.trans (sT.trans sL2))
    refine ⟨.inl ⟨_, SqL.of hrT⟩, ?_⟩
    have hkm : kk = "fields" ∨ kk = "number" := by
      have all : ∀ q ∈ tab, ∀ k ∈ q.2, k = "fields" ∨ k = "number" := by decide +kernel
      exact all _ hks kk (List.mem_of_getElem? hkk)
    have nfn : ¬ ("number" : Str) = "fields" := by decide +kernel
    refine ite2 (fun c4 => ?_) fun c4 => ?_
    · have kf : kk = "fields" := of_decide_eq_true c4
      refine ⟨by omega, hyA, fun d hd pn us L2 sL2 hpn hpL hus => ⟨_, sL2 _ _ hrT, by rw [hxl, sizeLine_eq]; omega, ?_⟩, fun hno => noArg (fun a ha => ?_) _ (fun _ _ e => e)⟩
      · refine fin (.doc d) (.ref pn) L2 ⟨kf, hd⟩ sL2 ?_ (fun b hb => ?_) _ _
        · show DeepT _ (.lst (d.map dvF)) _
          rw [DeepT]
          have npr : pn ≠ r := fun y => by rw [y] at hpn; exact absurd (hrT.symm.trans hpn) (by intro z; cases z)
          exact ⟨pn, us, rfl, by rw [hide_ne npr]; exact hpL, deepF_hide (sL2 _ _ hrT) d us hus⟩
        · cases hb
          exact (sL.trans sT).free hpn
      · cases a with
        | num n => exact nfn (ha.1.symm.trans kf)
        | doc d => exact hno d ha.2
    · have kn : kk = "number" := hkm.resolve_left fun e => c4 (decide_eq_true e)
      refine ⟨by omega, fun n n0 n1 hn L2 sL2 => ⟨_, sL2 _ _ hrT, by rw [hxl, sizeLine_eq]; omega, ?_⟩, fun hno => noArg (fun a ha => ?_) _ (fun _ _ e => e)⟩
      · exact fin (.num n) (.int n) L2 ⟨kn, n0, n1, hn⟩ sL2 (by show DeepT _ (.int n) _; rw [DeepT]) (fun b hb => by cases hb) _ _
      · cases a with
        | num n =>
          obtain ⟨_, n0, n1, hn⟩ := ha
          rw [hn, numB_digs n0 n1] at hno
          cases hno
        | doc d => exact nfn (kn.symm.trans ha.1)
  · rintro σ L ⟨⟨as, xs, v5, v6, rfl, sL, hL, hd, hxl, hfr, hra⟩, hcL⟩
    rw [lk, List.take_length, ← lps, List.take_length] at hra
    simpa only [and_self]
    exact ⟨_, SqL.of hL, fun l hl => q sp1 as ⟨ks, _, hks, hsps, hra⟩ l xs _ (sL.trans (same_new hl _)) (sL.free hl) upd_same ((hd.same (hide_same r L)).same (same_new hl _)) hfr⟩
end
def okA : KU.Arg → Prop
  | .num n => 0 ≤ n ∧ n < 10 ^ 60
  | .doc d => Doc d
def Good (nm : Str) (as : List KU.Arg) : Prop := (nm, as.map kindOf) ∈ tab ∧ ∀ a ∈ as, okA a
theorem log60 {n : Int} (n0 : 0 ≤ n) (n1 : n < 10 ^ 60) : n.natAbs.log2 < 1920 := by
  obtain ⟨m, rfl⟩ := Int.eq_ofNat_of_zero_le n0
  have h1 : m < 2 ^ 1920 := by
    have h2 : (m : Int) < ((10 ^ 60 : Nat) : Int) := by exact_mod_cast n1
    have h3 : m < 10 ^ 60 := by omega
    exact Nat.lt_trans h3 (by decide +kernel)
  show m.log2 < 1920
  by_cases h0 : m = 0
  · subst h0; decide
  · exact (Nat.log2_lt h0).mpr h1
theorem flat_len : ∀ (ps : List (List Nat)), (∀ p ∈ ps, p.length ≤ 2015) → (ps.flatMap ([32] ++ ·)).length ≤ ps.length * 2016
  | [], _ => by simp
  | p :: ps, hp => by
    have h3 := hp p List.mem_cons_self
    have h4 := flat_len ps fun q hq => hp q (List.mem_cons_of_mem _ hq)
    rw [List.flatMap_cons, List.length_append, List.length_append, List.length_singleton, List.length_cons]
    omega
theorem arg_len {x : KU.Arg} (h : okA x) : (argL x).length ≤ 40400 := by
  cases x with
  | num n =>
    have := digs_len h.1 h.2
    show (digs n).length ≤ 40400
    omega
  | doc d =>
    have hD : Doc d := h
    cases d with
    | nil => show 4 ≤ 40400; decide
    | cons x d =>
      have hok := dw_ok hD.1
      rw [argL_doc (by simp)]
      show (joinL [32] (fieldL (pairL x) :: docL d)).length ≤ 40400
      have b : ∀ y ∈ x :: d, (fieldL (pairL y)).length ≤ 2015 := fun y hy => field_len (nm_len (hok y hy)).2 (hD.2.2 y hy).2
      have h1 := b x List.mem_cons_self
      have h2 := flat_len (docL d) fun p hp => by
        obtain ⟨y, hy, e⟩ := List.mem_map.mp hp
        rw [← e]
        exact b y (List.mem_cons_of_mem _ hy)
      have h3 : (docL d).length = d.length := by unfold docL; rw [List.length_map]
      have h4 := hD.2.1
      rw [List.length_cons] at h4
      rw [joinL_flat, List.length_append]
      omega
def spShD : Sp := fun vs H Q _ => ∃ (a : Addr) (nm : Str) (as : List KU.Arg) (xs : List V), vs = [.ref a] ∧ H a = some (.tup xs) ∧ DeepTs H (dvD nm as) xs ∧ Good nm as ∧ ∀ (z : Str) (H' : Hp), Same H H' → z.cps.toList = lineL nm as → Q (.str z) H'
open PyProof.Rows (sortedS)
abbrev cLt : Str := "abcdefghijklmnopqrstuvwxyz"
theorem lt_len : cLt.length = 26 := by decide +kernel
theorem lt_all : ∀ c ∈ cLt.cps.toList, lower1 c = true := by decide +kernel
theorem lt_at {k : Int} (h0 : 0 ≤ k) (h : k < 26) : ∃ c, atI cLt.cps.toList k = some c ∧ lower1 c = true := by
  obtain ⟨c, h1, h2⟩ := atI_of (xs := cLt.cps.toList) h0 (by rw [slen, lt_len]; exact h)
  exact ⟨c, h1, lt_all c (List.mem_of_getElem? h2)⟩
def spNms : Sp := fun vs H Q _ => ∃ (d : Addr) (ns : List D31), vs = [.ref d] ∧ H d = some (.lst (ns.map dI)) ∧
  ∀ (r : Addr) (ys : List Str) (ns' : List D31) (H' : Hp), SameX d H H' → H' d = some (.lst (ns'.map dI)) → H r = none → H' r = some (.lst (ys.map V.str)) → ys.length ≤ 3 → ys.Nodup → sortedS ys = true → (∀ y ∈ ys, okNm y = true) → Q (.ref r) H'
theorem putK_keys {kvs : List (Key × V)} {zs : List Str} {z : Str} {v : V} (h : kvs.map (·.1) = zs.map Sum.inr) : (putK kvs (Sum.inr z) v).map (·.1) = (if z ∈ zs then zs else zs ++ [z]).map Sum.inr := by
  have hm : (kvs.any fun kv => decide (kv.1 = (Sum.inr z : Key))) = true ↔ z ∈ zs := by
    rw [List.any_eq_true]
    constructor
    · rintro ⟨kv, h1, h2⟩
      have h3 : kv.1 ∈ zs.map Sum.inr := by rw [← h]; exact List.mem_map.mpr ⟨kv, h1, rfl⟩
      rw [of_decide_eq_true h2] at h3
      obtain ⟨y, h4, h5⟩ := List.mem_map.mp h3
      rw [← Sum.inr.inj h5]; exact h4
    · intro h1
      have h3 : (Sum.inr z : Key) ∈ kvs.map (·.1) := by rw [h]; exact List.mem_map.mpr ⟨z, h1, rfl⟩
      obtain ⟨kv, h4, h5⟩ := List.mem_map.mp h3
      exact ⟨kv, h4, decide_eq_true h5⟩
  unfold putK
  by_cases hz : z ∈ zs
  · rw [if_pos (hm.mpr hz), if_pos hz, ← h, List.map_map]
    apply List.map_congr_left
    intro kv _
    show (if kv.1 = Sum.inr z then (kv.1, v) else kv).1 = kv.1
    split <;> rfl
  · rw [if_neg (fun y => hz (hm.mp y)), if_neg hz, List.map_append, List.map_append, h]
    rfl
theorem join_ones : ∀ cs : List Nat, joinL [] (cs.map fun c => [c]) = cs
  | [] => rfl
  | [c] => rfl
  | c :: d :: r => by
    show [c] ++ [] ++ joinL [] ((d :: r).map fun c => [c]) = _
    rw [join_ones (d :: r)]
    rfl
def invNc (num : Int) (L0 : Hp) (i : Nat) (ys : List V) (σ : St) (L : Hp) : Prop := ∃ (cs : List Nat) (v0 : Option V), ys = (cs.map fun c => V.str ⟨#[c]⟩) ∧ cs.length = i ∧ (∀ c ∈ cs, lower1 c = true) ∧ L = L0 ∧ σ = [v0, some (.str cLt), some (.int num)]
section
variable {P : Program} {w : World} {K : PySem.W.Frag} {mg : Str → Option Value} {base : Heap} {f : Addr} {fd : FuncData}
theorem scNms : FnScope ["_law_draws_here", "_law_letters", "_law_found", "_law_k", "_law_number_here", "_law_name"] ["_law_draws_here"] (defScope sNms) := ⟨rfl, rfl, rfl, by decide +kernel, rfl, by decide +kernel, by decide +kernel⟩
def invNm (d fo : Addr) (H : Hp) (i : Nat) (σ : St) (L : Hp) : Prop := ∃ (kvs : List (Key × V)) (zs : List Str) (ns : List D31) (v3 v4 v5 : Option V), σ = [some (.ref d), some (.str cLt), some (.ref fo), v3, v4, v5] ∧ SameX d H L ∧ L d = some (.lst (ns.map dI)) ∧ L fo = some (.dK kvs) ∧ kvs.map (·.1) = zs.map Sum.inr ∧ zs.length ≤ i ∧ zs.Nodup ∧ ∀ y ∈ zs, okNm y = true
theorem ok_nms {gp : Addr} {dp : FuncData} (F : Fun K "_law_names" "_law_names" sNms f fd) (T : Txt mg) (GP : FnOk P w K mg base CX0 1 gp dp ["_law_draws_here"] spPop) (bP : Binds K dp ["_law_draws_here"] []) (kP : PySem.W.keepIn K (.ref gp) = true) (mP : mg "_law_pop" = some (.ref gp)) : FnOk P w K mg base CX0 2 f fd ["_law_draws_here"] spNms := by
  refine F.ok scNms (fun vs H Q E h => ?_) (fun cdv A outer s H vs Q E hr h => ?_)
  · obtain ⟨d, ns, rfl, _⟩ := h
    rfl
  obtain ⟨d, ns, rfl, hd, q⟩ := h
  refine ⟨_, (pss_cons (ps_set (i := 1) scNms.nd rfl (Or.inr rfl) pe_str)
    (pss_cons (ps_set (i := 2) scNms.nd rfl (Or.inl rfl) pe_dnewK)
    (pss_cons (ps_for PassesOwn.never rfl (pi_range1 rfl T.range (pa_cons (pe_ix (ixL K) (pe_lst (@pa_cons _ _ _ _ _ pe_int (@pa_cons _ _ _ _ _ pe_int (@pa_cons _ _ _ _ _ pe_int (@pa_cons _ _ _ _ _ pe_int (@pa_cons _ _ _ _ _ pe_int (@pa_cons _ _ _ _ _ pe_int pa_nil star_K) star_K) star_K) star_K) star_K) star_K)) (pe_op op_mod (pe_call GP hr rfl mP kP bP .nil pass0 (pa_cons (pv 0) pa_nil)) pe_int) (fun _ _ => rfl)) pa_nil)) (pg_name (i := 3) scNms.nd rfl (Or.inl rfl))
      (pss_cons (ps_set (i := 4) scNms.nd rfl (Or.inr rfl) (pe_call GP hr rfl mP kP bP .nil pass0 (pa_cons (pv 0) pa_nil)))
    (pss_cons (ps_set (i := 5) scNms.nd rfl (Or.inl rfl) (bmK K PySem.F.plainAttrs_str PySem.F.slot_str_join PySem.F.type_str_join (mt_joinW K) pe_str (pa_cons (pe_comp (N := ["_law_j", "_law_letters", "_law_number_here"]) (pick := [none, some 1, some 4]) (NX := ["_law_draws_here", "_law_letters", "_law_found", "_law_k", "_law_number_here", "_law_name"]) (sX := defScope sNms) (by decide +kernel) rfl rfl rfl (pi_range1 rfl T.range (pa_cons (pe_op op_add pe_int (pe_op op_mod (pv 4) pe_int)) pa_nil))
        (fun _ _ _ _ => (pg_name (i := 0) (by decide +kernel : (["_law_j", "_law_letters", "_law_number_here"] : List Str).Nodup) rfl (Or.inl rfl))) (fun _ _ _ _ => pifs_nil) (fun _ _ _ _ => (pe_ix ix_str (pv 1) (pe_op op_mod (pe_op op_add (pe_op op_fdiv (pv 2) pe_int) (pe_op op_mul (pe_op op_mul (pv 0) (pv 0)) pe_int)) pe_int) (fun _ _ => rfl)))) pa_nil)))
    (pss_one (ps_dput (hu_of hr) (pv 2) (pe_op op_add_str (pe_ix ix_str (pv 1) (pe_op op_mod (pe_op op_fdiv (pv 4) pe_int) pe_int) (fun _ _ => rfl)) (pv 5)) pe_bl rfl)))))
    (pss_one (ps_ret (pe_callB call_sortedD rfl T.sorted (by decide +kernel) (pa_cons (pv 2) pa_nil))))))), ?_⟩
  simpa only [spPop, tDNewK]
  intro fo hfo
  refine ⟨by decide, fun p hp => ?_⟩
  have nfd : fo ≠ d := fun y => by rw [y, hd] at hfo; cases hfo
  have npd : p ≠ d := fun y => by rw [y, upd_ne nfd.symm, hd] at hp; cases hp
  have npf : fo ≠ p := fun y => by rw [← y, upd_same] at hp; cases hp
  have s1 : Same H (upd (upd H fo (.dK [])) p (.lst [V.int 0, V.int 1, V.int 2, V.int 3, V.int 1, V.int 2])) := (same_new hfo _).trans (same_new hp _)
  have hp1 : (upd (upd H fo (.dK [])) p (.lst [V.int 0, V.int 1, V.int 2, V.int 3, V.int 1, V.int 2])) p = some (.lst [V.int 0, V.int 1, V.int 2, V.int 3, V.int 1, V.int 2]) := upd_same
  have hf1 : (upd (upd H fo (.dK [])) p (.lst [V.int 0, V.int 1, V.int 2, V.int 3, V.int 1, V.int 2])) fo = some (.dK []) := by rw [upd_ne npf]; exact upd_same
  generalize upd (upd H fo (.dK [])) p (.lst [V.int 0, V.int 1, V.int 2, V.int 3, V.int 1, V.int 2]) = H1 at s1 hp1 hf1 ⊢
  refine ⟨ns, s1 _ _ hd, fun ⟨z, _⟩ ns1 H2 sx hd2 => ⟨by decide, _, SqL.of (sx _ _ hp1 npd), ?_⟩⟩
  obtain ⟨j, hj, j0, j3⟩ : ∃ j : Int, atI [V.int 0, V.int 1, V.int 2, V.int 3, V.int 1, V.int 2] (z % 6) = some (.int j) ∧ 0 ≤ j ∧ j ≤ 3 := by
    have h0 := Int.emod_nonneg z (show (6 : Int) ≠ 0 by decide)
    have h1 := Int.emod_lt_of_pos z (show (0 : Int) < 6 by decide)
    have h2 : z % 6 = 0 ∨ z % 6 = 1 ∨ z % 6 = 2 ∨ z % 6 = 3 ∨ z % 6 = 4 ∨ z % 6 = 5 := by omega
    rcases h2 with e | e | e | e | e | e <;> (rw [e]; exact ⟨_, rfl, by decide, by decide⟩)
  refine ⟨_, hj, j, rfl, by omega, by omega, ?_⟩
  refine forW_range (lo := 0) (invNm d fo H) ⟨[], [], ns1, none, none, none, rfl, fun b o e ne => sx b o (s1 b o e) ne, hd2, sx _ _ hf1 nfd, rfl, Nat.le_refl _, List.nodup_nil, fun y hy => by cases hy⟩ ?_ ?_
  · rintro i σ L hi ⟨kvs, zs, ns2, v3, v4, v5, rfl, sL, hdL, hfL, hk, hzl, hnd, hzo⟩
    simpa only [spPop, tyV]
    refine ⟨ns2, hdL, fun ⟨num, _⟩ ns3 L3 sx3 hd3 => ?_⟩
    have hf3 : L3 fo = some (.dK kvs) := sx3 _ _ hfL nfd
    have n0 := Int.emod_nonneg num (show (11 : Int) ≠ 0 by decide)
    have n1 := Int.emod_lt_of_pos num (show (0 : Int) < 11 by decide)
    refine ⟨by decide, by omega, by omega, ?_⟩
    refine compW_range (lo := 0) (invNc num L3) ⟨[], none, rfl, rfl, (fun c hc => by cases hc), rfl, rfl⟩ ?_ ?_ ?_
    · rintro k ys σ M hk2 ⟨cs, v0, rfl, hc1, hc2, rfl, rfl⟩
      rw [List.length_map, sizeLine_eq]; omega
    · rintro k ys σ M hk2 ⟨cs, v0, rfl, hc1, hc2, rfl, rfl⟩
      simpa only [and_self]
      have y0 := Int.emod_nonneg (num / 13 + (0 + (k : Int)) * (0 + (k : Int)) * 7) (show (26 : Int) ≠ 0 by decide)
      have y1 := Int.emod_lt_of_pos (num / 13 + (0 + (k : Int)) * (0 + (k : Int)) * 7) (show (0 : Int) < 26 by decide)
      obtain ⟨c, hc3, hc4⟩ := lt_at y0 y1
      refine ⟨⟨by decide, by decide⟩, .inl ⟨by omega, by omega⟩, .inr ⟨by decide, by decide⟩, by decide, by rw [sizeLine_eq, lt_len]; decide, c, hc3, cs ++ [c], _, by rw [List.map_append]; rfl, by rw [List.length_append, hc1]; rfl, fun x hx => ?_, rfl, rfl⟩
      rcases List.mem_append.mp hx with h1 | h1
      · exact hc2 x h1
      · rw [List.mem_singleton.mp h1]; exact hc4
    · rintro ys σ M ⟨cs, v0, rfl, hc1, hc2, rfl, rfl⟩ p2 hp2
      simpa only [rJoinW, sDPut]
      have hM : SqL K (upd M p2 (.lst (cs.map fun c => V.str ⟨#[c]⟩))) p2 ((cs.map fun c => (⟨#[c]⟩ : Str)).map V.str) := by
        rw [List.map_map]
        exact SqL.of upd_same
      have ej : (Txt.join "" (cs.map fun c => (⟨#[c]⟩ : Str))).cps.toList = cs := by
        rw [txt_join, List.map_map]
        exact join_ones cs
      have el : (Txt.join "" (cs.map fun c => (⟨#[c]⟩ : Str))).length = cs.length := by rw [← slen, ej]
      have y0 := Int.emod_nonneg (num / 500) (show (26 : Int) ≠ 0 by decide)
      have y1 := Int.emod_lt_of_pos (num / 500) (show (0 : Int) < 26 by decide)
      obtain ⟨c, hc3, hc4⟩ := lt_at y0 y1
      have hcl : cs.length ≤ 11 ∧ 1 ≤ cs.length := by omega
      have hS := StrLaws.sumLen_le (B := 1) (cs.map fun c => (⟨#[c]⟩ : Str)) (fun y hy => by obtain ⟨c, _, rfl⟩ := List.mem_map.mp hy; exact Nat.le_refl _)
      rw [List.length_map] at hS
      refine ⟨_, hM, by decide +kernel, by rw [List.length_map]; omega, ⟨by decide, by decide⟩, by decide, by rw [sizeLine_eq, lt_len]; decide, c, hc3, by rw [el, sizeLine_eq]; show 1 + cs.length ≤ _; omega, ?_⟩
      generalize Txt.join "" (cs.map fun c => (⟨#[c]⟩ : Str)) = nmz at ej el ⊢
      have en : ((⟨#[c]⟩ : Str) ++ nmz).cps.toList = c :: cs := by rw [app_cps, ej]; rfl
      have lnz : ((⟨#[c]⟩ : Str) ++ nmz).length = cs.length + 1 := by rw [← slen, en]; rfl
      have onz : okNm ((⟨#[c]⟩ : Str) ++ nmz) = true := by
        unfold okNm
        rw [lnz, en, decide_eq_true (by omega), Bool.true_and, List.all_eq_true]
        intro x hx
        rcases List.mem_cons.mp hx with h1 | h1
        · rw [h1]; exact hc4
        · exact hc2 x h1
      generalize ((⟨#[c]⟩ : Str) ++ nmz) = nz at onz ⊢
      have hf4 : (upd M p2 (.lst (cs.map fun c => V.str ⟨#[c]⟩))) fo = some (.dK kvs) := upd_at hf3 hp2
      have hd4 : (upd M p2 (.lst (cs.map fun c => V.str ⟨#[c]⟩))) d = some (.lst (ns3.map dI)) := upd_at hd3 hp2
      have kl : kvs.length = zs.length := by have := congrArg List.length hk; rwa [List.length_map, List.length_map] at this
      refine ⟨_, DPut.k (k := Sum.inr nz) hf4 (by rw [kl, sizeLine_eq]; omega), _, _, ns3, _, _, _, rfl, ?_, by rw [upd_ne nfd.symm]; exact hd4, upd_same, putK_keys hk, ?_, ?_, ?_⟩
      · intro b o e ne
        have e1 := sx3 _ _ (sL b o e ne) ne
        have nb : b ≠ fo := fun y => by rw [y, hfo] at e; cases e
        rw [upd_ne nb]
        exact upd_at e1 hp2
      · split
        · omega
        · rw [List.length_append, List.length_singleton]; omega
      · split
        · exact hnd
        · rename_i hnm
          rw [List.nodup_append]
          exact ⟨hnd, by simp, fun a ha b hb => by rw [List.mem_singleton.mp hb]; intro y; rw [y] at ha; exact hnm ha⟩
      · intro y hy
        split at hy
        · exact hzo y hy
        · rcases List.mem_append.mp hy with h1 | h1
          · exact hzo y h1
          · rw [List.mem_singleton.mp h1]; exact onz
  · rintro σ L ⟨kvs, zs, ns2, v3, v4, v5, rfl, sL, hdL, hfL, hk, hzl, hnd, hzo⟩
    simpa only [and_self]
    refine ⟨_, hfL, zs, hk, by omega, fun r ys hr0 hpm hso => q r ys ns2 _ (fun b o e ne => ?_) ?_ ?_ upd_same ?_ ?_ hso fun y hy => hzo y (hpm.mem_iff.mp hy)⟩
    · have := sL b o e ne
      rw [upd_ne (ne_of_none this hr0)]; exact this
    · rw [upd_ne (ne_of_none hdL hr0)]; exact hdL
    · cases hq : H r with
      | none => rfl
      | some o =>
        have ne : r ≠ d := fun y => by rw [y, hdL] at hr0; cases hr0
        rw [sL r o hq ne] at hr0; cases hr0
    · rw [hpm.length_eq]; omega
    · exact hpm.nodup_iff.mpr hnd
end
abbrev cSg : Str := " !\"#$&'()*+,-./0123456789:;<=>?@ABCDEFGHIJKLMNOPQRSTUVWXYZ[\\]^_`abcdefghijklmnopqrstuvwxyz{|}~"
def spText : Sp := fun vs H Q _ => ∃ (d : Addr) (ns : List D31), vs = [.ref d] ∧ H d = some (.lst (ns.map dI)) ∧
  ∀ (z : Str) (ns' : List D31) (H' : Hp), SameX d H H' → H' d = some (.lst (ns'.map dI)) → z.length ≤ 9 → Asc z → Q (.str z) H'
def smD (d : List Fld) : Prop := d.length ≤ 3 ∧ ∀ x ∈ d, x.2.length ≤ 9
def spDoc : Sp := fun vs H Q _ => ∃ (d : Addr) (ns : List D31), vs = [.ref d] ∧ H d = some (.lst (ns.map dI)) ∧
  ∀ (p : Addr) (dc : List Fld) (xs : List V) (ns' : List D31) (H' : Hp), SameX d H H' → H' d = some (.lst (ns'.map dI)) → H p = none → H' p = some (.lst xs) → DeepTs H' (dc.map dvF) xs → Doc dc → smD dc → Q (.ref p) H'
def Scr (K : PySem.W.Frag) (d a : Addr) (ss : List Int) (H : Hp) : Prop := ss.length ≤ 63 ∧ ∀ L, SameX d H L → SqL K L a (ss.map V.int)
theorem Scr.mono {K : PySem.W.Frag} {d a : Addr} {ss : List Int} {H L : Hp} (h : Scr K d a ss H) (s : SameX d H L) : Scr K d a ss L := ⟨h.1, fun M t => h.2 M (s.trans t)⟩
def spNum (K : PySem.W.Frag) : Sp := fun vs H Q _ => ∃ (a d : Addr) (ss : List Int) (ns : List D31), vs = [.ref a, .ref d] ∧ Scr K d a ss H ∧ H d = some (.lst (ns.map dI)) ∧
  ∀ (n : Int) (ns' : List D31) (H' : Hp), SameX d H H' → H' d = some (.lst (ns'.map dI)) → 0 ≤ n → n < 10 ^ 60 → Q (.int n) H'
theorem dw_rise : ∀ {dc : List Fld} {p : Str} {j : Nat}, (∀ x ∈ dc, okNm x.1 = true) → (∀ x r, dc = x :: r → p.cps.toList < x.1.cps.toList) → (dc.map (·.1)).Nodup → PyProof.Rows.sortedS (dc.map (·.1)) = true → dw p j dc = none
  | [], _, _, _, _, _, _ => rfl
  | x :: dc, p, j, ho, hp, hn, hs => by
    have hb : badF p x.1 = false := by
      unfold badF
      rw [ho x List.mem_cons_self, decide_eq_true (hp x dc rfl)]
      rfl
    rw [dw, if_neg (by rw [hb]; exact Bool.false_ne_true)]
    have hn' := List.nodup_cons.mp hn
    refine dw_rise (fun y hy => ho y (List.mem_cons_of_mem _ hy)) (fun y r e => ?_) hn'.2 ?_
    · subst e
      have hs' : (!PySem.Spec.ltCps y.1.cps.toList x.1.cps.toList && PyProof.Rows.risingS y.1 (r.map (·.1))) = true := hs
      rw [Bool.and_eq_true, PyProof.Rows.ltCps_eq, Bool.not_eq_true', decide_eq_false_iff_not] at hs'
      have ne : x.1.cps.toList ≠ y.1.cps.toList := fun e => hn'.1 (by show x.1 ∈ _; rw [sx e]; exact List.mem_cons_self)
      exact Classical.byContradiction fun h => ne (List.le_antisymm (List.not_lt.mp hs'.1) (List.not_lt.mp h))
    · cases dc with
      | nil => rfl
      | cons y r =>
        have hs' : (!PySem.Spec.ltCps y.1.cps.toList x.1.cps.toList && PyProof.Rows.risingS y.1 (r.map (·.1))) = true := hs
        rw [Bool.and_eq_true] at hs'
        exact hs'.2
section
variable {P : Program} {w : World} {K : PySem.W.Frag} {mg : Str → Option Value} {base : Heap} {f : Addr} {fd : FuncData}
theorem scT : FnScope ["_law_draws_here", "_law_signs", "_law_found", "_law_k", "_law_number_here", "_law_some"] ["_law_draws_here"] (defScope sText) := ⟨rfl, rfl, rfl, by decide +kernel, rfl, by decide +kernel, by decide +kernel⟩
def invX (d : Addr) (H : Hp) (i : Nat) (σ : St) (L : Hp) : Prop := ∃ (z : Str) (ns : List D31) (v3 v4 v5 : Option V), σ = [some (.ref d), some (.str cSg), some (.str z), v3, v4, v5] ∧ SameX d H L ∧ L d = some (.lst (ns.map dI)) ∧ z.length = i ∧ Asc z
theorem ok_text {gp : Addr} {dp : FuncData} (F : Fun K "_law_text" "_law_text" sText f fd) (T : Txt mg) (GP : FnOk P w K mg base CX0 1 gp dp ["_law_draws_here"] spPop) (bP : Binds K dp ["_law_draws_here"] []) (kP : PySem.W.keepIn K (.ref gp) = true) (mP : mg "_law_pop" = some (.ref gp)) : FnOk P w K mg base CX0 2 f fd ["_law_draws_here"] spText := by
  refine F.ok scT (fun vs H Q E h => ?_) (fun cdv A outer s H vs Q E hr h => ?_)
  · obtain ⟨d, ns, rfl, _⟩ := h
    rfl
  obtain ⟨d, ns, rfl, hd, q⟩ := h
  refine ⟨_, (pss_cons (ps_set (i := 1) scT.nd rfl (Or.inl rfl) pe_str)
    (pss_cons (ps_set (i := 2) scT.nd rfl (Or.inl rfl) pe_str)
    (pss_cons (ps_for PassesOwn.never rfl (pi_range1 rfl T.range (pa_cons (pe_op op_mod (pe_call GP hr rfl mP kP bP .nil pass0 (pa_cons (pv 0) pa_nil)) pe_int) pa_nil)) (pg_name (i := 3) scT.nd rfl (Or.inl rfl))
      (pss_cons (ps_set (i := 4) scT.nd rfl (Or.inl rfl) (pe_call GP hr rfl mP kP bP .nil pass0 (pa_cons (pv 0) pa_nil)))
    (pss_cons (ps_set (i := 5) scT.nd rfl (Or.inl rfl) (pe_ix (ixL K) (pe_lst (pa_cons (pv 1) (pa_cons pe_str (pa_cons pe_str pa_nil)))) (pe_op op_mod (pv 4) pe_int) (fun _ _ => rfl)))
    (pss_one (ps_set (i := 2) scT.nd rfl (Or.inl rfl) (pe_op op_add_str (pv 2) (pe_ix ix_str (pv 5) (pe_op op_mod (pe_op op_fdiv (pv 4) pe_int) (pe_callB call_len_str rfl T.len PySem.boot_len (pa_cons (pv 5) pa_nil))) (fun _ _ => rfl))))))))
    (pss_one (ps_ret (pv 2)))))), ?_⟩
  simpa only [spPop]
  refine ⟨ns, hd, fun ⟨num, _⟩ ns1 H1 s1 hd1 => ⟨by decide, ?_⟩⟩
  have n0 := Int.emod_nonneg num (show (10 : Int) ≠ 0 by decide)
  have n1 := Int.emod_lt_of_pos num (show (0 : Int) < 10 by decide)
  refine ⟨by omega, by omega, ?_⟩
  refine forW_range (lo := 0) (invX d H) ⟨_, ns1, none, none, none, rfl, s1, hd1, rfl, fun c hc => absurd hc (by rw [show ("" : Str).cps.toList = [] from rfl]; exact List.not_mem_nil)⟩ ?_ ?_
  · rintro i σ L hi ⟨z, ns2, v3, v4, v5, rfl, sL, hdL, hz, hA⟩
    simpa only [spPop]
    refine ⟨ns2, hdL, fun ⟨one, _⟩ ns3 H3 s3 hd3 => ⟨by decide, fun p hp => ?_⟩⟩
    obtain ⟨s', hs', hor⟩ := pick3 (one := one) (s0 := cSg) (s1 := "' a:") (s2 := "ab''")
    have ok : s'.length ≤ 200 ∧ 0 < s'.length ∧ Asc s' := by
      rcases hor with e | e | e
      · rw [e]; unfold Asc; decide +kernel
      · rw [e]; unfold Asc; decide +kernel
      · rw [e]; unfold Asc; decide +kernel
    obtain ⟨k1, k2, k3⟩ := ok
    have x0 := Int.emod_nonneg (one / 3) (show (s'.length : Int) ≠ 0 by omega)
    have x1 := Int.emod_lt_of_pos (one / 3) (show (0 : Int) < (s'.length : Int) by omega)
    obtain ⟨v, hv, hv'⟩ := atI_of (xs := s'.cps.toList) x0 (by rw [slen]; exact x1)
    have sP := same_new hp (.lst [V.str cSg, V.str "' a:", V.str "ab''"])
    refine ⟨by decide, _, SqL.of upd_same, _, hs', ⟨by decide, by decide⟩, s', rfl, small (by omega), by omega, s', rfl, small (by omega), v, hv, small (by show z.length + 1 ≤ 1000; omega), ?_⟩
    have el : (z ++ (⟨#[v]⟩ : Str)).cps.toList = z.cps.toList ++ [v] := by rw [app_cps]
    refine ⟨_, ns3, _, _, _, rfl, sL.trans (s3.trans (SameX.of sP)), sP _ _ hd3, ?_, fun c hc => ?_⟩
    · rw [← slen, el, List.length_append, slen, hz]
      rfl
    · rw [el] at hc
      rcases List.mem_append.mp hc with h | h
      · exact hA c h
      · rw [List.mem_singleton] at h
        subst h
        exact k3 _ (List.mem_of_getElem? hv')
  · rintro σ L ⟨z, ns2, v3, v4, v5, rfl, sL, hdL, hz, hA⟩
    simpa only [and_self]
    exact q z ns2 L sL hdL (by omega) hA
theorem scDoc : FnScope ["_law_draws_here"] ["_law_draws_here"] (defScope sDoc) := ⟨rfl, rfl, rfl, by decide +kernel, rfl, by decide +kernel, by decide +kernel⟩
def invDc (d : Addr) (nmz : List Str) (H : Hp) (i : Nat) (ys : List V) (σ : St) (L : Hp) : Prop := ∃ (dc : List Fld) (ns : List D31) (v0 : Option V), σ = [v0, some (.ref d)] ∧ SameX d H L ∧ L d = some (.lst (ns.map dI)) ∧ dc.map (·.1) = nmz.take i ∧ (∀ x ∈ dc, Asc x.2 ∧ x.2.length ≤ 9) ∧ DeepTs (hide d L) (dc.map dvF) ys
theorem hideX {d : Addr} {H L : Hp} (s : SameX d H L) : Same (hide d H) (hide d L) := fun b o e => by
  by_cases hb : b = d
  · rw [hb, hide_at] at e; cases e
  · rw [hide_ne hb] at e ⊢
    exact s b o e hb
theorem ok_doc {gn gt : Addr} {dn dt : FuncData} (F : Fun K "_law_document" "_law_document" sDoc f fd) (GNm : FnOk P w K mg base CX0 2 gn dn ["_law_draws_here"] spNms) (bNm : Binds K dn ["_law_draws_here"] []) (kNm : PySem.W.keepIn K (.ref gn) = true) (mNm : mg "_law_names" = some (.ref gn))
    (GT : FnOk P w K mg base CX0 2 gt dt ["_law_draws_here"] spText) (bT : Binds K dt ["_law_draws_here"] []) (kT : PySem.W.keepIn K (.ref gt) = true) (mT : mg "_law_text" = some (.ref gt)) : FnOk P w K mg base CX0 3 f fd ["_law_draws_here"] spDoc := by
  refine F.ok scDoc (fun vs H Q E h => ?_) (fun cdv A outer s H vs Q E hr h => ?_)
  · obtain ⟨d, ns, rfl, _⟩ := h
    rfl
  obtain ⟨d, ns, rfl, hd, q⟩ := h
  refine ⟨_, (pss_one (ps_ret (pe_comp (N := ["_law_name", "_law_draws_here"]) (pick := [none, some 0]) (NX := ["_law_draws_here"]) (sX := defScope sDoc) (by decide +kernel) rfl rfl rfl (pi_listK K (pe_call GNm hr rfl mNm kNm bNm .nil pass0 (pa_cons (pv 0) pa_nil)))
        (fun _ _ _ _ => (pg_name (i := 0) (by decide +kernel : (["_law_name", "_law_draws_here"] : List Str).Nodup) rfl (Or.inl rfl))) (fun _ _ _ _ => pifs_nil) (fun _ _ _ _ => (pe_tup (pa_cons (pv 0) (pa_cons (pe_call GT hr rfl mT kT bT .nil pass0 (pa_cons (pv 1) pa_nil)) pa_nil))))))), ?_⟩
  simpa only [spNms]
  refine ⟨ns, hd, fun r ys ns1 H1 sx hd1 hr0 hr1 hl hn hs ho => ⟨⟨_, SqL.of hr1⟩, ?_⟩⟩
  have nrd : r ≠ d := fun y => by rw [y, hd] at hr0; cases hr0
  refine compW_list (ys.map V.str) (invDc d ys H1) ⟨[], ns1, none, rfl, fun _ _ e _ => e, hd1, by rw [List.take_zero]; rfl, (fun x hx => by cases hx), DeepTs.nil⟩ ?_ ?_ ?_
  · rintro i zs σ L hi ⟨dc, ns2, v0, rfl, sL, hdL, hdc, hA, hD⟩
    have := hD.length
    rw [List.length_map] at this
    have h2 := congrArg List.length hdc
    rw [List.length_map, List.length_take] at h2
    exact ⟨SqL.of (sL _ _ hr1 nrd), by rw [sizeLine_eq]; omega⟩
  · rintro i y zs σ L hy ⟨dc, ns2, v0, rfl, sL, hdL, hdc, hA, hD⟩
    rw [List.getElem?_map] at hy
    obtain ⟨nz, hnz, rfl⟩ := Option.map_eq_some_iff.mp hy
    simpa only [spText]
    refine ⟨ns2, hdL, fun z ns3 L3 s3 hd3 hz hzA => ⟨by decide, fun p hp => ⟨dc ++ [(nz, z)], ns3, _, rfl, ?_, upd_at hd3 hp, ?_, ?_, ?_⟩⟩⟩
    · exact (sL.trans s3).trans (SameX.of (same_new hp _))
    · rw [List.map_append, hdc, List.take_add_one, hnz]
      rfl
    · intro x hx
      rcases List.mem_append.mp hx with h | h
      · exact hA x h
      · rw [List.mem_singleton.mp h]; exact ⟨hzA, hz⟩
    · rw [List.map_append]
      have npd : p ≠ d := fun y => by rw [y, hd3] at hp; cases hp
      refine DeepTs.app (hD.same ((hideX s3).trans (hide_mono (same_new hp _)))) ?_
      show DeepTs _ [dvF (nz, z)] [.ref p]
      refine DeepTs.one ?_
      unfold dvF
      rw [DeepT]
      exact ⟨p, _, rfl, by rw [hide_ne npd]; exact upd_same, strs_deeps [nz, z]⟩
  · rintro zs σ L ⟨dc, ns2, v0, rfl, sL, hdL, hdc, hA, hD⟩ p hp
    rw [List.length_map, List.take_length] at hdc
    have lz : dc.length ≤ 3 := by have := congrArg List.length hdc; rw [List.length_map] at this; omega
    have npd : p ≠ d := fun y => by rw [y, hdL] at hp; cases hp
    refine q p dc zs ns2 _ (fun b o e ne => ?_) (upd_at hdL hp) ?_ upd_same ((hD.same (hide_same d L)).same (same_new hp _)) ⟨?_, by omega, fun x hx => ⟨(hA x hx).1, by have := (hA x hx).2; omega⟩⟩ ⟨lz, fun x hx => (hA x hx).2⟩
    · exact upd_at (sL _ _ (sx b o e ne) ne) hp
    · cases hq : H p with
      | none => rfl
      | some o => rw [sL _ _ (sx p o hq npd) npd] at hp; cases hp
    · refine dw_rise (fun x hx => ho x.1 (by rw [← hdc]; exact List.mem_map.mpr ⟨x, hx, rfl⟩)) (fun x r e => ?_) (by rw [hdc]; exact hn) (by rw [hdc]; exact hs)
      have hx := nm_len (ho x.1 (by rw [← hdc, e]; exact List.mem_cons_self))
      show ([] : List Nat) < _
      cases hq : x.1.cps.toList with
      | nil => have := slen x.1; rw [hq] at this; simp at this; omega
      | cons c r => simp
end
def smA : KU.Arg → Prop
  | .num _ => True
  | .doc d => smD d
theorem sm1 {x : KU.Arg} (h : smA x) : ∀ a ∈ [x], smA a := fun a ha => by rw [List.mem_singleton.mp ha]; exact h
theorem sm2 {x y : KU.Arg} (h : smA x) (g : smA y) : ∀ a ∈ [x, y], smA a := fun a ha => by
  rcases List.mem_cons.mp ha with e | ha
  · rw [e]; exact h
  · exact sm1 g a ha
def spDeed (K : PySem.W.Frag) : Sp := fun vs H Q _ => ∃ (a d : Addr) (ss : List Int) (ns : List D31), vs = [.ref a, .ref d] ∧ Scr K d a ss H ∧ H d = some (.lst (ns.map dI)) ∧
  ∀ (p : Addr) (nm : Str) (as : List KU.Arg) (xs : List V) (ns' : List D31) (H' : Hp), SameX d H H' → H' d = some (.lst (ns'.map dI)) → H' p = some (.tup xs) → DeepTs H' (dvD nm as) xs → Good nm as → (∀ a ∈ as, smA a) → Q (.ref p) H'
abbrev zNm : List Str := ["put", "change", "take", "stamp", "drop", "seal", "pour", "thin", "pack", "put", "change"]
theorem z_in : ∀ nm ∈ zNm, inV (.str nm) [V.str "stamp", V.str "seal", V.str "thin"] = true → (nm, []) ∈ tab := by decide +kernel
theorem z_el : ∀ nm ∈ zNm, nm ≠ "put" → nm ≠ "change" → inV (.str nm) [V.str "stamp", V.str "seal", V.str "thin"] ≠ true → nm ≠ "pour" → ((nm, ["number"]) : Str × List Str) ∈ tab := by decide +kernel
theorem dcons {H : Hp} {x : DV} {v : V} {ds : List DV} {xs : List V} (h : DeepT H x v) (t : DeepTs H ds xs) : DeepTs H (x :: ds) (v :: xs) := by rw [DeepTs]; exact ⟨_, _, rfl, h, t⟩
theorem deep_str {H : Hp} (z : Str) : DeepT H (.str z) (.str z) := by rw [DeepT]
theorem deep_num {H : Hp} (n : Int) : DeepT H (dvA (.num n)) (.int n) := by show DeepT H (.int n) _; rw [DeepT]
theorem deep_doc {H : Hp} {p : Addr} {dc : List Fld} {xs : List V} (h : H p = some (.lst xs)) (t : DeepTs H (dc.map dvF) xs) : DeepT H (dvA (.doc dc)) (.ref p) := by
  show DeepT H (.lst _) _
  rw [DeepT]
  exact ⟨p, _, rfl, h, t⟩
theorem all1 {x : KU.Arg} (h : okA x) : ∀ a ∈ [x], okA a := fun a ha => by rw [List.mem_singleton.mp ha]; exact h
theorem all2 {x y : KU.Arg} (h : okA x) (g : okA y) : ∀ a ∈ [x, y], okA a := fun a ha => by
  rcases List.mem_cons.mp ha with e | ha
  · rw [e]; exact h
  · exact all1 g a ha
section
variable {P : Program} {w : World} {K : PySem.W.Frag} {mg : Str → Option Value} {base : Heap} {f : Addr} {fd : FuncData}
theorem scNum : FnScope ["_law_script", "_law_draws_here", "_law_one", "_law_cells"] ["_law_script", "_law_draws_here"] (defScope sNum) := ⟨rfl, rfl, rfl, by decide +kernel, rfl, by decide +kernel, by decide +kernel⟩
theorem ok_num {gp : Addr} {dp : FuncData} (F : Fun K "_law_number" "_law_number" sNum f fd) (T : Txt mg) (GP : FnOk P w K mg base CX0 1 gp dp ["_law_draws_here"] spPop) (bP : Binds K dp ["_law_draws_here"] []) (kP : PySem.W.keepIn K (.ref gp) = true) (mP : mg "_law_pop" = some (.ref gp)) : FnOk P w K mg base CX0 2 f fd ["_law_script", "_law_draws_here"] (spNum K) := by
  refine F.ok scNum (fun vs H Q E h => ?_) (fun cdv A outer s H vs Q E hr h => ?_)
  · obtain ⟨a, d, ss, ns, rfl, _⟩ := h
    rfl
  obtain ⟨a, d, ss, ns, rfl, hS, hd, q⟩ := h
  refine ⟨_, (pss_cons (ps_set (i := 2) scNum.nd rfl (Or.inl rfl) (pe_call GP hr rfl mP kP bP .nil pass0 (pa_cons (pv 1) pa_nil)))
    (pss_cons (ps_set (i := 3) scNum.nd rfl (Or.inl rfl) (pe_op op_cat (pe_slice (slL K) (pv 0) po_none (po_some pe_int)) (pe_lst (pa_cons (pv 2) pa_nil))))
    (pss_one (ps_ret (pe_ix (ixL K) (pe_lst (pa_cons (pe_op op_mod (pe_op op_fdiv (pv 2) pe_int) pe_int) (pa_cons (pe_op op_mod (pe_op op_fdiv (pv 2) pe_int) pe_int) (pa_cons (pe_op op_mod (pe_ix (ixL K) (pv 3) (pe_op op_mod (pe_op op_fdiv (pv 2) pe_int) (pe_callB (lenK K) rfl T.len PySem.boot_len (pa_cons (pv 3) pa_nil))) (fun _ _ => rfl)) (pe_op op_pow pe_int pe_int)) (pa_cons (pe_op op_add (pe_op op_pow pe_int pe_int) (pv 2)) pa_nil))))) (pe_op op_mod (pv 2) pe_int) (fun _ _ => rfl)))))), ?_⟩
  simpa only [spPop]
  refine ⟨ns, hd, fun ⟨one, o0, o1⟩ ns1 H1 s1 hd1 => ⟨_, hS.2 _ s1, fun p1 h1 => ⟨by decide, fun p2 h2 => ?_⟩⟩⟩
  rw [cutV_map] at h2 ⊢
  have hs63 := hS.1
  have hcl : (cutL ss none (some 63)).length ≤ 63 := by
    unfold cutL
    rw [List.length_take, List.length_drop]
    omega
  refine ⟨_, upd_at upd_same h2, _, upd_same, ?_, fun ce hce => ?_⟩
  · rw [List.length_map, List.length_singleton]
    exact small (by omega)
  have ecs : (cutL ss none (some 63)).map V.int ++ [V.int one] = (cutL ss none (some 63) ++ [one]).map V.int := by rw [List.map_append]; rfl
  rw [ecs]
  have ecl : 0 < (cutL ss none (some 63) ++ [one]).length := by
    rw [List.length_append, List.length_singleton]
    omega
  generalize cutL ss none (some 63) ++ [one] = cs at ecl ⊢
  have s2 : Same H1 (upd (upd (upd H1 p1 (.lst ((cutL ss none (some 63)).map V.int))) p2 (.lst [V.int one])) ce (.lst (cs.map V.int))) := (same_new h1 _).trans ((same_new h2 _).trans (same_new hce _))
  have e2 : (upd (upd (upd H1 p1 (.lst ((cutL ss none (some 63)).map V.int))) p2 (.lst [V.int one])) ce (.lst (cs.map V.int))) ce = some (.lst (cs.map V.int)) := upd_same
  generalize upd (upd (upd H1 p1 (.lst ((cutL ss none (some 63)).map V.int))) p2 (.lst [V.int one])) ce (.lst (cs.map V.int)) = H2 at s2 e2 ⊢
  have x0 := Int.emod_nonneg (one / 4) (show (((cs.map V.int).length : Nat) : Int) ≠ 0 by rw [List.length_map]; omega)
  have x1 := Int.emod_lt_of_pos (one / 4) (show (0 : Int) < (((cs.map V.int).length : Nat) : Int) by rw [List.length_map]; omega)
  obtain ⟨v, hv⟩ := atI_ints (ns := cs) x0 (by rw [List.length_map] at x1 ⊢; exact x1)
  refine ⟨⟨by decide, by decide⟩, by decide, ⟨by decide, by decide⟩, by decide, ⟨by decide, by decide⟩, _, .inl (SqL.of e2), by rw [List.length_map]; omega, _, SqL.of e2, _, hv, ⟨by decide, by decide, by decide⟩, _, rfl, by decide, ⟨by decide, by decide, by decide⟩, by decide, fun t g => ⟨by decide, _, SqL.of upd_same, ?_⟩⟩
  have m0 := Int.emod_nonneg v (show (10 : Int) ^ Int.toNat 60 ≠ 0 by decide)
  have m1 : v % 10 ^ Int.toNat 60 < 10 ^ 60 := Int.emod_lt_of_pos v (show (0 : Int) < (10 : Int) ^ Int.toNat 60 by decide)
  have m2 : (0 : Int) ≤ 10 ^ Int.toNat 59 + one ∧ (10 : Int) ^ Int.toNat 59 + one < 10 ^ 60 := by
    rw [show (10 : Int) ^ Int.toNat 59 = 100000000000000000000000000000000000000000000000000000000000 by decide +kernel, show (10 : Int) ^ 60 = 1000000000000000000000000000000000000000000000000000000000000 by decide +kernel]
    omega
  generalize v % 10 ^ Int.toNat 60 = far at m0 m1 ⊢
  generalize (10 : Int) ^ Int.toNat 59 + one = fur at m2 ⊢
  obtain ⟨ic, hic, hic'⟩ := atI_mem (xs := [one / 4 % 10, one / 4 % 4, far, fur]) (k := one % 4) (by omega) (by show one % 4 < 4; omega)
  have hib : 0 ≤ ic ∧ ic < 10 ^ 60 := by
    simp only [List.mem_cons, List.not_mem_nil, or_false] at hic
    rcases hic with h | h | h | h
    · have : (10 : Int) < 10 ^ 60 := by decide
      omega
    · have : (10 : Int) < 10 ^ 60 := by decide
      omega
    · rw [h]; exact ⟨m0, m1⟩
    · rw [h]; exact m2
  have s4 := same_new g (.lst [V.int (one / 4 % 10), V.int (one / 4 % 4), V.int far, V.int fur])
  exact ⟨_, hic', q ic ns1 _ (s1.trans (SameX.of (s2.trans s4))) (s4 _ _ (s2 _ _ hd1)) hib.1 hib.2⟩
theorem scDeed : FnScope ["_law_script", "_law_draws_here", "_law_number_here", "_law_name"] ["_law_script", "_law_draws_here"] (defScope sDeed) := ⟨rfl, rfl, rfl, by decide +kernel, rfl, by decide +kernel, by decide +kernel⟩
theorem ok_deed {gp gn gd : Addr} {dp dn dd : FuncData} (F : Fun K "_law_deed" "_law_deed" sDeed f fd) (T : Txt mg) (GP : FnOk P w K mg base CX0 1 gp dp ["_law_draws_here"] spPop) (bP : Binds K dp ["_law_draws_here"] []) (kP : PySem.W.keepIn K (.ref gp) = true) (mP : mg "_law_pop" = some (.ref gp))
    (GNu : FnOk P w K mg base CX0 2 gn dn ["_law_script", "_law_draws_here"] (spNum K)) (bNu : Binds K dn ["_law_script", "_law_draws_here"] []) (kNu : PySem.W.keepIn K (.ref gn) = true) (mNu : mg "_law_number" = some (.ref gn))
    (GDo : FnOk P w K mg base CX0 3 gd dd ["_law_draws_here"] spDoc) (bDo : Binds K dd ["_law_draws_here"] []) (kDo : PySem.W.keepIn K (.ref gd) = true) (mDo : mg "_law_document" = some (.ref gd)) : FnOk P w K mg base CX0 4 f fd ["_law_script", "_law_draws_here"] (spDeed K) := by
  refine F.ok scDeed (fun vs H Q E h => ?_) (fun cdv A outer s H vs Q E hr h => ?_)
  · obtain ⟨a, d, ss, ns, rfl, _⟩ := h
    rfl
  obtain ⟨a, d, ss, ns, rfl, hS, hd, q⟩ := h
  have hr1 : Room 1 _ := hr.mono (by decide)
  have hr2 : Room 2 _ := hr.mono (by decide)
  refine ⟨_, (pss_cons (ps_set (i := 2) scDeed.nd rfl (Or.inl rfl) (pe_call GP hr1 rfl mP kP bP .nil pass0 (pa_cons (pv 1) pa_nil)))
    (@pss_c _ _ _ _ _ (@ps_setPick _ K 3 2 _ _ _ _ _ _ _ _ _ _ _ _ _ scDeed.nd rfl (Or.inl rfl) rfl (pv 2) (.inl rfl) rfl)
    (pss_cons (ps_if (pt_cmpR op_eq (pv 3) pe_str (nomark _)) (pss_one (ps_ret (pe_tup (pa_cons (pv 3) (pa_cons (pe_call GDo hr rfl mDo kDo bDo .nil pass0 (pa_cons (pv 1) pa_nil)) pa_nil))))) pss_nil)
    (pss_cons (ps_if (pt_cmpR op_eq (pv 3) pe_str (nomark _)) (pss_one (ps_ret (pe_tup (pa_cons (pv 3) (pa_cons (pe_call GNu hr2 rfl mNu kNu bNu .nil pass0 (pa_cons (pv 0) (pa_cons (pv 1) pa_nil))) (pa_cons (pe_call GDo hr rfl mDo kDo bDo .nil pass0 (pa_cons (pv 1) pa_nil)) pa_nil)))))) pss_nil)
    (pss_cons (ps_if (pt_cmpR (inK K) (pv 3) (pe_lst (pa_cons pe_str (pa_cons pe_str (pa_cons pe_str pa_nil)))) rfl) (pss_one (ps_ret (pe_tup (pa_cons (pv 3) pa_nil)))) pss_nil)
    (pss_cons (ps_if (pt_cmpR op_eq (pv 3) pe_str (nomark _)) (pss_one (ps_ret (pe_tup (pa_cons (pv 3) (pa_cons (pe_call GNu hr2 rfl mNu kNu bNu .nil pass0 (pa_cons (pv 0) (pa_cons (pv 1) pa_nil))) (pa_cons (pe_call GNu hr2 rfl mNu kNu bNu .nil pass0 (pa_cons (pv 0) (pa_cons (pv 1) pa_nil))) pa_nil)))))) pss_nil)
    (pss_one (ps_ret (pe_tup (pa_cons (pv 3) (pa_cons (pe_call GNu hr2 rfl mNu kNu bNu .nil pass0 (pa_cons (pv 0) (pa_cons (pv 1) pa_nil))) pa_nil))))))))))), ?_⟩
  simpa only [spPop, spNum, spDoc, rIn]
  refine ⟨ns, hd, fun ⟨z, _⟩ ns1 H1 s1 hd1 => ⟨by decide, fun p hp => ⟨by decide, _, SqL.of upd_same, ?_⟩⟩⟩
  have z0 := Int.emod_nonneg z (show (11 : Int) ≠ 0 by decide)
  have z1 := Int.emod_lt_of_pos z (show (0 : Int) < 11 by decide)
  obtain ⟨v, hv, hv'⟩ := atI_of (xs := zNm.map V.str) z0 z1
  obtain ⟨nm, hz, rfl⟩ := List.mem_map.mp (List.mem_of_getElem? hv')
  have sP := same_new hp (.lst [V.str "put", V.str "change", V.str "take", V.str "stamp", V.str "drop", V.str "seal", V.str "pour", V.str "thin", V.str "pack", V.str "put", V.str "change"])
  have hd2 := sP _ _ hd1
  have s2 := s1.trans (SameX.of sP)
  refine ⟨_, hv, rfl, ?_⟩
  generalize upd H1 p (.lst [V.str "put", V.str "change", V.str "take", V.str "stamp", V.str "drop", V.str "seal", V.str "pour", V.str "thin", V.str "pack", V.str "put", V.str "change"]) = H2 at hd2 s2 ⊢
  have fin : ∀ (as : List KU.Arg) (xs : List V) (ns' : List D31) (L : Hp) (t : Addr), SameX d H2 L → L d = some (.lst (ns'.map dI)) → L t = none → (∀ M, Same L M → DeepTs M (as.map dvA) xs) → (nm, as.map kindOf) ∈ tab → (∀ a ∈ as, okA a) → (∀ a ∈ as, smA a) → Q (.ref t) (upd L t (.tup (V.str nm :: xs))) := fun as xs ns' L t sL hL ht hD hG hA hSm =>
    q t nm as _ ns' _ (s2.trans (sL.trans (SameX.of (same_new ht _)))) (upd_at hL ht) upd_same (dcons (deep_str nm) (hD _ (same_new ht _))) ⟨hG, hA⟩ hSm
  refine ite2 (fun c1 => ?_) fun c1 => ⟨rfl, ite2 (fun c2 => ?_) fun c2 => ?_⟩
  · have e : nm = "put" := V.str.inj (of_decide_eq_true c1)
    refine ⟨ns1, hd2, fun pd dc xs ns2 H3 s3 hd3 _ h3 hD hDoc hsm => ⟨by decide, fun t ht => ?_⟩⟩
    exact fin [.doc dc] _ ns2 H3 t s3 hd3 ht (fun M sM => dcons (deep_doc (sM _ _ h3) (hD.same sM)) DeepTs.nil) (by rw [e]; show (("put", ["fields"]) : Str × List Str) ∈ tab; decide +kernel) (all1 hDoc) (sm1 hsm)
  · have e : nm = "change" := V.str.inj (of_decide_eq_true c2)
    refine ⟨ss, hS.mono s2, ns1, hd2, fun n ns2 H3 s3 hd3 n0 n1 => ⟨ns2, hd3, fun pd dc xs ns3 H4 s4 hd4 _ h4 hD hDoc hsm => ⟨by decide, fun t ht => ?_⟩⟩⟩
    exact fin [.num n, .doc dc] _ ns3 H4 t (s3.trans s4) hd4 ht (fun M sM => dcons (deep_num n) (dcons (deep_doc (sM _ _ h4) (hD.same sM)) DeepTs.nil)) (by rw [e]; show (("change", ["number", "fields"]) : Str × List Str) ∈ tab; decide +kernel) (all2 ⟨n0, n1⟩ hDoc) (sm2 trivial hsm)
  · refine ⟨by decide, fun p3 hp3 => ?_⟩
    have s3 := same_new hp3 (.lst [V.str "stamp", V.str "seal", V.str "thin"])
    refine ⟨_, .inl (SqL.of upd_same), rfl, rfl, ?_⟩
    have hd3 := s3 _ _ hd2
    generalize upd H2 p3 (.lst [V.str "stamp", V.str "seal", V.str "thin"]) = H3 at s3 hd3 ⊢
    refine ite2 (fun c3 => ⟨by decide, fun t ht => ?_⟩) fun c3 => ⟨rfl, ite2 (fun c4 => ?_) fun c4 => ?_⟩
    · exact fin [] _ ns1 H3 t (SameX.of s3) hd3 ht (fun M sM => DeepTs.nil) (z_in nm hz c3) (fun a ha => by cases ha) (fun a ha => by cases ha)
    · have e : nm = "pour" := V.str.inj (of_decide_eq_true c4)
      refine ⟨ss, hS.mono (s2.trans (SameX.of s3)), ns1, hd3, fun n ns2 H4 s4 hd4 n0 n1 => ⟨ss, hS.mono (s2.trans ((SameX.of s3).trans s4)), ns2, hd4, fun m ns3 H5 s5 hd5 m0 m1 => ⟨by decide, fun t ht => ?_⟩⟩⟩
      exact fin [.num n, .num m] _ ns3 H5 t ((SameX.of s3).trans (s4.trans s5)) hd5 ht (fun M sM => dcons (deep_num n) (dcons (deep_num m) DeepTs.nil)) (by rw [e]; show (("pour", ["number", "number"]) : Str × List Str) ∈ tab; decide +kernel) (all2 ⟨n0, n1⟩ ⟨m0, m1⟩) (sm2 trivial trivial)
    · refine ⟨ss, hS.mono (s2.trans (SameX.of s3)), ns1, hd3, fun n ns2 H4 s4 hd4 n0 n1 => ⟨by decide, fun t ht => ?_⟩⟩
      exact fin [.num n] _ ns2 H4 t ((SameX.of s3).trans s4) hd4 ht (fun M sM => dcons (deep_num n) DeepTs.nil) (z_el nm hz (fun e => c1 (by rw [e]; exact decide_eq_true rfl)) (fun e => c2 (by rw [e]; exact decide_eq_true rfl)) c3 (fun e => c4 (by rw [e]; exact decide_eq_true rfl))) (all1 ⟨n0, n1⟩) (sm1 trivial)
end
theorem appL (a b : Str) : (a ++ b).length = a.length + b.length := by rw [← slen, app_cps, List.length_append, slen, slen]
theorem big {n : Nat} (h : n ≤ 1000000) : n ≤ sizeLine := by rw [sizeLine_eq]; omega
theorem c_no : (" none" : Str).cps.toList = [32, 110, 111, 110, 101] := by decide +kernel
theorem c_cq : (":'" : Str).cps.toList = [58, 39] := by decide +kernel
theorem c_q : ("'" : Str).cps.toList = [39] := by decide +kernel
theorem l_no : (" none" : Str).length = 5 := by decide +kernel
theorem l_cq : (":'" : Str).length = 2 := by decide +kernel
theorem l_q : ("'" : Str).length = 1 := by decide +kernel
theorem l_sp : (" " : Str).length = 1 := by decide +kernel
section
variable {P : Program} {w : World} {K : PySem.W.Frag} {mg : Str → Option Value} {base : Heap} {f : Addr} {fd : FuncData}
theorem scLine : FnScope ["_law_deed_here", "_law_line_here", "_law_one", "_law_field", "_law_text_here", "_law_sign"] ["_law_deed_here"] (defScope sLine) := ⟨rfl, rfl, rfl, by decide +kernel, rfl, by decide +kernel, by decide +kernel⟩
def invLO (p : Addr) (nm : Str) (as : List KU.Arg) (H0 : Hp) (i : Nat) (σ : St) (L : Hp) : Prop := ∃ (z : Str) (v2 v3 v4 v5 : Option V), σ = [some (.ref p), some (.str z), v2, v3, v4, v5] ∧ Same H0 L ∧ z.cps.toList = nm.cps.toList ++ ((as.take i).map argL).flatMap ([32] ++ ·) ∧ z.length ≤ 6 + i * 40401
def invLF (p b : Addr) (z0 : Str) (dc : List Fld) (H0 : Hp) (j : Nat) (σ : St) (L : Hp) : Prop := ∃ (z : Str) (v3 v4 v5 : Option V), σ = [some (.ref p), some (.str z), some (.ref b), v3, v4, v5] ∧ Same H0 L ∧ z.cps.toList = z0.cps.toList ++ ((dc.take j).map fun x => fieldL (pairL x)).flatMap ([32] ++ ·) ∧ z.length ≤ z0.length + j * 2016
def invLS (p b : Addr) (z1 : Str) (x : Fld) (H0 : Hp) (k : Nat) (σ : St) (L : Hp) : Prop := ∃ (z : Str) (v5 : Option V), σ = [some (.ref p), some (.str z), some (.ref b), some (.str x.1), some (.str x.2), v5] ∧ Same H0 L ∧ z.cps.toList = z1.cps.toList ++ dblL (x.2.cps.toList.take k) ∧ z.length ≤ z1.length + k * 2
theorem ok_line (F : Fun K "_law_line" "_law_line" sLine f fd) (T : Txt mg) : FnOk P w K mg base CX0 1 f fd ["_law_deed_here"] spShD := by
  refine F.ok scLine (fun vs H Q E h => ?_) (fun cdv A outer s H vs Q E hr h => ?_)
  · obtain ⟨a, nm, as, xs, rfl, _⟩ := h
    rfl
  obtain ⟨a, nm, as, xs, rfl, ha, hd, hG, q⟩ := h
  obtain ⟨x0, xr, rfl, h0, hr0⟩ := deeps_c hd
  have e0 := deep_s h0
  subst e0
  refine ⟨_, (pss_cons (ps_set (i := 1) scLine.nd rfl (Or.inl rfl) (pe_ix (ixT K) (pv 0) pe_int (fun _ _ => rfl)))
    (pss_cons (ps_for PassesOwn.never rfl (pi_tupK K (pe_slice (slT K) (pv 0) (po_some pe_int) po_none)) (pg_name (i := 2) scLine.nd rfl (Or.inl rfl))
      (pss_one (ps_if (pt_val (pe_callB (call_isi K) rfl T.isinstance (by decide +kernel) (pa_cons (pv 2) (pa_cons (pe_bltn (v := .ty "int") rfl T.int (by decide +kernel) rfl) pa_nil)))) (pss_one (ps_set (i := 1) scLine.nd rfl (Or.inl rfl) (pe_op op_add_str (pe_op op_add_str (pv 1) pe_str) (pe_callTy call_strI rfl T.str (by decide +kernel) (pa_cons (pv 2) pa_nil))))) (pss_one (ps_if (pt_cmpR (op_eqE K hr) (pv 2) (pe_lst pa_nil) (nomark _)) (pss_one (ps_set (i := 1) scLine.nd rfl (Or.inl rfl) (pe_op op_add_str (pv 1) pe_str))) (pss_one (ps_for PassesOwn.never rfl (pi_listK K (pv 2)) (pgT K (n := 2) rfl (pgs_cons (pg_name (i := 3) scLine.nd rfl (Or.inl rfl)) (pgs_cons (pg_name (i := 4) scLine.nd rfl (Or.inl rfl)) pgs_nil)))
      (pss_cons (ps_set (i := 1) scLine.nd rfl (Or.inl rfl) (pe_op op_add_str (pe_op op_add_str (pe_op op_add_str (pv 1) pe_str) (pv 3)) pe_str))
    (pss_cons (ps_for PassesOwn.never rfl (pi_str (pv 4)) (pg_name (i := 5) scLine.nd rfl (Or.inl rfl))
      (pss_one (ps_set (i := 1) scLine.nd rfl (Or.inl rfl) (pe_op op_add_str (pe_op op_add_str (pv 1) (pv 5)) (pe_ix (ixL K) (pe_lst (pa_cons pe_str (pa_cons pe_str pa_nil))) (pe_callTy call_intB rfl T.int (by decide +kernel) (pa_cons (pe_cmpR op_eq (pv 5) pe_str (nomark _)) pa_nil)) (fun _ _ => rfl))))))
    (pss_one (ps_set (i := 1) scLine.nd rfl (Or.inl rfl) (pe_op op_add_str (pv 1) pe_str))))))))))))
    (pss_one (ps_ret (pv 1))))), ?_⟩
  simpa only [rSlT, iTup]
  have lk : as.length ≤ 2 := by have := (tab_args hG.1).1; rwa [List.length_map] at this
  have lnm := (tab_args hG.1).2.2.1
  have hxr : xr.length = as.length := by have := hr0.length; rwa [List.length_map] at this
  refine ⟨_, SqT.of ha, _, atI_nat (j := 0) rfl, _, SqT.of ha, ?_, fun p hp => ?_⟩
  · rintro ⟨y, _⟩
    unfold HT.sIx at y
    simp at y
  have ec : cutV (V.str nm :: xr) (some 1) none = xr := by
    unfold cutV HT.sIx
    simp
  rw [ec]
  have s1 := same_new hp (.tup xr)
  have e1 : (upd H p (.tup xr)) p = some (.tup xr) := upd_same
  generalize upd H p (.tup xr) = H0 at s1 e1 ⊢
  refine ⟨⟨_, SqT.of e1⟩, ?_⟩
  refine forW_tup xr (invLO a nm as H0) ⟨nm, none, none, none, none, rfl, fun _ _ e => e, by simp, by omega⟩ ?_ ?_ ?_
  · rintro i σ L hi ⟨z, v2, v3, v4, v5, rfl, sL, hz, hl⟩
    exact SqT.of (sL _ _ e1)
  · rintro i x σ L hx ⟨z, v2, v3, v4, v5, rfl, sL, hz, hl⟩
    simpa only [V.ty.injEq]
    have hdr : DeepTs L (as.map dvA) xr := hr0.same (s1.trans sL)
    obtain ⟨dv, g1, g2⟩ := hdr.get hx
    rw [List.getElem?_map] at g1
    obtain ⟨y, hy, rfl⟩ := Option.map_eq_some_iff.mp g1
    have hil : i < as.length := (List.getElem?_eq_some_iff.mp hy).1
    have hok := hG.2 y (List.mem_of_getElem? hy)
    have tk : (as.take (i + 1)).map argL = (as.take i).map argL ++ [argL y] := by rw [List.take_add_one, hy, List.map_append]; rfl
    have fin : ∀ (z' : Str) (L' : Hp) (v2 v3 v4 v5 : Option V), Same L L' → z'.cps.toList = z.cps.toList ++ 32 :: argL y → invLO a nm as H0 (i + 1) [some (.ref a), some (.str z'), v2, v3, v4, v5] L' := fun z' L' v2 v3 v4 v5 sL' hz' => by
      refine ⟨z', v2, v3, v4, v5, rfl, sL.trans sL', ?_, ?_⟩
      · rw [hz', hz, tk, List.flatMap_append, List.append_assoc]
        simp
      · have := arg_len hok
        rw [← slen, hz', List.length_append, slen, List.length_cons]
        omega
    cases y with
    | num n =>
      have gx : x = .int n := by have : DeepT L (.int n) x := g2; rw [DeepT] at this; exact this
      subst gx
      have l60 := log60 hok.1 hok.2
      have ln := digs_len hok.1 hok.2
      have ld : (Str.ofString (toString n)).length = (digs n).length := (slen _).symm
      refine ⟨_, .int n, true, rfl, iteT ⟨big (by rw [l_sp]; omega), n, rfl, l60, big (by rw [appL, l_sp, ld]; omega), fin _ L _ _ _ _ (fun _ _ e => e) ?_⟩⟩
      rw [app_cps, app_cps, cSp, List.append_assoc]
      rfl
    | doc dc =>
      have hDoc : Doc dc := hok
      have g3 : DeepT L (.lst (dc.map dvF)) x := g2
      rw [DeepT] at g3
      obtain ⟨b, us, rfl, hb, hus⟩ := g3
      have hul : us.length = dc.length := by have := hus.length; rwa [List.length_map] at this
      refine ⟨_, .lst hb, false, rfl, iteF ⟨by decide, fun e he => ?_⟩⟩
      have sE := same_new he (.lst [])
      have hb1 := sE _ _ hb
      have he1 : (upd L e (.lst [])) e = some (.lst []) := upd_same
      generalize upd L e (.lst []) = L1 at sE hb1 he1 ⊢
      refine ⟨b, rfl, _, SqL.of hb1, SqL.of he1, ite2 (fun c => ?_) fun c => ⟨b, rfl, ⟨_, SqL.of hb1⟩, ?_⟩⟩
      · have hu : us = [] := List.isEmpty_iff.mp c
        rw [hu] at hul
        have hdc : dc = [] := List.length_eq_zero_iff.mp hul.symm
        refine ⟨big (by rw [l_no]; omega), fin _ L1 _ _ _ _ sE ?_⟩
        rw [app_cps, c_no, hdc]
        rfl
      · refine forW_list us (invLF a b z dc L1) ⟨z, v3, v4, v5, rfl, fun _ _ e => e, by simp, by omega⟩ ?_ ?_ ?_
        · rintro j σ M hj ⟨z2, w3, w4, w5, rfl, sM, hz2, hl2⟩
          exact SqL.of (sM _ _ hb1)
        · rintro j y σ M hy ⟨z2, w3, w4, w5, rfl, sM, hz2, hl2⟩
          have hd2 : DeepTs M (dc.map dvF) us := hus.same (sE.trans sM)
          obtain ⟨dv, g4, g5⟩ := hd2.get hy
          rw [List.getElem?_map] at g4
          obtain ⟨fx, hfx, rfl⟩ := Option.map_eq_some_iff.mp g4
          obtain ⟨t, rfl, ht⟩ := dvF_at g5
          have hjl : j < dc.length := (List.getElem?_eq_some_iff.mp hfx).1
          have d20 := hDoc.2.1
          have hfm := List.mem_of_getElem? hfx
          have n12 := (nm_len (dw_ok hDoc.1 fx hfm)).2
          have t1000 := (hDoc.2.2 fx hfm).2
          simpa only [and_self]
          refine ⟨_, SqT.of ht, rfl, ?_⟩
          simpa only [iStr]
          have e1 : (z2 ++ (" " : Str) ++ fx.1 ++ (":'" : Str)).length = z2.length + 1 + fx.1.length + 2 := by rw [appL, appL, appL, l_sp, l_cq]
          have e2 : (z2 ++ (" " : Str) ++ fx.1 ++ (":'" : Str)).cps.toList = z2.cps.toList ++ 32 :: (fx.1.cps.toList ++ [58, 39]) := by
            rw [app_cps, app_cps, app_cps, cSp, c_cq]
            simp
          refine ⟨big (by rw [l_sp]; omega), big (by rw [appL, l_sp]; omega), big (by rw [appL, appL, l_sp, l_cq]; omega), ?_⟩
          generalize z2 ++ (" " : Str) ++ fx.1 ++ (":'" : Str) = z3 at e1 e2 ⊢
          refine forW_str (invLS a b z3 fx M) ⟨z3, _, rfl, fun _ _ e => e, by rw [List.take_zero]; simp [dblL], by omega⟩ ?_ ?_
          · rintro k c σ N hc ⟨z4, u5, rfl, sN, hz4, hl4⟩
            have hkl : k < fx.2.length := by rw [← slen]; exact (List.getElem?_eq_some_iff.mp hc).1
            simpa only [and_self]
            refine ⟨big (by show z4.length + 1 ≤ _; omega), by decide, fun p2 hp2 => ⟨_, SqL.of upd_same, ?_⟩⟩
            have e4 : (z4 ++ (⟨#[c]⟩ : Str)).length = z4.length + 1 := appL _ _
            have tk2 : dblL (fx.2.cps.toList.take (k + 1)) = dblL (fx.2.cps.toList.take k) ++ dblL [c] := by rw [List.take_add_one, hc, dblL_append]; rfl
            have sP := same_new hp2 (.lst [V.str "", V.str "'"])
            by_cases hq : c = 39
            · subst hq
              refine ⟨_, rfl, "'", rfl, big (by rw [e4, l_q]; omega), _, _, rfl, sN.trans sP, ?_, by rw [appL, e4, l_q]; omega⟩
              rw [app_cps, app_cps, hz4, tk2, c_q]
              simp [dblL]
            · have ne : ¬ (⟨#[c]⟩ : Str) = "'" := fun y => hq (by
                have : ((⟨#[c]⟩ : Str).cps.toList) = [39] := by rw [y]; exact c_q
                exact (List.cons.inj this).1)
              rw [decide_eq_false ne]
              refine ⟨_, rfl, "", rfl, big (by rw [e4]; show z4.length + 1 + 0 ≤ _; omega), _, _, rfl, sN.trans sP, ?_, by rw [appL, e4]; show z4.length + 1 + 0 ≤ _; omega⟩
              rw [app_cps, app_cps, hz4, tk2, dblL, if_neg hq, show ("" : Str).cps.toList = [] from rfl]
              simp [dblL]
          · rintro σ N ⟨z4, u5, rfl, sN, hz4, hl4⟩
            simpa only [and_self]
            have hq4 : (z4 ++ ("'" : Str)).length = z4.length + 1 := by rw [appL, l_q]
            refine ⟨big (by rw [l_q]; omega), _, _, _, _, rfl, sM.trans sN, ?_, by rw [hq4]; omega⟩
            rw [app_cps, hz4, e2, hz2, c_q, List.take_add_one, hfx, List.map_append, List.flatMap_append]
            have : fx.2.cps.toList.take fx.2.length = fx.2.cps.toList := by rw [← slen]; exact List.take_length
            rw [this]
            simp [fieldL]
        · rintro σ M ⟨z2, w3, w4, w5, rfl, sM, hz2, hl2⟩
          refine fin _ M _ _ _ _ (sE.trans sM) ?_
          rw [hz2, hul, List.take_length]
          cases dc with
          | nil => rw [List.length_nil] at hul; exact absurd (List.isEmpty_iff.mpr (List.length_eq_zero_iff.mp hul)) c
          | cons y r =>
            rw [argL, List.map_cons, List.flatMap_cons, joinL_flat]
            simp
  · rintro σ L ⟨z, v2, v3, v4, v5, rfl, sL, hz, hl⟩
    simpa only [and_self]
    refine q z L (s1.trans sL) ?_
    rw [hz, hxr, List.take_length]
    unfold lineL
    rw [joinL_flat]
end
section
variable {P : Program} {w : World} {K : PySem.W.Frag} {mg : Str → Option Value} {base : Heap} {f : Addr} {fd : FuncData}
mutual
def okD : DV → Bool
  | .int _ => true
  | .str _ => true
  | .lst ds => decide (ds.length ≤ 100000) && okDs ds
  | .tup ds => decide (ds.length ≤ 100000) && okDs ds
  | .non => false
  | .bl _ => false
def okDs : List DV → Bool
  | [] => true
  | d :: ds => okD d && okDs ds
end
theorem okDs_get : ∀ {ds : List DV} {i : Nat} {d : DV}, okDs ds = true → ds[i]? = some d → okD d = true
  | [], i, d, _, e => by simp at e
  | x :: ds, 0, d, h, e => by rw [okDs, Bool.and_eq_true] at h; simp at e; subst e; exact h.1
  | x :: ds, i + 1, d, h, e => by rw [okDs, Bool.and_eq_true] at h; exact okDs_get (i := i) h.2 (by simpa using e)
theorem deps_get : ∀ {ds : List DV} {i : Nat} {d : DV}, ds[i]? = some d → dep d ≤ deps ds
  | [], i, d, e => by simp at e
  | x :: ds, 0, d, e => by simp at e; subst e; rw [deps]; exact Nat.le_max_left _ _
  | x :: ds, i + 1, d, e => by rw [deps]; exact Nat.le_trans (deps_get (i := i) (by simpa using e)) (Nat.le_max_right _ _)
def spAlike (n : Nat) : Sp := fun vs H Q _ => ∃ (x y : V) (d : DV), vs = [x, y] ∧ DeepT H d x ∧ DeepT H d y ∧ okD d = true ∧ dep d < n ∧ Q (.bl true) H
theorem none_alike : FnOk P w K mg base CX0 0 f fd ["_law_found", "_law_due"] (spAlike 0) := by
  have no : ∀ vs H Q E, ¬ spAlike 0 vs H Q E := fun vs H Q E h => by
    obtain ⟨x, y, d, _, _, _, _, h1, _⟩ := h
    omega
  exact ⟨fun vs H Q E h => absurd h (no vs H Q E), fun A outer s H args us vs Q E _ _ _ _ h => absurd h (no vs H Q E)⟩
theorem scA : FnScope ["_law_found", "_law_due", "_law_k"] ["_law_found", "_law_due"] (defScope sAlike) := ⟨rfl, rfl, rfl, by decide +kernel, rfl, by decide +kernel, by decide +kernel⟩
def invA (a b : Addr) (H : Hp) (_ : Nat) (σ : St) (L : Hp) : Prop := ∃ v2 : Option V, σ = [some (.ref a), some (.ref b), v2] ∧ L = H
theorem ok_alike {n : Nat} (F : Fun K "_law_alike" "_law_alike" sAlike f fd) (T : Txt mg) (GA : FnOk P w K mg base CX0 n f fd ["_law_found", "_law_due"] (spAlike n)) (bA : Binds K fd ["_law_found", "_law_due"] []) (kA : PySem.W.keepIn K (.ref f) = true) (mA : mg "_law_alike" = some (.ref f)) :
    FnOk P w K mg base CX0 (n + 1) f fd ["_law_found", "_law_due"] (spAlike (n + 1)) := by
  refine F.ok scA (fun vs H Q E h => ?_) (fun cdv A outer s H vs Q E hr h => ?_)
  · obtain ⟨x, y, d, rfl, _⟩ := h
    rfl
  obtain ⟨x, y, d, rfl, hx, hy, hk, hdp, q⟩ := h
  refine ⟨_, (pss_cons (ps_if (pt_val (pe_callB (call_isi K) rfl T.isinstance (by decide +kernel) (pa_cons (pv 1) (pa_cons (pe_bltn (v := .ty "str") rfl T.str (by decide +kernel) rfl) pa_nil)))) (pss_one (ps_ret (pe_and (pe_callB (call_isi K) rfl T.isinstance (by decide +kernel) (pa_cons (pv 0) (pa_cons (pe_bltn (v := .ty "str") rfl T.str (by decide +kernel) rfl) pa_nil))) (pe_one (pe_cmpR op_eq (pv 0) (pv 1) (nomark _)))))) pss_nil)
    (pss_cons (ps_if (pt_val (pe_callB (call_isi K) rfl T.isinstance (by decide +kernel) (pa_cons (pv 1) (pa_cons (pe_bltn (v := .ty "int") rfl T.int (by decide +kernel) rfl) pa_nil)))) (pss_one (ps_ret (pe_and (pe_callB (call_isi K) rfl T.isinstance (by decide +kernel) (pa_cons (pv 0) (pa_cons (pe_bltn (v := .ty "int") rfl T.int (by decide +kernel) rfl) pa_nil))) (pe_and (pe_not (pe_callB (call_isi K) rfl T.isinstance (by decide +kernel) (pa_cons (pv 0) (pa_cons (pe_bltn (v := .ty "bool") rfl T.bool (by decide +kernel) rfl) pa_nil)))) (pe_one (pe_cmpR op_eq (pv 0) (pv 1) (nomark _))))))) pss_nil)
    (pss_cons (ps_if (pt_val (pe_callB (call_isi K) rfl T.isinstance (by decide +kernel) (pa_cons (pv 1) (pa_cons (pe_bltn (v := .ty "list") rfl T.list (by decide +kernel) rfl) pa_nil)))) (pss_one (ps_if (pt_not (pt_val (pe_callB (call_isi K) rfl T.isinstance (by decide +kernel) (pa_cons (pv 0) (pa_cons (pe_bltn (v := .ty "list") rfl T.list (by decide +kernel) rfl) pa_nil))))) (pss_one (ps_ret pe_bl)) pss_nil)) (pss_one (ps_if (pt_not (pt_val (pe_callB (call_isi K) rfl T.isinstance (by decide +kernel) (pa_cons (pv 0) (pa_cons (pe_bltn (v := .ty "tuple") rfl T.tuple (by decide +kernel) rfl) pa_nil))))) (pss_one (ps_ret pe_bl)) pss_nil)))
    (pss_cons (ps_if (pt_cmpR op_ne (pe_callB (lenK K) rfl T.len PySem.boot_len (pa_cons (pv 0) pa_nil)) (pe_callB (lenK K) rfl T.len PySem.boot_len (pa_cons (pv 1) pa_nil)) (nomark _)) (pss_one (ps_ret pe_bl)) pss_nil)
    (pss_cons (ps_for PassesOwn.never rfl (pi_range1 rfl T.range (pa_cons (pe_callB (lenK K) rfl T.len PySem.boot_len (pa_cons (pv 1) pa_nil)) pa_nil)) (pg_name (i := 2) scA.nd rfl (Or.inl rfl))
      (pss_one (ps_if (pt_not (pt_val (pe_call GA hr rfl mA kA bA .nil pass0 (pa_cons (pe_ix ((ixL K).or (ixT K)) (pv 0) (pv 2) (fun _ _ => rfl)) (pa_cons (pe_ix ((ixL K).or (ixT K)) (pv 1) (pv 2) (fun _ _ => rfl)) pa_nil))))) (pss_one (ps_ret pe_bl)) pss_nil)))
    (pss_one (ps_ret pe_bl))))))), ?_⟩
  simpa only [V.ty.injEq]
  cases d with
  | non => simp [okD] at hk
  | bl b => simp [okD] at hk
  | int i =>
    rw [DeepT] at hx hy
    subst hx hy
    refine ⟨_, .int i, false, rfl, iteF ⟨_, .int i, true, rfl, iteT ⟨_, .int i, true, rfl, iteT ⟨_, .int i, false, rfl, iteT ⟨rfl, ?_⟩⟩⟩⟩⟩
    rw [decide_eq_true rfl]
    exact q
  | str z =>
    rw [DeepT] at hx hy
    subst hx hy
    refine ⟨_, .str z, true, rfl, iteT ⟨_, .str z, true, rfl, iteT ⟨rfl, ?_⟩⟩⟩
    rw [decide_eq_true rfl]
    exact q
  | lst ds =>
    rw [DeepT] at hx hy
    obtain ⟨a, xs, rfl, ha, hxs⟩ := hx
    obtain ⟨b, ys, rfl, hb, hys⟩ := hy
    have el : xs.length = ys.length := hxs.length.trans hys.length.symm
    rw [okD, Bool.and_eq_true] at hk
    have hk' : okDs ds = true := hk.2
    have hsz0 := of_decide_eq_true hk.1
    have hdp' : deps ds + 1 < n + 1 := by rw [dep] at hdp; exact hdp
    have hsz := hys.length
    refine ⟨_, .lst hb, false, rfl, iteF ⟨_, .lst hb, false, rfl, iteF ⟨_, .lst hb, true, rfl, iteT ⟨_, .lst ha, true, rfl, iteF ?_⟩⟩⟩⟩
    refine ⟨a, rfl, xs, .inl (SqL.of ha), b, rfl, ys, .inl (SqL.of hb), ?_⟩
    rw [el]
    refine iteNS rfl ?_
    refine ⟨b, rfl, ys, .inl (SqL.of hb), by omega, by omega, ?_⟩
    refine forW_range (lo := 0) (n := ((ys.length : Nat) : Int).toNat) (invA a b H) ⟨none, rfl, rfl⟩ ?_ ?_
    · rintro i σ L hi ⟨v2, rfl, rfl⟩
      have hi' : i < ys.length := by omega
      have gx := hxs.get (i := i) (List.getElem?_eq_getElem (by omega))
      have gy := hys.get (i := i) (List.getElem?_eq_getElem hi')
      obtain ⟨d1, e1, hd1⟩ := gx
      obtain ⟨d2, e2, hd2⟩ := gy
      rw [e1] at e2
      cases e2
      simpa only [spAlike]
      have e0 : (0 : Int) + (i : Int) = ((i : Nat) : Int) := by omega
      have ax : atI xs (0 + (i : Int)) = some xs[i] := by rw [e0]; exact atI_nat (List.getElem?_eq_getElem (by omega))
      have ay : atI ys (0 + (i : Int)) = some ys[i] := by rw [e0]; exact atI_nat (List.getElem?_eq_getElem hi')
      exact .inl ⟨xs, SqL.of ha, _, ax, .inl ⟨ys, SqL.of hb, _, ay, d1, hd1, hd2, okDs_get hk' e1, Nat.lt_of_le_of_lt (deps_get e1) (by omega), iteF ⟨_, rfl, rfl⟩⟩⟩
    · rintro σ L ⟨v2, rfl, rfl⟩
      simpa only [and_self]
      exact q
  | tup ds =>
    rw [DeepT] at hx hy
    obtain ⟨a, xs, rfl, ha, hxs⟩ := hx
    obtain ⟨b, ys, rfl, hb, hys⟩ := hy
    have el : xs.length = ys.length := hxs.length.trans hys.length.symm
    rw [okD, Bool.and_eq_true] at hk
    have hk' : okDs ds = true := hk.2
    have hsz0 := of_decide_eq_true hk.1
    have hdp' : deps ds + 1 < n + 1 := by rw [dep] at hdp; exact hdp
    have hsz := hys.length
    refine ⟨_, .tup hb, false, rfl, iteF ⟨_, .tup hb, false, rfl, iteF ⟨_, .tup hb, false, rfl, iteF ⟨_, .tup ha, true, rfl, iteF ?_⟩⟩⟩⟩
    refine ⟨a, rfl, xs, .inr (SqT.of ha), b, rfl, ys, .inr (SqT.of hb), ?_⟩
    rw [el]
    refine iteNS rfl ?_
    refine ⟨b, rfl, ys, .inr (SqT.of hb), by omega, by omega, ?_⟩
    refine forW_range (lo := 0) (n := ((ys.length : Nat) : Int).toNat) (invA a b H) ⟨none, rfl, rfl⟩ ?_ ?_
    · rintro i σ L hi ⟨v2, rfl, rfl⟩
      have hi' : i < ys.length := by omega
      have gx := hxs.get (i := i) (List.getElem?_eq_getElem (by omega))
      have gy := hys.get (i := i) (List.getElem?_eq_getElem hi')
      obtain ⟨d1, e1, hd1⟩ := gx
      obtain ⟨d2, e2, hd2⟩ := gy
      rw [e1] at e2
      cases e2
      simpa only [spAlike]
      have e0 : (0 : Int) + (i : Int) = ((i : Nat) : Int) := by omega
      have ax : atI xs (0 + (i : Int)) = some xs[i] := by rw [e0]; exact atI_nat (List.getElem?_eq_getElem (by omega))
      have ay : atI ys (0 + (i : Int)) = some ys[i] := by rw [e0]; exact atI_nat (List.getElem?_eq_getElem hi')
      exact .inr ⟨xs, SqT.of ha, _, ax, .inr ⟨ys, SqT.of hb, _, ay, d1, hd1, hd2, okDs_get hk' e1, Nat.lt_of_le_of_lt (deps_get e1) (by omega), iteF ⟨_, rfl, rfl⟩⟩⟩
    · rintro σ L ⟨v2, rfl, rfl⟩
      simpa only [and_self]
      exact q
theorem alikes (F : Fun K "_law_alike" "_law_alike" sAlike f fd) (T : Txt mg) (bA : Binds K fd ["_law_found", "_law_due"] []) (kA : PySem.W.keepIn K (.ref f) = true) (mA : mg "_law_alike" = some (.ref f)) : ∀ n : Nat, FnOk P w K mg base CX0 n f fd ["_law_found", "_law_due"] (spAlike n)
  | 0 => none_alike
  | n + 1 => ok_alike F T (alikes F T bA kA mA n) bA kA mA
end
theorem join_split (b : Nat) : ∀ (l : List Nat) (lim : Nat), joinL [b] (splitF b lim l) = l
  | [], lim => rfl
  | c :: l, lim => by
    rw [splitF]
    obtain ⟨p1, r1, e1⟩ := splitF_cons b l (lim - 1)
    obtain ⟨p2, r2, e2⟩ := splitF_cons b l lim
    split
    · rename_i h
      have ih := join_split b l (lim - 1)
      rw [e1] at ih ⊢
      show [] ++ [b] ++ joinL [b] (p1 :: r1) = _
      rw [ih, h.2]
      rfl
    · have ih := join_split b l lim
      rw [e2] at ih ⊢
      show joinL [b] ((c :: p2) :: r2) = _
      rw [joinL_flat] at ih ⊢
      rw [List.cons_append, ih]
theorem rdF_line {l : List Nat} {d : List Fld} (h : rdF l d) : argL (.doc d) = l := by
  rcases h with ⟨e, e2⟩ | ⟨_, e, _⟩
  · rw [e2, e]; rfl
  · obtain ⟨h1, h2⟩ := prF_sound e
    have hd : d ≠ [] := fun y => h1 (by rw [y]; rfl)
    rw [argL_doc hd, ← h2]
    unfold docL
    rw [List.map_map]
    rfl
theorem rdA_line {k : Str} {l : List Nat} {a : KU.Arg} (h : rdA k l a) : argL a = l ∧ kindOf a = k := by
  cases a with
  | num n => exact ⟨h.2.2.2.symm, h.1.symm⟩
  | doc d => exact ⟨rdF_line h.2, h.1.symm⟩
theorem rdAs_line : ∀ {ks : List Str} {ls : List (List Nat)} {as : List KU.Arg}, rdAs ks ls as → as.map argL = ls ∧ as.map kindOf = ks
  | [], [], [], _ => ⟨rfl, rfl⟩
  | _ :: _, _ :: _, _ :: _, h => by
    have h1 := rdA_line h.1
    have h2 := rdAs_line h.2
    rw [List.map_cons, List.map_cons, h1.1, h1.2, h2.1, h2.2]
    exact ⟨rfl, rfl⟩
  | [], _ :: _, _, h => h.elim
  | [], [], _ :: _, h => h.elim
  | _ :: _, [], _, h => h.elim
  | _ :: _, _ :: _, [], h => h.elim
theorem rdD_line {l : List Nat} {nm : Str} {as : List KU.Arg} (h : rdD l nm as) : lineL nm as = l ∧ (nm, as.map kindOf) ∈ tab := by
  obtain ⟨ks, ps, h1, h2, h3⟩ := h
  obtain ⟨e1, e2⟩ := rdAs_line h3
  have := join_split 32 l ks.length
  rw [h2] at this
  refine ⟨?_, by rw [e2]; exact h1⟩
  unfold lineL
  rw [e1]
  exact this
def Doc1 (d : List Fld) : Prop := dw "" 0 d = none ∧ d.length ≤ 150 ∧ ∀ x ∈ d, Asc x.2 ∧ x.2.length ≤ 1000
def okA1 : KU.Arg → Prop
  | .num n => 0 ≤ n ∧ n < 10 ^ 60
  | .doc d => Doc1 d
def Good1 (nm : Str) (as : List KU.Arg) : Prop := (nm, as.map kindOf) ∈ tab ∧ ∀ a ∈ as, okA1 a
def spLook0 : Sp := fun vs H Q _ => ∃ (a : Addr) (d : List Fld) (xs : List V), vs = [.ref a] ∧ H a = some (.lst xs) ∧ DeepTs H (d.map dvF) xs ∧ d.length ≤ 1000 ∧ (∀ x ∈ d, x.1.length ≤ 1000) ∧ dw "" 0 d = none ∧ ∀ H', Same H H' → Q .non H'
def spShFs : Sp := fun vs H Q _ => ∃ (a : Addr) (d : List Fld) (xs : List V), vs = [.ref a] ∧ H a = some (.lst xs) ∧ DeepTs H (d.map dvF) xs ∧ Doc1 d ∧ ∀ (z : Str) (H' : Hp), Same H H' → z.cps.toList = argL (.doc d) → Q (.str z) H'
section
variable {P : Program} {w : World} {K : PySem.W.Frag} {mg : Str → Option Value} {base : Heap} {f : Addr} {fd : FuncData}
theorem scShFs : FnScope ["document"] ["document"] (defScope sShFs) := ⟨rfl, rfl, rfl, by decide +kernel, rfl, by decide +kernel, by decide +kernel⟩
def invSF (d : List Fld) (H : Hp) (i : Nat) (ys : List V) (σ : St) (L : Hp) : Prop := ∃ (zs : List Str) (v0 v1 : Option V), ys = zs.map V.str ∧ zs.map (fun z => z.cps.toList) = (docL d).take i ∧ Same H L ∧ σ = [v0, v1]
theorem ok_shfs {gl gs : Addr} {dl ds : FuncData} (F : Fun K "show_fields" "show_fields" sShFs f fd) (T : Txt mg) (GLk : FnOk P w K mg base CX0 3 gl dl ["document"] spLook0) (bLk : Binds K dl ["document"] []) (kLk : PySem.W.keepIn K (.ref gl) = true) (mLk : mg "look_at_document" = some (.ref gl))
    (GSf : FnOk P w K mg base CX0 1 gs ds ["field", "text"] spShF) (bSf : Binds K ds ["field", "text"] []) (kSf : PySem.W.keepIn K (.ref gs) = true) (mSf : mg "show_field" = some (.ref gs)) : FnOk P w K mg base CX0 4 f fd ["document"] spShFs := by
  refine F.ok scShFs (fun vs H Q E h => ?_) (fun cdv A outer s H vs Q E hr h => ?_)
  · obtain ⟨a, d, xs, rfl, _⟩ := h
    rfl
  obtain ⟨a, d, xs, rfl, ha, hd, hD, q⟩ := h
  obtain ⟨tF, hNF⟩ := T.noF
  have hr1 := hr.mono (show 1 ≤ 3 by decide)
  refine ⟨_, (pss_cons (ps_expr (pe_call GLk hr rfl mLk kLk bLk .nil pass0 (pa_cons (pv 0) pa_nil)))
    (pss_cons (ps_if (pt_not (pt_truth (pv 0) (fun _ => rfl))) (pss_one (ps_ret (pe_gstr rfl hNF))) pss_nil)
    (pss_one (ps_ret (bmK K PySem.F.plainAttrs_str PySem.F.slot_str_join PySem.F.type_str_join (mt_joinW K) pe_str (pa_cons (pe_comp (N := ["field", "text"]) (pick := [none, none]) (NX := ["document"]) (sX := defScope sShFs) (by decide +kernel) rfl rfl rfl (pi_listK K (pv 0))
        (fun _ _ _ _ => (pgT K (n := 2) rfl (pgs_cons (pg_name (i := 0) (by decide +kernel : (["field", "text"] : List Str).Nodup) rfl (Or.inl rfl)) (pgs_cons (pg_name (i := 1) (by decide +kernel : (["field", "text"] : List Str).Nodup) rfl (Or.inl rfl)) pgs_nil)))) (fun _ _ _ _ => pifs_nil) (fun _ _ _ _ => (pe_call GSf hr1 rfl mSf kSf bSf .nil pass0 (pa_cons (pv 0) (pa_cons (pv 1) pa_nil))))) pa_nil)))))), ?_⟩
  simpa only [spLook0]
  have hok := dw_ok hD.1
  refine ⟨d, xs, ha, hd, by have := hD.2.1; omega, fun x hx => by have := nm_len (hok x hx); omega, hD.1, fun H1 s1 => ?_⟩
  have ha1 := s1 _ _ ha
  have hd1 := hd.same s1
  have hlen : xs.length = d.length := by have := hd.length; rwa [List.length_map] at this
  refine ⟨_, .inl ⟨_, SqL.of ha1, rfl⟩, ite2 (fun c => ?_) fun c => ⟨rfl, ⟨_, SqL.of ha1⟩, ?_⟩⟩
  · have : d = [] := by
      cases d with
      | nil => rfl
      | cons x d =>
        cases xs with
        | nil => simp at hlen
        | cons y ys => cases c
    subst this
    exact q _ H1 s1 (by rw [cNone]; rfl)
  have hne : d ≠ [] := by
    intro e
    subst e
    cases xs with
    | nil => exact c rfl
    | cons y ys => simp at hlen
  refine compW_list xs (invSF d H1) ⟨[], none, none, rfl, rfl, Same.refl _, rfl⟩ ?_ ?_ ?_
  · rintro i ys σ L hi ⟨zs, v0, v1, rfl, hz, sL, rfl⟩
    have := congrArg List.length hz
    rw [List.length_map, List.length_take] at this
    have d20 := hD.2.1
    exact ⟨SqL.of (sL _ _ ha1), by rw [List.length_map, sizeLine_eq]; omega⟩
  · rintro i y ys σ L hy ⟨zs, v0, v1, rfl, hz, sL, rfl⟩
    obtain ⟨dv, e1, e2⟩ := hd1.get hy
    rw [List.getElem?_map] at e1
    obtain ⟨x, hx, rfl⟩ := Option.map_eq_some_iff.mp e1
    obtain ⟨b, rfl, hb⟩ := dvF_at e2
    have hxm : x ∈ d := List.mem_of_getElem? hx
    simpa only [spShF]
    refine ⟨_, SqT.of (sL _ _ hb), rfl, ?_⟩
    simpa only [spShF]
    refine ⟨by have := nm_len (hok x hxm); omega, (hD.2.2 x hxm).2, fun z hzz => ⟨zs ++ [z], _, _, by rw [List.map_append]; rfl, ?_, sL, rfl⟩⟩
    have e3 : (docL d)[i]? = some z.cps.toList := by
      unfold docL
      rw [List.getElem?_map, hx, hzz]
      rfl
    rw [List.map_append, hz, List.take_add_one, e3]
    rfl
  · rintro ys σ L ⟨zs, v0, v1, rfl, hz, sL, rfl⟩ p hp
    have hl0 : (docL d).length = d.length := by unfold docL; rw [List.length_map]
    rw [hlen, ← hl0, List.take_length] at hz
    have hzl : zs.length = d.length := by have := congrArg List.length hz; rw [List.length_map, hl0] at this; exact this
    have hB : ∀ y ∈ zs, y.length ≤ 2015 := fun y hy => by
      have : y.cps.toList ∈ docL d := by rw [← hz]; exact List.mem_map.mpr ⟨y, hy, rfl⟩
      obtain ⟨x, hx, e⟩ := List.mem_map.mp this
      rw [← slen, ← e]
      exact field_len (nm_len (hok x hx)).2 (hD.2.2 x hx).2
    have hS := StrLaws.sumLen_le zs hB
    have hd20 := hD.2.1
    refine ⟨_, p, zs, rfl, rfl, SqL.of upd_same, by decide +kernel, ?_, q _ _ (s1.trans (sL.trans (same_new hp _))) ?_⟩
    · have : zs.length * 2015 ≤ 150 * 2015 := Nat.mul_le_mul_right _ (by omega)
      omega
    · rw [txt_join, hz, cSp, argL_doc hne]
end
theorem arg_len1 {x : KU.Arg} (h : okA1 x) : (argL x).length ≤ 302500 := by
  cases x with
  | num n =>
    have := digs_len h.1 h.2
    show (digs n).length ≤ 302500
    omega
  | doc d =>
    have hD : Doc1 d := h
    cases d with
    | nil => show 4 ≤ 302500; decide
    | cons x d =>
      have hok := dw_ok hD.1
      rw [argL_doc (by simp)]
      show (joinL [32] (fieldL (pairL x) :: docL d)).length ≤ 302500
      have b : ∀ y ∈ x :: d, (fieldL (pairL y)).length ≤ 2015 := fun y hy => field_len (nm_len (hok y hy)).2 (hD.2.2 y hy).2
      have h1 := b x List.mem_cons_self
      have h2 := flat_len (docL d) fun p hp => by
        obtain ⟨y, hy, e⟩ := List.mem_map.mp hp
        rw [← e]
        exact b y (List.mem_cons_of_mem _ hy)
      have h3 : (docL d).length = d.length := by unfold docL; rw [List.length_map]
      have h4 := hD.2.1
      rw [List.length_cons] at h4
      rw [joinL_flat, List.length_append]
      omega
def spShD1 : Sp := fun vs H Q _ => ∃ (a : Addr) (nm : Str) (as : List KU.Arg) (xs : List V), vs = [.ref a] ∧ H a = some (.tup xs) ∧ DeepTs H (dvD nm as) xs ∧ Good1 nm as ∧ ∀ (z : Str) (H' : Hp), Same H H' → z.cps.toList = lineL nm as → Q (.str z) H'
section
variable {P : Program} {w : World} {K : PySem.W.Frag} {mg : Str → Option Value} {base : Heap} {f : Addr} {fd : FuncData}
theorem scShD : FnScope ["deed", "shown", "kind", "part"] ["deed"] (defScope sShD) := ⟨rfl, rfl, rfl, by decide +kernel, rfl, by decide +kernel, by decide +kernel⟩
def invSD (a r : Addr) (nm : Str) (as : List KU.Arg) (H : Hp) (i : Nat) (σ : St) (L : Hp) : Prop := ∃ (zs : List Str) (v2 v3 : Option V), σ = [some (.ref a), some (.ref r), v2, v3] ∧ Same H L ∧ L r = some (.lst (zs.map V.str)) ∧ zs.map (fun z => z.cps.toList) = nm.cps.toList :: (as.take i).map argL ∧ zs.length = i + 1
theorem ok_shd {gs dd : Addr} {ds : FuncData} {kvs : List (Key × V)} (F : Fun K "show_deed" "show_deed" sShD f fd) (T : Txt mg) (GSs : FnOk P w K mg base CX0 4 gs ds ["document"] spShFs) (bSs : Binds K ds ["document"] []) (kSs : PySem.W.keepIn K (.ref gs) = true) (mSs : mg "show_fields" = some (.ref gs))
    (DD : Deeds P w K mg dd kvs) (mD : mg "DEEDS" = some (.ref dd)) : FnOk P w K mg base CX0 5 f fd ["deed"] spShD1 := by
  refine F.ok scShD (fun vs H Q E h => ?_) (fun cdv A outer s H vs Q E hr h => ?_)
  · obtain ⟨a, nm, as, xs, rfl, _⟩ := h
    rfl
  obtain ⟨a, nm, as, xs, rfl, ha, hd, hG, q⟩ := h
  have D := DD.kd
  obtain ⟨ta, tv, tq⟩ := DD.at_ _ _ hG.1
  obtain ⟨x0, xr, rfl, h0, hr0⟩ := deeps_c hd
  have e0 := deep_s h0
  subst e0
  refine ⟨_, (pss_cons (ps_set (i := 1) scShD.nd rfl (Or.inl rfl) (pe_lst (pa_cons (pe_ix (ixT K) (pv 0) pe_int (fun _ _ => rfl)) pa_nil)))
    (pss_cons (ps_for PassesOwn.never rfl (pi_zip K true true rfl T.zip (pa_cons (pe_kget D (pe_gref rfl mD) (pe_ix (ixT K) (pv 0) pe_int (fun _ _ => rfl)) (fun _ _ => rfl)) (pa_cons (pe_slice (slT K) (pv 0) (po_some pe_int) po_none) pa_nil))) (pgT K (n := 2) rfl (pgs_cons (pg_name (i := 2) scShD.nd rfl (Or.inl rfl)) (pgs_cons (pg_name (i := 3) scShD.nd rfl (Or.inl rfl)) pgs_nil)))
      (pss_one (ps_expr (bmK K PySem.F.plainAttrs_list PySem.F.slot_list_append PySem.F.type_list_append mt_append (pv 1) (pa_cons (pe_ifExp (pt_cmpR op_eq (pv 2) pe_str (nomark _)) (pe_call GSs hr rfl mSs kSs bSs .nil pass0 (pa_cons (pv 3) pa_nil)) (pe_callTy call_strI rfl T.str (by decide +kernel) (pa_cons (pv 3) pa_nil))) pa_nil)))))
    (pss_one (ps_ret (bmK K PySem.F.plainAttrs_str PySem.F.slot_str_join PySem.F.type_str_join (mt_joinW K) pe_str (pa_cons (pv 1) pa_nil)))))), ?_⟩
  simpa only [iZip, tKGet, rSlT]
  have lk : as.length ≤ 2 := by have := (tab_args hG.1).1; rwa [List.length_map] at this
  have hxr : xr.length = as.length := by have := hr0.length; rwa [List.length_map] at this
  refine ⟨_, SqT.of ha, _, atI_nat (j := 0) rfl, by decide, fun r hrn => ?_⟩
  have s1 := same_new hrn (.lst [V.str nm])
  refine ⟨_, SqT.of (s1 _ _ ha), _, atI_nat (j := 0) rfl, .inr nm, rfl, _, tv, _, SqT.of (s1 _ _ ha), ?_, fun p hp => ?_⟩
  · rintro ⟨y, _⟩
    unfold HT.sIx at y
    simp at y
  have ec : cutV (V.str nm :: xr) (some 1) none = xr := by
    unfold cutV HT.sIx
    simp
  rw [ec]
  have s2 := same_new hp (.tup xr)
  have nrp : r ≠ p := fun y => by rw [← y, upd_same] at hp; cases hp
  have hrl : (upd (upd H r (.lst [V.str nm])) p (.tup xr)) r = some (.lst [V.str nm]) := by rw [upd_ne nrp]; exact upd_same
  have hpl : (upd (upd H r (.lst [V.str nm])) p (.tup xr)) p = some (.tup xr) := upd_same
  have s12 : Same H (upd (upd H r (.lst [V.str nm])) p (.tup xr)) := s1.trans s2
  generalize upd (upd H r (.lst [V.str nm])) p (.tup xr) = H1 at hrl hpl s12 ⊢
  refine ⟨ta, rfl, (as.map kindOf).map V.str, tq _, xr, SqT.of hpl, ?_⟩
  have hHr : H r = none := hrn
  have hHp : H p = none := by
    cases hq : H p with
    | none => rfl
    | some o => rw [s1 _ _ hq] at hp; cases hp
  have keep : ∀ L, (∃ zs : List Str, Same H L ∧ L p = some (.tup xr) ∧ L r = some (.lst (zs.map V.str))) → True := fun _ _ => trivial
  refine forW_zip (by rw [List.length_map, List.length_map]; exact hxr.symm) (fun i σ L => invSD a r nm as H i σ L ∧ L p = some (.tup xr)) ⟨⟨[nm], none, none, rfl, s12, hrl, rfl, rfl⟩, hpl⟩ ?_ ?_ ?_
  · rintro i σ L hi ⟨_, hpL⟩
    exact ⟨tq L, SqT.of hpL⟩
  · rintro i ka pb T1 σ L hka hpb ⟨⟨zs, v2, v3, rfl, sL, hL, hz, hzl⟩, hpL⟩ hT
    have hdr : DeepTs L (as.map dvA) xr := hr0.same sL
    obtain ⟨dv, g1, g2⟩ := hdr.get hpb
    rw [List.getElem?_map] at g1
    obtain ⟨x, hx, rfl⟩ := Option.map_eq_some_iff.mp g1
    have hka' : ka = .str (kindOf x) := by
      rw [List.getElem?_map, List.getElem?_map, hx] at hka
      exact (Option.some.inj hka).symm
    subst hka'
    have hxm : x ∈ as := List.mem_of_getElem? hx
    have hil : i < as.length := (List.getElem?_eq_some_iff.mp hx).1
    have hokx := hG.2 x hxm
    simpa only [spShFs, tyV]
    refine ⟨_, SqT.of upd_same, rfl, ?_⟩
    simpa only [spShFs, tyV]
    have sT := same_new hT (.tup [V.str (kindOf x), pb])
    have nrT : r ≠ T1 := fun y => by rw [y, hT] at hL; cases hL
    have npT : p ≠ T1 := fun y => by rw [y, hT] at hpL; cases hpL
    have fin : ∀ (z : Str) (L2 : Hp), Same (upd L T1 (.tup [V.str (kindOf x), pb])) L2 → z.cps.toList = argL x → ∀ v2 v3 : Option V,
        invSD a r nm as H (i + 1) [some (.ref a), some (.ref r), v2, v3] (upd L2 r (.lst (zs.map V.str ++ [V.str z]))) ∧ (upd L2 r (.lst (zs.map V.str ++ [V.str z]))) p = some (.tup xr) := by
      intro z L2 sL2 hzz v2 v3
      refine ⟨⟨zs ++ [z], v2, v3, rfl, (sL.trans (sT.trans sL2)).newer hHr _, by rw [upd_same, List.map_append]; rfl, ?_, by rw [List.length_append, hzl]; rfl⟩, ?_⟩
      · rw [List.map_append, hz, List.take_add_one, hx, List.map_append]
        simp only [List.map_cons, List.map_nil, hzz, Option.toList_some, List.cons_append]
      · rw [upd_ne nrp.symm]
        exact sL2 _ _ (sT _ _ hpL)
    have hrT : (upd L T1 (.tup [V.str (kindOf x), pb])) r = some (.lst (zs.map V.str)) := sT _ _ hL
    refine ⟨.inl ⟨_, SqL.of hrT⟩, ?_⟩
    cases x with
    | num n =>
      have ek : kindOf (.num n) = "number" := rfl
      have e2 : pb = .int n := deep_i g2
      subst e2
      rw [ek]
      rw [decide_eq_false (show ¬ (("number" : Str) = "fields") by decide +kernel)]
      refine iteF ⟨n, rfl, log60 hokx.1 hokx.2, _, hrT, by rw [List.length_map, hzl, sizeLine_eq]; omega, ?_⟩
      exact fin _ _ (Same.refl _) rfl _ _
    | doc d =>
      have ek : kindOf (.doc d) = "fields" := rfl
      obtain ⟨b, us, rfl, hb, hus⟩ := deep_l g2
      rw [ek]
      rw [decide_eq_true (show (("fields" : Str) = "fields") from rfl)]
      refine iteT ⟨b, rfl, d, us, sT _ _ hb, hus.same sT, hokx, fun z L2 sL2 hzz => ⟨_, sL2 _ _ hrT, by rw [List.length_map, hzl, sizeLine_eq]; omega, ?_⟩⟩
      exact fin z L2 sL2 hzz _ _
  · rintro σ L ⟨⟨zs, v2, v3, rfl, sL, hL, hz, hzl⟩, hpL⟩
    rw [List.length_map, List.length_map] at hz hzl
    rw [List.take_length] at hz
    simpa only [tyV]
    have hB : ∀ y ∈ zs, y.length ≤ 302500 := fun y hy => by
      have hm : y.cps.toList ∈ nm.cps.toList :: as.map argL := by rw [← hz]; exact List.mem_map.mpr ⟨y, hy, rfl⟩
      rw [← slen]
      rcases List.mem_cons.mp hm with e | e
      · rw [e, slen]; have := (tab_args hG.1).2.2.1; omega
      · obtain ⟨x, hx, e⟩ := List.mem_map.mp e
        rw [← e]
        exact arg_len1 (hG.2 x hx)
    have hS := StrLaws.sumLen_le zs hB
    refine ⟨_, r, zs, rfl, rfl, SqL.of hL, by decide +kernel, ?_, q _ L sL ?_⟩
    · have : zs.length * 302500 ≤ 3 * 302500 := Nat.mul_le_mul_right _ (by omega)
      omega
    · rw [txt_join, hz, cSp]
      rfl
end
theorem flat_four : ∀ qs : List (List Nat × List Nat), 4 * qs.length ≤ ((qs.map fieldL).flatMap ([32] ++ ·)).length ∧ ∀ p ∈ qs, ∀ c ∈ fieldL p, c ∈ (qs.map fieldL).flatMap ([32] ++ ·)
  | [] => ⟨Nat.le_refl _, fun p hp => by cases hp⟩
  | y :: qs => by
    have h1 := field_ge y
    have h2 := flat_four qs
    rw [List.map_cons, List.flatMap_cons, List.length_append, List.length_append, List.length_singleton, List.length_cons]
    refine ⟨by omega, fun p hp c hc => ?_⟩
    rcases List.mem_cons.mp hp with e | hp
    · rw [e] at hc
      exact List.mem_append_left _ (List.mem_append_right _ hc)
    · exact List.mem_append_right _ (h2.2 p hp c hc)
theorem join_four (ps : List (List Nat × List Nat)) : 4 * ps.length ≤ (joinL [32] (ps.map fieldL)).length + 1 ∧ ∀ p ∈ ps, ∀ c ∈ fieldL p, c ∈ joinL [32] (ps.map fieldL) := by
  cases ps with
  | nil => exact ⟨Nat.zero_le _, fun p hp => by cases hp⟩
  | cons p ps =>
    rw [List.map_cons, joinL_flat]
    have h1 := field_ge p
    have h3 := flat_four ps
    rw [List.length_append, List.length_cons]
    refine ⟨by omega, fun y hy c hc => ?_⟩
    rcases List.mem_cons.mp hy with e | hy
    · rw [e] at hc
      exact List.mem_append_left _ hc
    · exact List.mem_append_right _ (h3.2 y hy c hc)
theorem join_text : ∀ (ps : List (List Nat × List Nat)), ∀ p ∈ ps, p.2.length ≤ (joinL [32] (ps.map fieldL)).length := fun ps p hp => by
  have h1 : p.2.length ≤ (fieldL p).length := by
    have := (dblL_le p.2).1
    unfold fieldL
    simp
    omega
  have h2 : ∀ (qs : List (List Nat × List Nat)), p ∈ qs → (fieldL p).length ≤ ((qs.map fieldL).flatMap ([32] ++ ·)).length := fun qs hq => by
    induction qs with
    | nil => cases hq
    | cons y qs ih =>
      rw [List.map_cons, List.flatMap_cons, List.length_append, List.length_append, List.length_singleton]
      rcases List.mem_cons.mp hq with e | hq
      · rw [e]; omega
      · have := ih hq; omega
  cases ps with
  | nil => cases hp
  | cons y ps =>
    rw [List.map_cons, joinL_flat, List.length_append]
    rcases List.mem_cons.mp hp with e | hp
    · rw [e] at h1 ⊢; omega
    · have := h2 ps hp; omega
theorem rdF_good {l : List Nat} {d : List Fld} (h : rdF l d) (hl : l.length ≤ 500) (hA : ∀ c ∈ l, 32 ≤ c ∧ c ≤ 126 ∧ c ≠ 37) : Doc1 d := by
  rcases h with ⟨_, e⟩ | ⟨_, e, hw⟩
  · rw [e]; exact ⟨rfl, Nat.zero_le _, fun x hx => by cases hx⟩
  · obtain ⟨_, h2⟩ := prF_sound e
    have h4 := join_four (d.map pairL)
    have h5 := join_text (d.map pairL)
    rw [h2] at h4 h5
    rw [List.length_map] at h4
    refine ⟨hw, by omega, fun x hx => ⟨fun c hc => ?_, ?_⟩⟩
    · refine hA c (h4.2 (pairL x) (List.mem_map.mpr ⟨x, hx, rfl⟩) c ?_)
      have := mem_dblL hc
      unfold fieldL
      simp
      exact .inr (.inr (.inr (.inl this)))
    · have h6 := h5 (pairL x) (List.mem_map.mpr ⟨x, hx, rfl⟩)
      have h7 : (pairL x).2.length = x.2.length := slen _
      omega
theorem rdAs_all : ∀ {ks : List Str} {ls : List (List Nat)} {as : List KU.Arg}, rdAs ks ls as → ∀ a ∈ as, ∃ k, ∃ l ∈ ls, rdA k l a
  | [], [], [], _, a, ha => by cases ha
  | k :: ks, l :: ls, b :: as, h, a, ha => by
    rcases List.mem_cons.mp ha with e | ha
    · rw [e]; exact ⟨k, l, List.mem_cons_self, h.1⟩
    · obtain ⟨k', l', h1, h2⟩ := rdAs_all h.2 a ha
      exact ⟨k', l', List.mem_cons_of_mem _ h1, h2⟩
  | [], _ :: _, _, h, _, _ => h.elim
  | [], [], _ :: _, h, _, _ => h.elim
  | _ :: _, [], _, h, _, _ => h.elim
  | _ :: _, _ :: _, [], h, _, _ => h.elim
theorem rdD_good {z nm : Str} {as : List KU.Arg} (h : rdD z.cps.toList nm as) (hz : z.length ≤ 500) (hA : Asc z) : Good1 nm as := by
  refine ⟨(rdD_line h).2, fun a ha => ?_⟩
  obtain ⟨ks, ps, _, h2, h3⟩ := h
  obtain ⟨k, l, hl, hr⟩ := rdAs_all h3 a ha
  have hi := split_in 32 z.cps.toList ks.length l (by rw [h2]; exact List.mem_cons_of_mem _ hl)
  rw [slen] at hi
  cases a with
  | num n => exact ⟨hr.2.1, hr.2.2.1⟩
  | doc d => exact rdF_good hr.2 (by omega) fun c hc => hA c (hi.2 c hc)
def spNI : Sp := fun vs H Q _ => ∃ z : Str, vs = [.str z] ∧ z.length ≤ 1000 ∧ Asc z ∧ (∀ n : Int, 0 ≤ n → n < 10 ^ 60 → z.cps.toList = digs n → Q (.int n) H) ∧ (numB z.cps.toList = false → Q .non H)
theorem dig_in : ∀ c : Nat, c < 127 → (Builtin.Str.occurrences ("0123456789" : Str) ⟨#[c]⟩ 0 ("0123456789" : Str).length 1).isEmpty = !isFig c := by decide +kernel
section
variable {P : Program} {w : World} {K : PySem.W.Frag} {mg : Str → Option Value} {base : Heap} {f : Addr} {fd : FuncData}
theorem scNuI : FnScope ["_law_text_here", "_law_sign"] ["_law_text_here"] (defScope sNuI) := ⟨rfl, rfl, rfl, by decide +kernel, rfl, by decide +kernel, by decide +kernel⟩
def invNI (z : Str) (H : Hp) (i : Nat) (σ : St) (L : Hp) : Prop := ∃ v1 : Option V, σ = [some (.str z), v1] ∧ L = H ∧ ∀ c ∈ z.cps.toList.take i, isFig c = true
theorem ok_ni (F : Fun K "_law_number_in" "_law_number_in" sNuI f fd) (T : Txt mg) : FnOk P w K mg base CX0 1 f fd ["_law_text_here"] spNI := by
  refine F.ok scNuI (fun vs H Q E h => ?_) (fun cdv A outer s H vs Q E hr h => ?_)
  · obtain ⟨z, rfl, _⟩ := h
    rfl
  obtain ⟨z, rfl, hz, hA, q, qn⟩ := h
  refine ⟨_, (pss_cons (ps_if (PW.pt (pw_or (pt_cmpR op_eq (pv 0) pe_str (nomark _)) (pw_or (pt_cmpR op_gt (pe_callB call_len_str rfl T.len PySem.boot_len (pa_cons (pv 0) pa_nil)) pe_int (nomark _)) (pw_or1 (PW.pt (pw_and (pt_cmpR op_eq (pe_ix ix_str (pv 0) pe_int (fun _ _ => rfl)) pe_str (nomark _)) (pw_and1 (pt_cmpR op_ne (pv 0) pe_str (nomark _))))))))) (pss_one (ps_ret pe_non)) pss_nil)
    (pss_cons (ps_for PassesOwn.never rfl (pi_str (pv 0)) (pg_name (i := 1) scNuI.nd rfl (Or.inl rfl))
      (pss_one (ps_if (pt_cmpR op_notin_str (pv 1) pe_str rfl) (pss_one (ps_ret pe_non)) pss_nil)))
    (pss_one (ps_ret (pe_callTy call_intT rfl T.int (by decide +kernel) (pa_cons (pv 0) pa_nil)))))), ?_⟩
  simpa only [iStr]
  have zs : z.length ≤ sizeLine := small hz
  have loop : 1 ≤ z.length → z.length ≤ 60 → (1 < z.length → z.cps.toList.head? ≠ some 48) → ForW (gName 1) (tIfS (tTest (tOp (fun x y H Q => ∃ i, x = V.str i ∧ ∃ x, y = V.str x ∧ Q (V.bl !!(Builtin.Str.occurrences x i 0 x.length 1).isEmpty) H) (tVar 1) (tC (V.str "0123456789")))) (tRet (tC V.non)) tNext)
      { nx := tRet (tCB (fun xs H Q => ∃ z, xs = [V.str z] ∧ z.length ≤ 640 ∧ ∃ x, PySem.intText? z = some x ∧ Q (V.int x) H) (tCons (tVar 0) tNil)) { nx := fun _ H' => Q V.non H', rt := Q }, rt := Q } [some (V.str z), none] (Its z) H := fun l1 l2 l3 => by
    refine forW_str (invNI z H) ⟨none, rfl, rfl, fun c hc => by rw [List.take_zero] at hc; cases hc⟩ ?_ ?_
    · rintro i c σ L hc ⟨v1, rfl, rfl, hi⟩
      simpa only [and_self]
      have hcz : c ∈ z.cps.toList := List.mem_of_getElem? hc
      have hca := hA c hcz
      rw [dig_in c (by omega)]
      cases hf : isFig c with
      | true =>
        refine iteF ⟨_, rfl, rfl, fun x hx => ?_⟩
        rw [List.take_add_one, hc] at hx
        rcases List.mem_append.mp hx with h | h
        · exact hi x h
        · rw [List.mem_singleton.mp h]; exact hf
      | false =>
        refine iteT (qn ?_)
        unfold numB
        have : z.cps.toList.all isFig = false := by
          rw [List.all_eq_false]
          exact ⟨c, hcz, by rw [hf]; exact Bool.false_ne_true⟩
        rw [this, Bool.and_false, Bool.false_and]
    · rintro σ L ⟨v1, rfl, rfl, hi⟩
      simpa only [and_self]
      rw [← slen, List.take_length] at hi
      obtain ⟨n, n0, n1, hn⟩ := digs_of (l := z.cps.toList) (by rw [slen]; exact l1) (by rw [slen]; exact l2) (fun c hc => of_decide_eq_true (hi c hc)) (by rw [slen]; exact l3)
      exact ⟨by omega, n, int_of hn.symm n0 n1, q n n0 n1 hn.symm⟩
  have bad : ¬ (1 ≤ z.length ∧ z.length ≤ 60) → Q .non H := fun n => qn (by
    unfold numB
    rw [slen, decide_eq_false n]
    rfl)
  refine ite2 (fun c1 => bad fun y => ?_) fun c1 => ⟨zs, ite2 (fun c2 => bad fun y => ?_) fun c2 => ⟨zs, ?_⟩⟩
  · have e : z = "" := of_decide_eq_true c1
    rw [e] at y
    exact absurd y.1 (by decide)
  · have := of_decide_eq_true c2
    omega
  have l2 : z.length ≤ 60 := by
    have : ¬ (60 : Int) < (z.length : Int) := fun y => c2 (decide_eq_true y)
    omega
  cases hc : z.cps.toList with
  | nil => exact absurd (decide_eq_true (show z = "" from sx (by rw [hc]; rfl))) c1
  | cons x r =>
    have l1 : 1 ≤ z.length := by rw [← slen, hc, List.length_cons]; omega
    refine ⟨x, atI_nat (j := 0) rfl, ite2 (fun c3 => ite2 (fun c4 => ?_) fun c4 => ?_) fun c3 => ?_⟩
    · have e4 : (⟨#[x]⟩ : Str) = "0" := of_decide_eq_true c3
      have e5 : [x] = [48] := by
        have : (⟨#[x]⟩ : Str).cps.toList = ("0" : Str).cps.toList := by rw [e4]
        rw [cs0] at this
        exact this
      have hx : x = 48 := (List.cons.inj e5).1
      have hne : ¬ z = "0" := fun y => by rw [decide_eq_true y] at c4; cases c4
      have hr : r ≠ [] := fun y => hne (sx (by rw [hc, y, hx, cs0]))
      have hl : ¬ z.length ≤ 1 := by
        rw [← slen, hc, List.length_cons]
        have := List.length_pos_iff.mpr hr
        omega
      refine qn ?_
      unfold numB
      rw [slen, decide_eq_false hl, hc, List.head?_cons, hx]
      simp
    · have e0 : z = "0" := by
        cases h : decide (z = ("0" : Str)) with
        | true => exact of_decide_eq_true h
        | false => rw [h] at c4; exact absurd rfl c4
      exact loop l1 l2 fun y => by rw [e0] at y; exact absurd y (by decide)
    · refine loop l1 l2 fun _ y => c3 (decide_eq_true ?_)
      rw [hc, List.head?_cons] at y
      apply sx
      rw [cs0, Option.some.inj y]
end
theorem txE_ne {c : Nat} {r : List Nat} (h : c ≠ 39) : txE (c :: r) = (txE r).map fun p => (c :: p.1, p.2) := by
  cases r with
  | nil => simp [txE, h]
  | cons d s => rw [txE, if_neg h]
theorem txE_two (r : List Nat) : txE (39 :: 39 :: r) = (txE r).map fun p => (39 :: p.1, p.2) := by rw [txE, if_pos rfl, if_pos rfl]
theorem txE_one {r : List Nat} (h : r.head? ≠ some 39) : txE (39 :: r) = some ([], r) := txE_of [] h
def spTI : Sp := fun vs H Q _ => ∃ (z : Str) (b : Nat), vs = [.str z, .int (b : Int)] ∧ b ≤ z.length + 1 ∧ z.length ≤ 1000 ∧ (∀ t rest, txE (z.cps.toList.drop b) = some (t, rest) → rest.length ≤ z.length → ∀ p H', Same H H' → H p = none → H' p = some (.tup [.str ⟨t.toArray⟩, .int ((z.length - rest.length : Nat) : Int)]) → Q (.ref p) H') ∧ (txE (z.cps.toList.drop b) = none → Q .non H)
section
variable {P : Program} {w : World} {K : PySem.W.Frag} {mg : Str → Option Value} {base : Heap} {f : Addr} {fd : FuncData}
theorem scTxI : FnScope ["_law_line_here", "_law_at", "_law_found"] ["_law_line_here", "_law_at"] (defScope sTxI) := ⟨rfl, rfl, rfl, by decide +kernel, rfl, by decide +kernel, by decide +kernel⟩
def invTI (z : Str) (b : Nat) (H : Hp) (σ : St) (L : Hp) : Prop := ∃ (pos : Nat) (u : List Nat), σ = [some (.str z), some (.int (pos : Int)), some (.str ⟨u.toArray⟩)] ∧ L = H ∧ pos ≤ z.length + 1 ∧ u.length ≤ pos ∧ txE (z.cps.toList.drop b) = (txE (z.cps.toList.drop pos)).map fun p => (u ++ p.1, p.2)
def muTI (z : Str) (σ : St) (_ : Hp) : Nat := match σ with
  | [_, some (.int e), _] => (z.length + 2) - e.toNat
  | _ => 0
theorem ok_ti (F : Fun K "_law_text_in" "_law_text_in" sTxI f fd) (T : Txt mg) : FnOk P w K mg base CX0 1 f fd ["_law_line_here", "_law_at"] spTI := by
  refine F.ok scTxI (fun vs H Q E h => ?_) (fun cdv A outer s H vs Q E hr h => ?_)
  · obtain ⟨z, b, rfl, _⟩ := h
    rfl
  obtain ⟨z, b, rfl, hb, hz, q, qn⟩ := h
  have zs : z.length ≤ sizeLine := small hz
  have zl : z.cps.toList.length = z.length := slen z
  refine ⟨_, (pss_cons (ps_set (i := 2) scTxI.nd rfl (Or.inl rfl) pe_str)
    (pss_cons (ps_while PassesOwn.never (pt_cmpR op_ne (pe_slice sl_str (pv 0) (po_some (pv 1)) (po_some (pe_op op_add (pv 1) pe_int))) pe_str (nomark _))
      (pss_one (ps_if (pt_cmpR op_ne (pe_ix ix_str (pv 0) (pv 1) (fun _ _ => rfl)) pe_str (nomark _)) (pss_cons (ps_set (i := 2) scTxI.nd rfl (Or.inl rfl) (pe_op op_add_str (pv 2) (pe_ix ix_str (pv 0) (pv 1) (fun _ _ => rfl))))
    (pss_one (ps_set (i := 1) scTxI.nd rfl (Or.inl rfl) (pe_op op_add (pv 1) pe_int)))) (pss_one (ps_if (pt_cmpR op_eq (pe_slice sl_str (pv 0) (po_some (pv 1)) (po_some (pe_op op_add (pv 1) pe_int))) pe_str (nomark _)) (pss_cons (ps_set (i := 2) scTxI.nd rfl (Or.inl rfl) (pe_op op_add_str (pv 2) pe_str))
    (pss_one (ps_set (i := 1) scTxI.nd rfl (Or.inl rfl) (pe_op op_add (pv 1) pe_int)))) (pss_one (ps_ret (pe_tup (pa_cons (pv 2) (pa_cons (pe_op op_add (pv 1) pe_int) pa_nil))))))))))
    (pss_one (ps_ret pe_non)))), ?_⟩
  simpa only [and_self]
  refine whileW2 (invTI z b H) (muTI z) ⟨b, [], rfl, rfl, hb, Nat.zero_le _, by cases txE (z.cps.toList.drop b) <;> rfl⟩ ?_
  rintro σ L ⟨pos, u, rfl, rfl, hp, hu, he⟩
  simpa only [tyV]
  have c1 : (pos : Int) + 1 = ((pos + 1 : Nat) : Int) := by omega
  have c2 : (pos : Int) + 2 = ((pos + 2 : Nat) : Int) := by omega
  rw [c1, c2, cutL_nat _ (by omega), cutL_nat _ (by omega), show pos + 1 - pos = 1 by omega, show pos + 2 - pos = 2 by omega]
  refine ⟨zs, ?_⟩
  cases hd : z.cps.toList.drop pos with
  | nil =>
    rw [show (⟨(([] : List Nat).take 1).toArray⟩ : Str) = "" from rfl, decide_eq_true rfl]
    refine iteF (qn ?_)
    rw [he, hd]; rfl
  | cons c r =>
    have hpl : pos + 1 + r.length = z.length := by
      have := congrArg List.length hd
      rw [List.length_drop, List.length_cons, zl] at this
      omega
    have hne : ¬ (⟨((c :: r).take 1).toArray⟩ : Str) = "" := fun y => by
      have := congrArg (fun s : Str => s.cps.toList.length) y
      simp at this
      exact absurd this (by decide)
    rw [decide_eq_false hne]
    refine iteT ⟨_, fun _ _ h => h, zs, c, atI_nat (drop_at hd), ?_⟩
    have ul : (⟨u.toArray⟩ : Str).length = u.length := by rw [← slen]
    have e9 : ∀ x : Nat, (⟨u.toArray⟩ ++ ⟨#[x]⟩ : Str) = ⟨(u ++ [x]).toArray⟩ := fun x => sx (by rw [app_cps])
    by_cases hc : c = 39
    · subst hc
      rw [decide_eq_true (show (⟨#[39]⟩ : Str) = "'" from cQ.symm)]
      refine iteF ⟨zs, ?_⟩
      by_cases hh : r.head? = some 39
      · cases r with
        | nil => cases hh
        | cons d r =>
          have hd9 : d = 39 := Option.some.inj hh
          subst hd9
          rw [List.length_cons] at hpl
          rw [decide_eq_true (show (⟨((39 :: 39 :: r).take 2).toArray⟩ : Str) = "''" from cQQ.symm)]
          refine iteT ⟨by rw [ul, cQ]; exact small (by show u.length + 1 ≤ 1000; omega), _, ?_, rfl, pos + 2, u ++ [39], by rw [cQ, e9], rfl, by omega, by simp; omega, ?_⟩
          · show z.length + 2 - (((pos + 2 : Nat) : Int)).toNat < z.length + 2 - ((pos : Int)).toNat
            omega
          · rw [he, hd, txE_two, drop_one (drop_one hd), Option.map_map]
            congr 1
            funext p
            simp
      · have hn2 : ¬ (⟨((39 :: r).take 2).toArray⟩ : Str) = "''" := fun y => by
          have y' := congrArg (fun s : Str => s.cps.toList) y
          rw [cQQ] at y'
          cases r with
          | nil => simp at y'
          | cons d r =>
            have y3 : d = 39 := by simpa using y'
            exact hh (by rw [y3]; rfl)
        rw [decide_eq_false hn2]
        refine iteF ⟨by decide, fun p hpn => q u r (by rw [he, hd, txE_one hh]; simp) (by omega) p _ (same_new hpn _) hpn ?_⟩
        rw [upd_same, show z.length - r.length = pos + 1 by omega]
    · rw [decide_eq_false (show ¬ (⟨#[c]⟩ : Str) = "'" from fun y => hc (by rw [cQ] at y; have := congrArg (fun s : Str => s.cps.toList) y; exact (List.cons.inj this).1))]
      refine iteT ⟨zs, c, atI_nat (drop_at hd), by rw [ul]; exact small (by show u.length + 1 ≤ 1000; omega), _, ?_, rfl, pos + 1, u ++ [c], by rw [e9], rfl, by omega, by simp; omega, ?_⟩
      · show z.length + 2 - (((pos + 1 : Nat) : Int)).toNat < z.length + 2 - ((pos : Int)).toNat
        omega
      · rw [he, hd, txE_ne hc, drop_one hd, Option.map_map]
        congr 1
        funext p
        simp
end
def spDI : Sp := fun vs H Q _ => ∃ z : Str, vs = [.str z] ∧ z.length ≤ 1000 ∧ Asc z ∧ (∀ d : List Fld, rdF z.cps.toList d → ∀ (p : Addr) (xs : List V) (H' : Hp), Same H H' → H p = none → H' p = some (.lst xs) → DeepTs H' (d.map dvF) xs → Q (.ref p) H') ∧ ((∀ d, ¬ rdF z.cps.toList d) → ∀ H', Same H H' → Q .non H')
def lastN (p : Str) : List Fld → Str
  | [] => p
  | x :: r => lastN x.1 r
theorem dw_app : ∀ {d : List Fld} {p : Str} {j : Nat} (r : List Fld), dw p j d = none → ∃ j', dw p j (d ++ r) = dw (lastN p d) j' r
  | [], p, j, r, _ => ⟨j, rfl⟩
  | x :: d, p, j, r, h => by
    rw [dw] at h
    by_cases hb : badF p x.1 = true
    · rw [if_pos hb] at h; cases h
    · rw [if_neg hb] at h
      obtain ⟨j', e⟩ := dw_app r h
      refine ⟨j', ?_⟩
      rw [List.cons_append, dw, if_neg hb]
      exact e
theorem dw_snoc {d : List Fld} {x : Fld} (h : dw "" 0 d = none) (hb : badF (lastN "" d) x.1 = false) : dw "" 0 (d ++ [x]) = none := by
  obtain ⟨j, e⟩ := dw_app [x] h
  rw [e, dw, hb]
  rfl
theorem dw_bad {d r : List Fld} {x : Fld} (h : dw "" 0 d = none) (hb : badF (lastN "" d) x.1 = true) : dw "" 0 (d ++ x :: r) ≠ none := by
  obtain ⟨j, e⟩ := dw_app (x :: r) h
  rw [e, dw, hb]
  simp
theorem lastN_snoc : ∀ (p : Str) (d : List Fld) (x : Fld), lastN p (d ++ [x]) = x.1
  | _, [], _ => rfl
  | _, y :: d, x => lastN_snoc y.1 d x
theorem prF_first {n : Nat} {s g r : List Nat} {ps : List (List Nat × List Nat)} (h : prF (n + 1) s = some ps) (e : cqF s = some (g, r)) : ∃ t rest, txE r = some (t, rest) ∧ ∃ qs, ps = (g, t) :: qs := by
  cases ht : txE r with
  | none => rw [prF_no2 e ht] at h; cases h
  | some y =>
    obtain ⟨t, r2⟩ := y
    cases r2 with
    | nil => rw [prF_end e ht] at h; cases h; exact ⟨t, [], rfl, [], rfl⟩
    | cons c r2 =>
      rw [prF_go e ht] at h
      split at h
      · obtain ⟨qs, _, y⟩ := Option.map_eq_some_iff.mp h
        exact ⟨t, _, rfl, qs, y.symm⟩
      · cases h
theorem seq_inv {a b : TS} {D : Ends} {σ : St} {H : Hp} (Iv : St → Hp → Prop) (hb : ∀ σ' H', Iv σ' H' → b D σ' H') (ha : ∀ N : St → Hp → Prop, (∀ σ' H', Iv σ' H' → N σ' H') → a { D with nx := N } σ H) : tSeq a b D σ H := ha (b D) hb
theorem seq_go {a b : TS} {D : Ends} {σ : St} {H : Hp} (h : a { D with nx := b D } σ H) : tSeq a b D σ H := h
theorem whileW3 {c : TT} {tb : TS} {D : Ends} {σ : St} {H : Hp} (Pv R : St → Hp → Prop) (μ : St → Nat) (h0 : Pv σ H)
    (hb : ∀ σ H, R σ H → ∃ N : St → Hp → Prop, (∀ σ' H', N σ' H' → μ σ' < μ σ ∧ Pv σ' H') ∧ tb { D with nx := N, ct := N, bk := D.nx } σ H)
    (hs : ∀ σ H, Pv σ H → ∀ Y : Hp → Prop, (∀ H1, R σ H1 → Y H1) → c σ H fun b H1 => if b = true then Y H1 else D.nx σ H1) : WhileW c tb D σ H :=
  whileW2 Pv (fun σ _ => μ σ) h0 fun σ H p => hs σ H p _ fun H1 r => by
    obtain ⟨N, n1, n2⟩ := hb σ H1 r
    exact ⟨N, fun σ' H' n => ⟨_, (n1 σ' H' n).1, rfl, (n1 σ' H' n).2⟩, n2⟩
theorem az_in (c : Nat) : decide (c ∈ (Str.ofString "abcdefghijklmnopqrstuvwxyz").cps.toList) = lower1 c := by
  have e : (Str.ofString "abcdefghijklmnopqrstuvwxyz").cps.toList = List.range' 97 26 := by decide +kernel
  rw [e]
  unfold lower1
  by_cases h : 97 ≤ c ∧ c ≤ 122
  · rw [decide_eq_true h]
    exact decide_eq_true (List.mem_range'_1.mpr ⟨h.1, by omega⟩)
  · rw [decide_eq_false h]
    exact decide_eq_false fun z => h (by have := List.mem_range'_1.mp z; omega)
theorem getl {xs : List V} {d : List Fld} {H : Hp} (h : DeepTs H (d.map dvF) xs) (hne : d ≠ []) : ∃ a x, atI xs (-1) = some (.ref a) ∧ H a = some (.tup [.str (lastN "" d), .str x]) := by
  obtain ⟨d', x, rfl⟩ : ∃ d' x, d = d' ++ [x] := ⟨d.dropLast, d.getLast hne, (List.dropLast_concat_getLast hne).symm⟩
  have hl := h.length
  rw [List.length_map, List.length_append, List.length_singleton] at hl
  obtain ⟨y, hy, hd⟩ := h.get' (i := d'.length) (d := dvF x) (by rw [List.getElem?_map]; simp)
  obtain ⟨a, rfl, ha⟩ := dvF_at hd
  refine ⟨a, x.2, ?_, by rw [lastN_snoc]; exact ha⟩
  unfold atI
  rw [show ixN xs.length (-1) = some d'.length from ?_]
  · exact hy
  · unfold ixN
    rw [if_neg (by decide), if_pos (by omega), hl]
    congr 1
    omega
section
variable {P : Program} {w : World} {K : PySem.W.Frag} {mg : Str → Option Value} {base : Heap} {f : Addr} {fd : FuncData}
theorem scDoI : FnScope ["_law_line_here", "_law_found", "_law_at", "_law_end", "_law_text_here", "_law_name"] ["_law_line_here"] (defScope sDoI) := ⟨rfl, rfl, rfl, by decide +kernel, rfl, by decide +kernel, by decide +kernel⟩
def AtD (z : Str) (d : List Fld) (at_ : Nat) : Prop := at_ ≤ z.length ∧ dw "" 0 d = none ∧ ((d = [] ∧ at_ = 0) ∨ (d ≠ [] ∧ ∃ n, z.length < n + at_ ∧ prF (z.length + 1) z.cps.toList = match z.cps.toList.drop at_ with
  | [] => some (d.map pairL)
  | c :: r => if c = 32 then (prF n r).map (d.map pairL ++ ·) else none))
def stD (z : Str) (r : Addr) (H : Hp) (d : List Fld) (at_ : Nat) (σ : St) (L : Hp) : Prop := ∃ (xs : List V) (v3 v4 v5 : Option V), σ = [some (.str z), some (.ref r), some (.int (at_ : Int)), v3, v4, v5] ∧ Same H L ∧ L r = some (.lst xs) ∧ DeepTs (hide r L) (d.map dvF) xs ∧ d.length ≤ at_
def invDI (z : Str) (r : Addr) (H : Hp) (σ : St) (L : Hp) : Prop := ∃ (d : List Fld) (at_ : Nat), stD z r H d at_ σ L ∧ AtD z d at_
def invDJ (z : Str) (r : Addr) (H : Hp) (σ : St) (L : Hp) : Prop := ∃ (d : List Fld) (at_ : Nat), stD z r H d at_ σ L ∧ AtD z d at_ ∧ (d = [] ∨ at_ < z.length)
def invD2 (z : Str) (r : Addr) (H : Hp) (at0 : Nat) (σ : St) (L : Hp) : Prop := ∃ (d : List Fld) (pos n : Nat), stD z r H d pos σ L ∧ at0 ≤ pos ∧ pos ≤ z.length ∧ dw "" 0 d = none ∧ z.length < n + 1 + pos ∧ prF (z.length + 1) z.cps.toList = (prF (n + 1) (z.cps.toList.drop pos)).map (d.map pairL ++ ·)
def muDI (z : Str) (σ : St) : Nat := match σ with
  | [_, _, some (.int e), _, _, _] => (z.length + 2) - e.toNat
  | _ => 0
def invSg (z : Str) (L0 : Hp) (i : Nat) (ys : List V) (σ : St) (L : Hp) : Prop := ∃ v0 : Option V, σ = [v0] ∧ L = L0 ∧ ys.isEmpty = (z.cps.toList.take i).all lower1 ∧ ys.length ≤ i
theorem ok_di {gt : Addr} {dt : FuncData} (F : Fun K "_law_document_in" "_law_document_in" sDoI f fd) (T : Txt mg) (GTi : FnOk P w K mg base CX0 1 gt dt ["_law_line_here", "_law_at"] spTI) (bTi : Binds K dt ["_law_line_here", "_law_at"] []) (kTi : PySem.W.keepIn K (.ref gt) = true) (mTi : mg "_law_text_in" = some (.ref gt)) : FnOk P w K mg base CX0 3 f fd ["_law_line_here"] spDI := by
  refine F.ok scDoI (fun vs H Q E h => ?_) (fun cdv A outer s H vs Q E hr h => ?_)
  · obtain ⟨z, rfl, _⟩ := h
    rfl
  obtain ⟨z, rfl, hz, hA, q, qn⟩ := h
  have hr1 : Room 1 _ := hr.mono (show 1 ≤ 2 by decide)
  have zl : z.cps.toList.length = z.length := slen z
  have zs : z.length ≤ sizeLine := small hz
  refine ⟨_, (pss_cons (ps_if (pt_cmpR op_eq (pv 0) pe_str (nomark _)) (pss_one (ps_ret (pe_lst pa_nil))) pss_nil)
    (pss_cons (ps_set (i := 1) scDoI.nd rfl (Or.inl rfl) (pe_lst pa_nil))
    (pss_cons (ps_set (i := 2) scDoI.nd rfl (Or.inl rfl) pe_int)
    (pss_cons (ps_while PassesOwn.never (PW.pt (pw_or (pt_cmpR (op_eqE K hr1) (pv 1) (pe_lst pa_nil) (nomark _)) (pw_or1 (pt_cmpR op_lt (pv 2) (pe_callB call_len_str rfl T.len PySem.boot_len (pa_cons (pv 0) pa_nil)) (nomark _)))))
      (pss_cons (ps_if (PW.pt (pw_and (pt_cmpR (op_neE K hr1) (pv 1) (pe_lst pa_nil) (nomark _)) (pw_and1 (pt_cmpR op_ne (pe_ix ix_str (pv 0) (pv 2) (fun _ _ => rfl)) pe_str (nomark _))))) (pss_one (ps_ret pe_non)) pss_nil)
    (pss_cons (ps_set (i := 2) scDoI.nd rfl (Or.inl rfl) (pe_op op_add (pv 2) (pe_callTy call_intB rfl T.int (by decide +kernel) (pa_cons (pe_cmpR (op_neE K hr1) (pv 1) (pe_lst pa_nil) (nomark _)) pa_nil))))
    (pss_cons (ps_set (i := 3) scDoI.nd rfl (Or.inl rfl) (bmK K PySem.F.plainAttrs_str PySem.F.slot_str_find PySem.F.type_str_find mt_find3 (pv 0) (pa_cons pe_str (pa_cons (pv 2) pa_nil))))
    (pss_cons (ps_set (i := 4) scDoI.nd rfl (Or.inl rfl) (pe_call GTi hr1 rfl mTi kTi bTi .nil pass0 (pa_cons (pv 0) (pa_cons (pe_op op_add (pv 3) pe_int) pa_nil))))
    (pss_cons (ps_if (PW.pt (pw_or (pt_cmpR op_lt (pv 3) pe_int (nomark _)) (pw_or (pt_cmpR op_isN (pv 4) pe_non (nomark _)) (pw_or1 (pt_not (pt_chain op_le op_le pe_int (pe_op op_sub (pv 3) (pv 2)) pe_int)))))) (pss_one (ps_ret pe_non)) pss_nil)
    (pss_cons (ps_set (i := 5) scDoI.nd rfl (Or.inl rfl) (pe_slice sl_str (pv 0) (po_some (pv 2)) (po_some (pv 3))))
    (pss_cons (ps_if (pt_cmpR (op_neE K hr1) (pe_comp (N := ["_law_sign"]) (pick := [none]) (NX := ["_law_line_here", "_law_found", "_law_at", "_law_end", "_law_text_here", "_law_name"]) (sX := defScope sDoI) (by decide +kernel) rfl rfl rfl (pi_str (pv 5))
        (fun _ _ _ _ => (pg_name (i := 0) (by decide +kernel : (["_law_sign"] : List Str).Nodup) rfl (Or.inl rfl))) (fun _ _ _ _ => (pifs_one (pt_cmpR op_notin_str (pv 0) pe_str rfl))) (fun _ _ _ _ => (pv 0))) (pe_lst pa_nil) (nomark _)) (pss_one (ps_ret pe_non)) pss_nil)
    (pss_cons (ps_if (PW.pt (pw_and (pt_cmpR (op_neE K hr1) (pv 1) (pe_lst pa_nil) (nomark _)) (pw_and1 (pt_cmpR op_le_str (pv 5) (pe_ix (ixT K) (pe_ix (ixL K) (pv 1) (pe_un un_neg pe_int) (fun _ _ => rfl)) pe_int (fun _ _ => rfl)) (nomark _))))) (pss_one (ps_ret pe_non)) pss_nil)
    (pss_cons (ps_expr (bmK K PySem.F.plainAttrs_list PySem.F.slot_list_append PySem.F.type_list_append mt_append (pv 1) (pa_cons (pe_tup (pa_cons (pv 5) (pa_cons (pe_ix (ixT K) (pv 4) pe_int (fun _ _ => rfl)) pa_nil))) pa_nil)))
    (pss_one (ps_set (i := 2) scDoI.nd rfl (Or.inl rfl) (pe_ix (ixT K) (pv 4) pe_int (fun _ _ => rfl))))))))))))))
    (pss_one (ps_ret (pv 1))))))), ?_⟩
  simpa only [and_self]
  refine ite2 (fun c => ?_) fun c => ?_
  · have e : z = "none" := of_decide_eq_true c
    have e2 : z.cps.toList = noneL := by rw [e, cNone]
    exact ⟨by decide, fun p hp => q [] (.inl ⟨e2, rfl⟩) p [] _ (same_new hp _) hp upd_same DeepTs.nil⟩
  have nz : z.cps.toList ≠ noneL := fun e => c (decide_eq_true (sx (by rw [e, cNone])))
  have no : prF (z.length + 1) z.cps.toList = none → ∀ L, Same H L → Q .non L := fun hp L sL => qn (fun d hd => by
    rcases hd with ⟨e, _⟩ | ⟨_, e, _⟩
    · exact nz e
    · rw [zl, hp] at e; cases e) L sL
  refine ⟨by decide, fun r hr0 => ?_⟩
  refine whileW3 (invDI z r H) (invDJ z r H) (muDI z) ⟨[], 0, ⟨[], none, none, none, rfl, same_new hr0 _, upd_same, DeepTs.nil, Nat.le_refl _⟩, Nat.zero_le _, rfl, .inl ⟨rfl, rfl⟩⟩ ?_ ?_
  rotate_left
  · rintro σ L ⟨d, at_, ⟨xs, v3, v4, v5, rfl, sL, hL, hd, hda⟩, hle, hdw, hat⟩ Y hY
    have hxl : xs.length = d.length := by have := hd.length; rwa [List.length_map] at this
    simpa only [and_self]
    refine ⟨by decide, fun p hp => ⟨xs, SqL.of (upd_at hL hp), SqL.of upd_same, ?_⟩⟩
    have s2 := same_new hp (.lst [])
    have st2 : stD z r H d at_ [some (.str z), some (.ref r), some (.int (at_ : Int)), v3, v4, v5] (upd L p (.lst [])) := ⟨xs, v3, v4, v5, rfl, sL.trans s2, s2 _ _ hL, hd.same (hide_mono s2), hda⟩
    refine ite2 (fun c1 => hY _ ⟨d, at_, st2, ⟨hle, hdw, hat⟩, .inl ?_⟩) fun c1 => ⟨zs, ite2 (fun c2 => hY _ ⟨d, at_, st2, ⟨hle, hdw, hat⟩, .inr ?_⟩) fun c2 => ?_⟩
    · cases d with
      | nil => rfl
      | cons x d => cases xs with
        | nil => simp at hxl
        | cons y ys => cases c1
    · have := of_decide_eq_true c2; omega
    · rcases hat with ⟨e, _⟩ | ⟨hne, n, hn, hp2⟩
      · subst e
        cases xs with
        | nil => exact absurd rfl c1
        | cons y ys => simp at hxl
      · have c2' : ¬ (at_ : Int) < (z.length : Int) := fun y => c2 (decide_eq_true y)
        rw [List.drop_eq_nil_of_le (by omega)] at hp2
        exact q d (.inr ⟨nz, by rw [zl]; exact hp2, hdw⟩) r xs _ (sL.trans s2) hr0 (s2 _ _ hL) ((hd.same (hide_same r L)).same s2)
  rintro σ L ⟨d, at_, ⟨xs, v3, v4, v5, rfl, sL, hL, hd, hda⟩, ⟨hle, hdw, hat⟩, hgo⟩
  refine ⟨fun σ' H' => muDI z σ' < muDI z [some (.str z), some (.ref r), some (.int (at_ : Int)), v3, v4, v5] ∧ invDI z r H σ' H', fun _ _ h => h, ?_⟩
  have hxl : xs.length = d.length := by have := hd.length; rwa [List.length_map] at this
  have mu0 : muDI z [some (.str z), some (.ref r), some (.int (at_ : Int)), v3, v4, v5] = z.length + 2 - at_ := by
    show z.length + 2 - ((at_ : Int)).toNat = _
    omega
  rw [mu0]
  refine seq_inv (fun σ' L' => stD z r H d at_ σ' L' ∧ (d = [] ∨ ∃ rr, z.cps.toList.drop at_ = 32 :: rr)) ?_ (fun N hN => ?_)
  rotate_left
  · simpa only [and_self]
    refine ⟨by decide, fun p hp => ⟨xs, SqL.of (upd_at hL hp), SqL.of upd_same, ?_⟩⟩
    have s2 := same_new hp (.lst [])
    have st2 : stD z r H d at_ [some (.str z), some (.ref r), some (.int (at_ : Int)), v3, v4, v5] (upd L p (.lst [])) := ⟨xs, v3, v4, v5, rfl, sL.trans s2, s2 _ _ hL, hd.same (hide_mono s2), hda⟩
    cases d with
    | nil =>
      have : xs = [] := List.length_eq_zero_iff.mp hxl
      subst this
      exact iteF (hN _ _ ⟨st2, .inl rfl⟩)
    | cons x d =>
      have : xs.isEmpty = false := by
        cases xs with
        | nil => simp at hxl
        | cons y ys => rfl
      rw [this]
      refine iteT ⟨zs, ?_⟩
      have hlt : at_ < z.length := hgo.resolve_left (by simp)
      cases hdr : z.cps.toList.drop at_ with
      | nil =>
        have := congrArg List.length hdr
        rw [List.length_drop, zl, List.length_nil] at this
        omega
      | cons c rr =>
        refine ⟨c, atI_nat (drop_at hdr), ?_⟩
        by_cases hc : c = 32
        · subst hc
          rw [decide_eq_true (show (⟨#[32]⟩ : Str) = " " from cBl.symm)]
          exact iteF (hN _ _ ⟨st2, .inr ⟨rr, hdr⟩⟩)
        · rw [decide_eq_false (fun y => hc (by have := congrArg (fun s : Str => s.cps.toList) y; rw [cBl] at this; exact (List.cons.inj this).1) : ¬ (⟨#[c]⟩ : Str) = " ")]
          refine iteT (no ?_ _ (sL.trans s2))
          rcases hat with ⟨e, _⟩ | ⟨_, n, _, hp2⟩
          · cases e
          · rw [hp2, hdr]
            exact if_neg hc
  clear hL hd sL hxl xs mu0 v3 v4 v5
  rintro σ L ⟨⟨xs, v3, v4, v5, rfl, sL, hL, hd, hda2⟩, h32⟩
  have hxl : xs.length = d.length := by have := hd.length; rwa [List.length_map] at this
  refine seq_inv (invD2 z r H at_) ?_ (fun N hN => ?_)
  rotate_left
  · simpa only [and_self]
    refine ⟨by decide, fun p hp => ⟨xs, SqL.of (upd_at hL hp), SqL.of upd_same, hN _ _ ?_⟩⟩
    have s2 := same_new hp (.lst [])
    rcases hat with ⟨e, e0⟩ | ⟨hne, n, hn, hp2⟩
    · subst e e0
      have : xs = [] := List.length_eq_zero_iff.mp hxl
      subst this
      exact ⟨[], 0, z.length, ⟨[], v3, v4, v5, rfl, sL.trans s2, s2 _ _ hL, hd.same (hide_mono s2), Nat.le_refl _⟩, Nat.le_refl _, Nat.zero_le _, rfl, by omega, by rw [List.drop_zero]; cases prF (z.length + 1) z.cps.toList <;> rfl⟩
    · have hlt : at_ < z.length := hgo.resolve_left hne
      obtain ⟨rr, h32⟩ := h32.resolve_left hne
      obtain ⟨n, rfl⟩ : ∃ m, n = m + 1 := ⟨n - 1, by omega⟩
      have : xs.isEmpty = false := by
        cases xs with
        | nil => exact absurd (List.length_eq_zero_iff.mp hxl.symm) hne
        | cons y ys => rfl
      rw [this]
      refine ⟨d, at_ + 1, n, ⟨xs, v3, v4, v5, rfl, sL.trans s2, s2 _ _ hL, hd.same (hide_mono s2), by omega⟩, by omega, by omega, hdw, by omega, ?_⟩
      rw [hp2, h32, drop_one h32]
      exact if_pos rfl
  clear hL hd sL hxl xs v3 v4 v5 hat hgo h32 hdw hda hda2 d
  rintro σ L ⟨d, pos, n, ⟨xs, v3, v4, v5, rfl, sL, hL, hd, hda⟩, hap, hpz, hdw, hn, hp⟩
  have hxl : xs.length = d.length := by have := hd.length; rwa [List.length_map] at this
  refine seq_go ?_
  simp only [tIfS, tAnd, tOr, tNot, tB, tVar, tTest, tOp, tC, tUn, tCB, tCons, tNil, rI0, rI, rU, rNe, rEq, scal, rAppend, tBM, tDrop, tAsg, gName, tRet, tNext, List.set_cons_zero, List.set_cons_succ, List.getElem?_cons_zero, List.getElem?_cons_succ, Option.some.injEq, V.int.injEq, V.bl.injEq, V.ref.injEq, V.str.injEq, exists_eq_left', exists_eq_left, exists_and_left, List.cons.injEq, and_true, true_and, and_assoc, exists_const, L2.start, List.map_cons, List.map_nil, List.length_cons, List.length_nil, List.replicate_succ, List.replicate_zero, List.cons_append, List.nil_append, List.append_nil, Nat.reduceAdd, Nat.reduceSub, tFor_eq, tComp_eq, tWhile_eq, tChain, tAug, ipI, rIxS, rSlS, rLower, rIndex, rPop, rCat, tBM0, gSub, rSetL, tSl, tPart, tNoPart, rSlL, tCall, tLst, tTup, iRng1, iRng2, iRng3, iList, iEnum, gTup, gCons, gNil, rIxL, rIxT, tYes, tAndV, tOrV, tNotV, tIf, tTest, exists_eq', List.ne_cons_self, reduceCtorEq, if_true, if_false, and_false, false_and, rFind3, tyV]
  have hf := find_cq z ":'" (by rw [cCQ]) hpz
  cases hcq : cqF (z.cps.toList.drop pos) with
  | none =>
    have hf : Txt.find3 z ":'" (pos : Int) = -1 := by rw [hf, hcq]
    rw [hf]
    have hno := no (by rw [hp, prF_no hcq]; rfl)
    simpa only [tyV, spTI]
    refine ⟨1, rfl, by omega, hz, fun t rest _ _ p H' s' _ _ => iteT (hno _ (sL.trans s')), fun _ => iteT (hno _ sL)⟩
  | some y =>
    obtain ⟨g, rest⟩ := y
    have hf : Txt.find3 z ":'" (pos : Int) = ((pos + g.length : Nat) : Int) := by rw [hf, hcq]
    rw [hf]
    have e1 := cqF_some hcq
    have e2 := drop_add e1
    have e3 := drop_one (drop_one e2)
    have hlz : pos + g.length + 2 + rest.length = z.length := by
      have := congrArg List.length e1
      rw [List.length_drop, List.length_append, List.length_cons, List.length_cons, zl] at this
      omega
    have n1 : ((pos + g.length : Nat) : Int) + 2 = ((pos + g.length + 2 : Nat) : Int) := by omega
    refine seq_go ?_
    simp only [tIfS, tAnd, tOr, tNot, tB, tVar, tTest, tOp, tC, tUn, tCB, tCons, tNil, rI0, rI, rU, rNe, rEq, scal, rAppend, tBM, tDrop, tAsg, gName, tRet, tNext, List.set_cons_zero, List.set_cons_succ, List.getElem?_cons_zero, List.getElem?_cons_succ, Option.some.injEq, V.int.injEq, V.bl.injEq, V.ref.injEq, V.str.injEq, exists_eq_left', exists_eq_left, exists_and_left, List.cons.injEq, and_true, true_and, and_assoc, exists_const, L2.start, List.map_cons, List.map_nil, List.length_cons, List.length_nil, List.replicate_succ, List.replicate_zero, List.cons_append, List.nil_append, List.append_nil, Nat.reduceAdd, Nat.reduceSub, tFor_eq, tComp_eq, tWhile_eq, tChain, tAug, ipI, rIxS, rSlS, rLower, rIndex, rPop, rCat, tBM0, gSub, rSetL, tSl, tPart, tNoPart, rSlL, tCall, tLst, tTup, iRng1, iRng2, iRng3, iList, iEnum, gTup, gCons, gNil, rIxL, rIxT, tYes, tAndV, tOrV, tNotV, tIf, tTest, exists_eq', List.ne_cons_self, reduceCtorEq, if_true, if_false, and_false, false_and, spTI]
    refine ⟨_, n1, by omega, hz, fun t r2 ht hr2 tp M2 s2 htp hT => ?_, fun ht => ?_⟩
    rotate_left
    · refine seq_go ?_
      simp only [tIfS, tAnd, tOr, tNot, tB, tVar, tTest, tOp, tC, tUn, tCB, tCons, tNil, rI0, rI, rU, rNe, rEq, scal, rAppend, tBM, tDrop, tAsg, gName, tRet, tNext, List.set_cons_zero, List.set_cons_succ, List.getElem?_cons_zero, List.getElem?_cons_succ, Option.some.injEq, V.int.injEq, V.bl.injEq, V.ref.injEq, V.str.injEq, exists_eq_left', exists_eq_left, exists_and_left, List.cons.injEq, and_true, true_and, and_assoc, exists_const, L2.start, List.map_cons, List.map_nil, List.length_cons, List.length_nil, List.replicate_succ, List.replicate_zero, List.cons_append, List.nil_append, List.append_nil, Nat.reduceAdd, Nat.reduceSub, tFor_eq, tComp_eq, tWhile_eq, tChain, tAug, ipI, rIxS, rSlS, rLower, rIndex, rPop, rCat, tBM0, gSub, rSetL, tSl, tPart, tNoPart, rSlL, tCall, tLst, tTup, iRng1, iRng2, iRng3, iList, iEnum, gTup, gCons, gNil, rIxL, rIxT, tYes, tAndV, tOrV, tNotV, tIf, tTest, exists_eq', List.ne_cons_self, reduceCtorEq, if_true, if_false, and_false, false_and]
      rw [decide_eq_false (show ¬ ((pos + g.length : Nat) : Int) < 0 by omega)]
      refine iteF (iteT (no ?_ _ sL))
      rw [hp, prF_no2 hcq (by rw [← e3]; exact ht)]
      rfl
    have ht' : txE rest = some (t, r2) := by rw [← e3]; exact ht
    have sM2 := sL.trans s2
    have hM2 := s2 _ _ hL
    have nrt : r ≠ tp := fun y => by rw [y, htp] at hL; cases hL
    have hd2 := hd.same (hide_mono s2)
    -- the name is wrong
    have bad : badF (lastN "" d) ⟨g.toArray⟩ = true → ∀ M, Same H M → Q .non M := fun hb M sM => qn (fun d2 hd2 => by
      rcases hd2 with ⟨e, _⟩ | ⟨_, e, hw2⟩
      · exact nz e
      · rw [zl, hp] at e
        obtain ⟨ps, hps, ye⟩ := Option.map_eq_some_iff.mp e
        obtain ⟨t', _, _, qs, e5⟩ := prF_first hps hcq
        rw [e5] at ye
        obtain ⟨a1, b1, e6, e7, e8⟩ := List.map_eq_append_iff.mp ye.symm
        have e9 := pair_inj a1 d e7
        cases b1 with
        | nil => cases e8
        | cons x b1 =>
          have e10 : pairL x = (g, t') := (List.cons.inj e8).1
          have e11 : x.1 = ⟨g.toArray⟩ := sx (Prod.mk.inj e10).1
          rw [e6, e9] at hw2
          exact dw_bad hdw (by rw [e11]; exact hb) hw2) M sM
    have gl : (⟨g.toArray⟩ : Str).length = g.length := by rw [← slen]
    refine seq_inv (fun σ' M => σ' = [some (.str z), some (.ref r), some (.int (pos : Int)), some (.int ((pos + g.length : Nat) : Int)), some (.ref tp), v5] ∧ M = M2 ∧ 1 ≤ g.length ∧ g.length ≤ 12) ?_ (fun N hN => ?_)
    rotate_left
    · simpa only [and_self]
      have bad1 : ¬ (1 ≤ g.length ∧ g.length ≤ 12) → Q .non M2 := fun hn1 => bad (by
        unfold badF okNm
        rw [gl, decide_eq_false hn1]
        rfl) _ sM2
      refine ite2 (fun c1 => absurd (of_decide_eq_true c1) (by omega)) fun _ => ite2 (fun c2 => absurd c2 (by simp)) fun _ => ite2 (fun c3 => ite2 (fun c4 => bad1 ?_) fun c4 => hN _ _ ⟨rfl, rfl, ?_⟩) fun c3 => ite2 (fun _ => bad1 ?_) fun y => absurd rfl y
      · have : ¬ ((pos + g.length : Nat) : Int) - (pos : Int) ≤ 12 := by simpa using c4
        omega
      · have c3' := of_decide_eq_true c3
        have : ((pos + g.length : Nat) : Int) - (pos : Int) ≤ 12 := by simpa using c4
        omega
      · have : ¬ (1 : Int) ≤ ((pos + g.length : Nat) : Int) - (pos : Int) := fun y => c3 (decide_eq_true y)
        omega
    rintro σ M ⟨rfl, rfl, g1, g2⟩
    have hcut : (⟨(cutL z.cps.toList (some (pos : Int)) (some ((pos + g.length : Nat) : Int))).toArray⟩ : Str) = ⟨g.toArray⟩ := by
      rw [cutL_nat _ (by omega), show pos + g.length - pos = g.length by omega, e1, List.take_left]
    refine seq_go ?_
    simp only [tIfS, tAnd, tOr, tNot, tB, tVar, tTest, tOp, tC, tUn, tCB, tCons, tNil, rI0, rI, rU, rNe, rEq, scal, rAppend, tBM, tDrop, tAsg, gName, tRet, tNext, List.set_cons_zero, List.set_cons_succ, List.getElem?_cons_zero, List.getElem?_cons_succ, Option.some.injEq, V.int.injEq, V.bl.injEq, V.ref.injEq, V.str.injEq, exists_eq_left', exists_eq_left, exists_and_left, List.cons.injEq, and_true, true_and, and_assoc, exists_const, L2.start, List.map_cons, List.map_nil, List.length_cons, List.length_nil, List.replicate_succ, List.replicate_zero, List.cons_append, List.nil_append, List.append_nil, Nat.reduceAdd, Nat.reduceSub, tFor_eq, tComp_eq, tWhile_eq, tChain, tAug, ipI, rIxS, rSlS, rLower, rIndex, rPop, rCat, tBM0, gSub, rSetL, tSl, tPart, tNoPart, rSlL, tCall, tLst, tTup, iRng1, iRng2, iRng3, iList, iEnum, gTup, gCons, gNil, rIxL, rIxT, tYes, tAndV, tOrV, tNotV, tIf, tTest, exists_eq', List.ne_cons_self, reduceCtorEq, if_true, if_false, and_false, false_and]
    rw [hcut]
    refine ⟨zs, ?_⟩
    refine seq_inv (fun σ' M' => σ' = [some (.str z), some (.ref r), some (.int (pos : Int)), some (.int ((pos + g.length : Nat) : Int)), some (.ref tp), some (.str ⟨g.toArray⟩)] ∧ Same M M' ∧ g.all lower1 = true) ?_ (fun N hN => ?_)
    rotate_left
    · simpa only [iStr]
      refine compW_str (invSg ⟨g.toArray⟩ M) ⟨_, rfl, rfl, rfl, Nat.le_refl _⟩ ?_ ?_ ?_
      · rintro j ys σ M hj ⟨u0, rfl, rfl, e1, e2⟩
        exact small (by omega)
      · rintro j c ys σ M hc ⟨u0, rfl, rfl, e1, e2⟩
        simpa only [and_self]
        rw [show (!!(Builtin.Str.occurrences (Str.ofString "abcdefghijklmnopqrstuvwxyz") ⟨#[c]⟩ 0 (Str.ofString "abcdefghijklmnopqrstuvwxyz").length 1).isEmpty) = !lower1 c by rw [← az_in, ← StrLaws.found_one]]
        have et : ((⟨g.toArray⟩ : Str).cps.toList.take (j + 1)).all lower1 = (((⟨g.toArray⟩ : Str).cps.toList.take j).all lower1 && lower1 c) := by
          rw [List.take_add_one, hc, List.all_append]
          show (_ && (lower1 c && true)) = _
          rw [Bool.and_true]
        cases hc1 : lower1 c with
        | true =>
          rw [if_neg (by decide)]
          exact ⟨_, rfl, rfl, by rw [et, hc1, Bool.and_true]; exact e1, by omega⟩
        | false =>
          rw [if_pos (by decide)]
          exact ⟨_, rfl, rfl, by rw [et, hc1, Bool.and_false]; simp, by rw [List.length_append, List.length_singleton]; omega⟩
      · rintro ys σ M' ⟨u0, rfl, rfl, e5, e6⟩ p hp
        rw [← slen, List.take_length] at e5
        refine ⟨by decide, fun p2 hp2 => ⟨p, rfl, ys, SqL.of (upd_at upd_same hp2), SqL.of upd_same, ?_⟩⟩
        have s4 : Same M' (upd (upd M' p (.lst ys)) p2 (.lst [])) := (same_new hp _).trans (same_new hp2 _)
        rw [e5]
        refine ite2 (fun c5 => bad ?_ _ (sM2.trans s4)) fun c5 => hN _ _ ⟨rfl, s4, by simpa using c5⟩
        unfold badF okNm
        rw [show (⟨g.toArray⟩ : Str).cps.toList.all lower1 = false by simpa using c5, Bool.and_false]
        rfl
    rintro σ M3 ⟨rfl, s3, gA⟩
    have okg : okNm ⟨g.toArray⟩ = true := by
      unfold okNm
      rw [gl, decide_eq_true ⟨g1, g2⟩]
      simpa using gA
    have sM3 := sM2.trans s3
    have hM3 := s3 _ _ hM2
    have hd3 := hd2.same (hide_mono s3)
    refine seq_inv (fun σ' M' => σ' = [some (.str z), some (.ref r), some (.int (pos : Int)), some (.int ((pos + g.length : Nat) : Int)), some (.ref tp), some (.str ⟨g.toArray⟩)] ∧ Same M3 M' ∧ badF (lastN "" d) ⟨g.toArray⟩ = false) ?_ (fun N hN => ?_)
    rotate_left
    · simpa only [and_self]
      refine ⟨by decide, fun p hp => ⟨xs, SqL.of (upd_at hM3 hp), SqL.of upd_same, ?_⟩⟩
      have s4 := same_new hp (.lst [])
      cases d with
      | nil =>
        have : xs = [] := List.length_eq_zero_iff.mp hxl
        subst this
        refine iteF (hN _ _ ⟨rfl, s4, ?_⟩)
        unfold badF
        rw [okg]
        have : (("" : Str).cps.toList < (⟨g.toArray⟩ : Str).cps.toList) := by
          show ([] : List Nat) < g
          cases g with
          | nil => simp at g1
          | cons u v => exact List.nil_lt_cons _ _
        rw [show lastN "" [] = "" from rfl, decide_eq_true this]
        rfl
      | cons x d =>
        have : xs.isEmpty = false := by
          cases xs with
          | nil => simp at hxl
          | cons y ys => rfl
        rw [this]
        obtain ⟨a, x2, ha1, ha2⟩ := getl hd3 (by simp)
        refine iteT ⟨xs, SqL.of (s4 _ _ hM3), _, ha1, a, rfl, _, SqT.of (s4 _ _ (hide_same r M3 _ _ ha2)), _, atI_nat (j := 0) rfl, _, rfl, ite2 (fun c5 => bad ?_ _ (sM3.trans s4)) fun c5 => hN _ _ ⟨rfl, s4, ?_⟩⟩
        · unfold badF
          rw [c5, Bool.or_true]
        · unfold badF
          rw [okg]
          simpa using c5
    rintro σ M4 ⟨rfl, s4, hgood⟩
    have sM4 := sM3.trans s4
    have hM4 := s4 _ _ hM3
    have hd4 := hd3.same (hide_mono s4)
    have hT4 := s4 _ _ (s3 _ _ hT)
    obtain ⟨e4, _⟩ := txE_some ht'
    have hl2 : pos + g.length + 2 + (dblL t).length + 1 + r2.length = z.length := by
      have := congrArg List.length e4
      rw [List.length_append, List.length_cons] at this
      omega
    have e7 : z.cps.toList.drop (z.length - r2.length) = r2 := by
      have e5 : z.cps.toList.drop (pos + g.length + 2) = dblL t ++ 39 :: r2 := by rw [← e4]; exact e3
      have := drop_one (drop_add e5)
      rw [show z.length - r2.length = pos + g.length + 2 + (dblL t).length + 1 by omega]
      exact this
    simpa only [tyV]
    refine ⟨.inl ⟨_, SqL.of hM4⟩, _, SqT.of hT4, _, atI_nat (j := 0) rfl, by decide, fun p hp4 => ?_⟩
    have npr : p ≠ r := fun y => by rw [← y, hp4] at hM4; cases hM4
    refine ⟨xs, upd_at hM4 hp4, by rw [sizeLine_eq]; omega, _, SqT.of (by rw [upd_ne (Ne.symm nrt)]; exact upd_at hT4 hp4), _, atI_nat (j := 1) rfl, ?_, ?_⟩
    · show z.length + 2 - (((z.length - r2.length : Nat)) : Int).toNat < _
      omega
    have hpl : (d ++ [((⟨g.toArray⟩ : Str), (⟨t.toArray⟩ : Str))]).map pairL = d.map pairL ++ [(g, t)] := by
      rw [List.map_append]
      simp [pairL]
    refine ⟨d ++ [(⟨g.toArray⟩, ⟨t.toArray⟩)], z.length - r2.length, ⟨xs ++ [.ref p], _, _, _, rfl, (sM4.trans (same_new hp4 _)).newer hr0 _, upd_same, ?_, ?_⟩, by omega, dw_snoc hdw hgood, .inr ⟨by simp, n, by omega, ?_⟩⟩
    · rw [hide_upd, List.map_append]
      refine DeepTs.app (hd4.same (hide_mono (same_new hp4 _))) ?_
      show DeepTs _ [dvF _] [.ref p]
      refine DeepTs.one ?_
      unfold dvF
      rw [DeepT]
      exact ⟨p, _, rfl, by rw [hide_ne npr]; exact upd_same, strs_deeps [⟨g.toArray⟩, ⟨t.toArray⟩]⟩
    · rw [List.length_append, List.length_singleton]; omega
    · rw [hp, e7]
      cases r2 with
      | nil => rw [prF_end hcq ht', hpl]; rfl
      | cons c r3 =>
        rw [prF_go hcq ht', hpl]
        show Option.map _ _ = if c = 32 then _ else _
        by_cases hc : c = 32
        · rw [if_pos hc, if_pos hc, Option.map_map]
          congr 1
          funext y
          simp
        · rw [if_neg hc, if_neg hc]
          rfl
end
def spEI : Sp := fun vs H Q _ => ∃ z : Str, vs = [.str z] ∧ z.length ≤ 1000 ∧ Asc z ∧ (∀ (nm : Str) (as : List KU.Arg), rdD z.cps.toList nm as → ∀ (p : Addr) (xs : List V) (H' : Hp), Same H H' → H p = none → H' p = some (.tup xs) → DeepTs H' (dvD nm as) xs → Q (.ref p) H') ∧ ((∀ nm as, ¬ rdD z.cps.toList nm as) → ∀ H', Same H H' → Q .non H')
theorem in_strs {z : Str} {zs : List Str} : inV (.str z) (zs.map V.str) = true ↔ z ∈ zs := by
  induction zs with
  | nil => simp [inV]
  | cons y ys ih =>
    unfold inV at ih ⊢
    rw [List.map_cons, List.any_cons, Bool.or_eq_true, ih, List.mem_cons]
    constructor
    · rintro (h | h)
      · exact .inl (eq_of_beq (show (y == z) = true from h)).symm
      · exact .inr h
    · rintro (h | h)
      · exact .inl (by rw [h]; exact beq_self_eq_true y)
      · exact .inr h
theorem tab_nil : ∀ e ∈ tab, e.2 = [] ↔ e.1 ∈ (["stamp", "seal", "thin"] : List Str) := by decide +kernel
theorem rd_one {l : List Nat} {nm : Str} {as : List KU.Arg} (h : 32 ∉ l) (r : rdD l nm as) : nm.cps.toList = l ∧ (nm, []) ∈ tab := by
  obtain ⟨ks, ps, h1, h2, h3⟩ := r
  rw [splitF_free 32 l _ h] at h2
  obtain ⟨e1, e2⟩ := List.cons.inj h2
  subst e2
  have := (rdAs_len h3).1
  have : ks = [] := List.length_eq_zero_iff.mp (by simpa using this.symm)
  subst this
  exact ⟨e1.symm, h1⟩
theorem rd_more {p r : List Nat} {nm : Str} {as : List KU.Arg} (h : 32 ∉ p) : rdD (p ++ 32 :: r) nm as ↔ nm.cps.toList = p ∧ ∃ k ks, (nm, k :: ks) ∈ tab ∧ rdAs (k :: ks) (splitF 32 ks.length r) as := by
  constructor
  · rintro ⟨ks, ps, h1, h2, h3⟩
    cases ks with
    | nil =>
      rw [List.length_nil, splitF_zero] at h2
      have := (tab_args h1).2.1
      rw [← (List.cons.inj h2).1] at this
      exact absurd (List.mem_append_right p List.mem_cons_self) this
    | cons k ks =>
      rw [List.length_cons, splitF_first 32 p r _ h (by omega), Nat.add_sub_cancel] at h2
      obtain ⟨e1, e2⟩ := List.cons.inj h2
      subst e2
      exact ⟨e1.symm, k, ks, h1, h3⟩
  · rintro ⟨e, k, ks, h1, h3⟩
    refine ⟨k :: ks, _, h1, ?_, h3⟩
    rw [List.length_cons, splitF_first 32 p r _ h (by omega), Nat.add_sub_cancel, e]
theorem rd_name {p r : List Nat} {nm : Str} {k : Str} {ks : List Str} (h : 32 ∉ p) (e : nm.cps.toList = p) (ht : (nm, k :: ks) ∈ tab) (nm' : Str) (as : List KU.Arg) : rdD (p ++ 32 :: r) nm' as ↔ nm' = nm ∧ rdAs (k :: ks) (splitF 32 ks.length r) as := by
  rw [rd_more h]
  constructor
  · rintro ⟨e1, k', ks', h1, h2⟩
    have e2 : nm' = nm := sx (e1.trans e.symm)
    subst e2
    have := tab_fun ht h1
    cases this
    exact ⟨rfl, h2⟩
  · rintro ⟨rfl, h2⟩
    exact ⟨e, k, ks, ht, h2⟩
theorem blank_or (l : List Nat) : 32 ∉ l ∨ ∃ p r, l = p ++ 32 :: r ∧ 32 ∉ p := by
  by_cases h : 32 ∈ l
  · obtain ⟨p, r, e, hp⟩ := List.append_of_mem h |>.elim fun p ⟨r, e⟩ => (⟨p, r, e⟩ : ∃ p r, l = p ++ 32 :: r) |> fun _ => List.eq_append_cons_of_mem h
    exact .inr ⟨p, r, e, hp⟩
  · exact .inl h
def argV (k : Str) (l : List Nat) (L : Hp) (v : V) : Prop := (flatV v = true ∨ ∃ a ys, v = .ref a ∧ L a = some (.lst ys)) ∧ ((v ≠ .non ∧ ∃ a, rdA k l a ∧ DeepT L (dvA a) v) ∨ (v = .non ∧ ∀ a, ¬ rdA k l a))
theorem argV.same {k : Str} {l : List Nat} {L L' : Hp} {v : V} (s : Same L L') (h : argV k l L v) : argV k l L' v :=
  ⟨h.1.imp id fun ⟨a, ys, e, g⟩ => ⟨a, ys, e, s _ _ g⟩, h.2.imp (fun ⟨n, a, r, g⟩ => ⟨n, a, r, DeepT.same s _ _ g⟩) id⟩
theorem not_nf : ¬ ("number" : Str) = "fields" := by decide +kernel
theorem arg_num {l : List Nat} {L : Hp} {n : Int} (n0 : 0 ≤ n) (n1 : n < 10 ^ 60) (h : l = digs n) : argV "number" l L (.int n) := ⟨.inl rfl, .inl ⟨(fun y => by cases y), .num n, ⟨rfl, n0, n1, h⟩, deep_num n⟩⟩
theorem arg_nonum {l : List Nat} {L : Hp} (h : numB l = false) : argV "number" l L .non := ⟨.inl rfl, .inr ⟨rfl, fun a ha => by
  cases a with
  | num n =>
    obtain ⟨_, n0, n1, e⟩ := ha
    rw [e, numB_digs n0 n1] at h
    cases h
  | doc d => exact not_nf ha.1⟩⟩
theorem arg_doc {l : List Nat} {L : Hp} {p : Addr} {d : List Fld} {xs : List V} (h : rdF l d) (hp : L p = some (.lst xs)) (hx : DeepTs L (d.map dvF) xs) : argV "fields" l L (.ref p) := ⟨.inr ⟨p, xs, rfl, hp⟩, .inl ⟨(fun y => by cases y), .doc d, ⟨rfl, h⟩, deep_doc hp hx⟩⟩
theorem arg_nodoc {l : List Nat} {L : Hp} (h : ∀ d, ¬ rdF l d) : argV "fields" l L .non := ⟨.inl rfl, .inr ⟨rfl, fun a ha => by
  cases a with
  | num n => exact not_nf ha.1.symm
  | doc d => exact h d ha.2⟩⟩
def allV (l : List Nat) (L : Hp) (xs : List V) : Prop := (∀ v ∈ xs, flatV v = true ∨ ∃ a ys, v = .ref a ∧ L a = some (.lst ys)) ∧ (((xs.any fun v => decide (v = .non)) = false ∧ ∃ nm as, rdD l nm as ∧ DeepTs L (dvD nm as) xs) ∨ ((xs.any fun v => decide (v = .non)) = true ∧ ∀ nm as, ¬ rdD l nm as))
theorem all_one {l p : List Nat} {L : Hp} {nm k : Str} {v : V} (h : ∀ nm' as, rdD l nm' as ↔ nm' = nm ∧ rdAs [k] [p] as) (hv : argV k p L v) : allV l L [.str nm, v] := by
  refine ⟨fun x hx => ?_, ?_⟩
  · rcases List.mem_cons.mp hx with e | hx
    · rw [e]; exact .inl rfl
    · rw [List.mem_singleton.mp hx]; exact hv.1
  rcases hv.2 with ⟨n, a, ra, da⟩ | ⟨e, no⟩
  · refine .inl ⟨?_, nm, [a], (h _ _).mpr ⟨rfl, ra, trivial⟩, dcons (deep_str nm) (DeepTs.one da)⟩
    simp [n]
  · refine .inr ⟨by simp [e], fun nm' as r => ?_⟩
    obtain ⟨_, r⟩ := (h _ _).mp r
    cases as with
    | nil => exact r
    | cons a as => exact no a r.1
theorem all_two {l p p2 : List Nat} {L : Hp} {nm k k2 : Str} {v v2 : V} (h : ∀ nm' as, rdD l nm' as ↔ nm' = nm ∧ rdAs [k, k2] [p, p2] as) (hv : argV k p L v) (hv2 : argV k2 p2 L v2) : allV l L [.str nm, v, v2] := by
  refine ⟨fun x hx => ?_, ?_⟩
  · rcases List.mem_cons.mp hx with e | hx
    · rw [e]; exact .inl rfl
    · rcases List.mem_cons.mp hx with e | hx
      · rw [e]; exact hv.1
      · rw [List.mem_singleton.mp hx]; exact hv2.1
  have no1 : (∀ a, ¬ rdA k p a) → ∀ nm' as, ¬ rdD l nm' as := fun no nm' as r => by
    obtain ⟨_, r⟩ := (h _ _).mp r
    cases as with
    | nil => exact r
    | cons a as => exact no a r.1
  have no2 : (∀ a, ¬ rdA k2 p2 a) → ∀ nm' as, ¬ rdD l nm' as := fun no nm' as r => by
    obtain ⟨_, r⟩ := (h _ _).mp r
    cases as with
    | nil => exact r
    | cons a as =>
      cases as with
      | nil => exact r.2
      | cons b as => exact no b r.2.1
  rcases hv.2 with ⟨n, a, ra, da⟩ | ⟨e, no⟩
  · rcases hv2.2 with ⟨n2, b, rb, db⟩ | ⟨e, no⟩
    · refine .inl ⟨?_, nm, [a, b], (h _ _).mpr ⟨rfl, ra, rb, trivial⟩, dcons (deep_str nm) (dcons da (DeepTs.one db))⟩
      simp [n, n2]
    · exact .inr ⟨by simp [e], no2 no⟩
  · exact .inr ⟨by simp [e], no1 no⟩
theorem blank_fig {l : List Nat} {n : Int} (h0 : 0 ≤ n) (h : l = digs n) : 32 ∉ l := fun y => by
  rw [h] at y
  have := digs_fig h0 32 y
  omega
theorem no_num {l : List Nat} (h : 32 ∈ l) (a : KU.Arg) : ¬ rdA "number" l a := fun r => by
  cases a with
  | num n => exact blank_fig r.2.1 r.2.2.2 h
  | doc d => exact not_nf r.1
theorem shape {l : List Nat} {n : Nat} (hn : l.length < n) : (32 ∉ l ∧ splitF 32 n l = [l]) ∨ ∃ p r, l = p ++ 32 :: r ∧ 32 ∉ p ∧ splitF 32 n l = p :: splitF 32 (n - 1) r ∧ r.length < n - 1 := by
  rcases blank_or l with h | ⟨p, r, e, hp⟩
  · exact .inl ⟨h, splitF_free 32 l n h⟩
  · refine .inr ⟨p, r, e, hp, by rw [e]; exact splitF_first 32 p r n hp (by omega), ?_⟩
    have := congrArg List.length e
    simp at this
    omega
theorem c_put : ("put" : Str).cps.toList = [112, 117, 116] := by decide +kernel
theorem c_change : ("change" : Str).cps.toList.length = 6 := by decide +kernel
theorem rdF_nil (d : List Fld) : ¬ rdF [] d := fun h => by
  rcases h with ⟨e, _⟩ | ⟨_, e, _⟩
  · cases e
  · cases e
theorem m_put {l : List Nat} {ps : List (List Nat)} (h : splitF 32 (l.length + 1) l = ("put" : Str).cps.toList :: ps) (nm : Str) (as : List KU.Arg) : rdD l nm as ↔ nm = "put" ∧ rdAs ["fields"] [l.drop 4] as := by
  rcases shape (Nat.lt_succ_self l.length) with ⟨h1, h2⟩ | ⟨p, r, e, h1, h2, _⟩
  · rw [Nat.succ_eq_add_one, h] at h2
    have e1 : l = [112, 117, 116] := by rw [← c_put]; exact ((List.cons.inj h2).1).symm
    constructor
    · intro r
      obtain ⟨e2, e3⟩ := rd_one h1 r
      have e4 : nm = "put" := sx (by rw [e2, e1, c_put])
      subst e4
      exact absurd e3 (by decide +kernel)
    · rintro ⟨_, r⟩
      rw [e1] at r
      cases as with
      | nil => exact r.elim
      | cons a as =>
        have r1 : rdA "fields" [] a := r.1
        cases a with
        | num n => exact absurd r1.1 (by decide +kernel)
        | doc d => exact absurd r1.2 (rdF_nil d)
  · rw [Nat.succ_eq_add_one, h] at h2
    have e1 := (List.cons.inj h2).1
    have := rd_name (r := r) h1 e1 (show (("put" : Str), ("fields" : Str) :: []) ∈ tab by decide +kernel) nm as
    rw [List.length_nil, splitF_zero] at this
    rw [e, this, show List.drop 4 (p ++ 32 :: r) = r from ?_]
    rw [← e1, c_put]
    rfl
theorem m_more {l p0 : List Nat} {ps : List (List Nat)} (h : splitF 32 (l.length + 1) l = p0 :: ps) (hp : ps ≠ []) : ∃ r, l = p0 ++ 32 :: r ∧ 32 ∉ p0 ∧ ps = splitF 32 l.length r ∧ r.length < l.length := by
  rcases shape (Nat.lt_succ_self l.length) with ⟨h1, h2⟩ | ⟨p, r, e, h1, h2, h3⟩
  · rw [Nat.succ_eq_add_one, h] at h2
    exact absurd (List.cons.inj h2).2 hp
  · rw [Nat.succ_eq_add_one, h] at h2
    obtain ⟨e1, e2⟩ := List.cons.inj h2
    subst e1
    exact ⟨r, e, h1, e2, h3⟩
theorem m_change {l y1 : List Nat} {ps : List (List Nat)} (h : splitF 32 (l.length + 1) l = ("change" : Str).cps.toList :: y1 :: ps) (hp : ps ≠ []) (nm : Str) (as : List KU.Arg) : rdD l nm as ↔ nm = "change" ∧ rdAs ["number", "fields"] [y1, l.drop (y1.length + 8)] as := by
  obtain ⟨r, e, h1, e2, h3⟩ := m_more h (by simp)
  rcases shape h3 with ⟨h4, h5⟩ | ⟨p1, r2, e3, h4, h5, _⟩
  · rw [h5] at e2
    exact absurd (List.cons.inj e2).2 hp
  · rw [h5] at e2
    have e4 := (List.cons.inj e2).1
    subst e4
    have := rd_name (r := r) h1 rfl (show (("change" : Str), ("number" : Str) :: [("fields" : Str)]) ∈ tab by decide +kernel) nm as
    rw [show [("fields" : Str)].length = 1 from rfl, e3, splitF_first 32 y1 r2 1 h4 (by omega), Nat.sub_self, splitF_zero, ← e3] at this
    rw [e, this, show List.drop (y1.length + 8) (("change" : Str).cps.toList ++ 32 :: r) = r2 from ?_]
    have : ("change" : Str).cps.toList ++ 32 :: r = (("change" : Str).cps.toList ++ 32 :: (y1 ++ [32])) ++ r2 := by rw [e3]; simp
    rw [this]
    apply List.drop_left'
    rw [List.length_append, c_change, List.length_cons, List.length_append, List.length_singleton]
    omega
theorem m_pour {l y1 y2 : List Nat} (h : splitF 32 (l.length + 1) l = [("pour" : Str).cps.toList, y1, y2]) (nm : Str) (as : List KU.Arg) : rdD l nm as ↔ nm = "pour" ∧ rdAs ["number", "number"] [y1, y2] as := by
  obtain ⟨r, e, h1, e2, h3⟩ := m_more h (by simp)
  rcases shape h3 with ⟨h4, h5⟩ | ⟨p1, r2, e3, h4, h5, h6⟩
  · rw [h5] at e2
    cases (List.cons.inj e2).2
  · rw [h5] at e2
    obtain ⟨e4, e5⟩ := List.cons.inj e2
    subst e4
    have e6 : r2 = y2 := by
      rcases shape h6 with ⟨_, h7⟩ | ⟨p2, r3, _, _, h7, _⟩
      · rw [h7] at e5
        exact ((List.cons.inj e5).1).symm
      · rw [h7] at e5
        obtain ⟨a, b, hab⟩ := splitF_cons 32 r3 (l.length - 1 - 1)
        rw [hab] at e5
        cases (List.cons.inj e5).2
    subst e6
    have := rd_name (r := r) h1 rfl (show (("pour" : Str), ("number" : Str) :: [("number" : Str)]) ∈ tab by decide +kernel) nm as
    rw [show [("number" : Str)].length = 1 from rfl, e3, splitF_first 32 y1 r2 1 h4 (by omega), Nat.sub_self, splitF_zero, ← e3] at this
    rw [e, this]
theorem m_take {l y1 : List Nat} {p0 : Str} (ht : (p0, [("number" : Str)]) ∈ tab) (h : splitF 32 (l.length + 1) l = [p0.cps.toList, y1]) (nm : Str) (as : List KU.Arg) : rdD l nm as ↔ nm = p0 ∧ rdAs ["number"] [y1] as := by
  obtain ⟨r, e, h1, e2, h3⟩ := m_more h (by simp)
  have e6 : r = y1 := by
    rcases shape h3 with ⟨_, h7⟩ | ⟨p2, r3, _, _, h7, _⟩
    · rw [h7] at e2
      exact ((List.cons.inj e2).1).symm
    · rw [h7] at e2
      obtain ⟨a, b, hab⟩ := splitF_cons 32 r3 (l.length - 1)
      rw [hab] at e2
      cases (List.cons.inj e2).2
  subst e6
  have := rd_name (r := r) h1 rfl ht nm as
  rw [List.length_nil, splitF_zero] at this
  rw [e, this]
theorem tab_more : ∀ e ∈ tab, e.2 ≠ [] → e = (("put" : Str), [("fields" : Str)]) ∨ e = (("change" : Str), [("number" : Str), ("fields" : Str)]) ∨ e = (("pour" : Str), [("number" : Str), ("number" : Str)]) ∨ (e.1 ∈ (["take", "drop", "pack"] : List Str) ∧ e.2 = [("number" : Str)]) := by decide +kernel
theorem m_no {l : List Nat} {p0 : Str} {ps : List (List Nat)} (h : splitF 32 (l.length + 1) l = p0.cps.toList :: ps) (hn : ∀ z : Str, z.cps.toList = l → z ∉ (["stamp", "seal", "thin"] : List Str)) (h1 : p0 ≠ "put") (h2 : p0 = "change" → ¬ 2 ≤ ps.length) (h3 : p0 = "pour" → ps.length ≠ 2) (h4 : p0 ∈ (["take", "drop", "pack"] : List Str) → ps.length ≠ 1) (nm : Str) (as : List KU.Arg) : ¬ rdD l nm as := fun rd => by
  rcases blank_or l with hb | hb
  · obtain ⟨e1, e2⟩ := rd_one hb rd
    exact hn nm e1 ((tab_nil _ e2).mp rfl)
  have hps : ps ≠ [] := fun e => by
    rcases shape (Nat.lt_succ_self l.length) with ⟨h5, _⟩ | ⟨p, r, _, _, h6, _⟩
    · obtain ⟨p, r, e3, _⟩ := hb
      exact h5 (by rw [e3]; exact List.mem_append_right _ List.mem_cons_self)
    · rw [Nat.succ_eq_add_one, h, e] at h6
      obtain ⟨a, b, hab⟩ := splitF_cons 32 r (l.length + 1 - 1)
      rw [hab] at h6
      cases (List.cons.inj h6).2
  obtain ⟨r, e, h5, e2, h6⟩ := m_more h hps
  rw [e] at rd
  obtain ⟨e3, k, ks, ht, ra⟩ := (rd_more h5).mp rd
  have e4 : nm = p0 := sx e3
  subst e4
  rcases tab_more _ ht (by simp) with e5 | e5 | e5 | ⟨e5, e6⟩
  · exact h1 (Prod.mk.inj e5).1
  · obtain ⟨e7, e8⟩ := Prod.mk.inj e5
    cases e8
    have hl := (rdAs_len ra).1
    refine h2 e7 ?_
    rcases shape h6 with ⟨h7, _⟩ | ⟨p1, r2, _, _, h8, _⟩
    · rw [splitF_free 32 r _ h7] at hl
      cases hl
    · obtain ⟨a, b, hab⟩ := splitF_cons 32 r2 (l.length - 1)
      rw [e2, h8, hab]
      simp
  · obtain ⟨e7, e8⟩ := Prod.mk.inj e5
    cases e8
    have hl := (rdAs_len ra).1
    refine h3 e7 ?_
    rcases shape h6 with ⟨h7, _⟩ | ⟨p1, r2, e9, h9, h8, h10⟩
    · rw [splitF_free 32 r _ h7] at hl
      cases hl
    · rw [show [("number" : Str)].length = 1 from rfl, e9, splitF_first 32 p1 r2 1 h9 (by omega), Nat.sub_self, splitF_zero] at ra
      have hb2 : 32 ∉ r2 := fun y => by
        cases as with
        | nil => exact ra
        | cons a as =>
          cases as with
          | nil => exact ra.2
          | cons b as => exact no_num y b ra.2.1
      rw [e2, h8, splitF_free 32 r2 _ hb2]
      rfl
  · have e8 : ks = [] ∧ k = "number" := ⟨(List.cons.inj e6).2, (List.cons.inj e6).1⟩
    obtain ⟨rfl, rfl⟩ := e8
    rw [List.length_nil, splitF_zero] at ra
    have hb2 : 32 ∉ r := fun y => by
      cases as with
      | nil => exact ra
      | cons a as => exact no_num y a ra.1
    refine h4 e5 ?_
    rw [e2, splitF_free 32 r _ hb2]
    rfl
theorem allV.same {l : List Nat} {L L' : Hp} {xs : List V} (s : Same L L') (h : allV l L xs) : allV l L' xs :=
  ⟨fun v hv => (h.1 v hv).imp id fun ⟨a, ys, e, g⟩ => ⟨a, ys, e, s _ _ g⟩, h.2.imp (fun ⟨n, nm, as, r, g⟩ => ⟨n, nm, as, r, g.same s⟩) id⟩
theorem cutL_dr (l : List Nat) (i : Nat) : cutL l (some (i : Int)) none = l.drop i := by
  unfold cutL HT.sIx
  simp
  rw [if_neg (by omega)]
  by_cases h : i ≤ l.length
  · rw [Nat.min_eq_left h, List.take_of_length_le (by rw [List.length_drop]; exact Nat.le_refl _)]
  · rw [Nat.min_eq_right (by omega), Nat.sub_self, List.take_zero, List.drop_eq_nil_of_le (by omega)]
theorem ifS_inv {c : TT} {a b : TS} {D : Ends} {σ : St} {H : Hp} (R : Hp → Prop) (hb : ∀ H1, R H1 → b D σ H1) (ht : ∀ Y : Hp → Prop, (∀ H1, R H1 → Y H1) → c σ H fun t H1 => if t = true then a D σ H1 else Y H1) : tIfS c a b D σ H := ht _ hb
section
variable {P : Program} {w : World} {K : PySem.W.Frag} {mg : Str → Option Value} {base : Heap} {f : Addr} {fd : FuncData}
theorem scDeI : FnScope ["_law_line_here", "_law_parts", "_law_found"] ["_law_line_here"] (defScope sDeI) := ⟨rfl, rfl, rfl, by decide +kernel, rfl, by decide +kernel, by decide +kernel⟩
theorem ok_ei {gd gn : Addr} {dd dn : FuncData} (F : Fun K "_law_deed_in" "_law_deed_in" sDeI f fd) (T : Txt mg) (GDi : FnOk P w K mg base CX0 3 gd dd ["_law_line_here"] spDI) (bDi : Binds K dd ["_law_line_here"] []) (kDi : PySem.W.keepIn K (.ref gd) = true) (mDi : mg "_law_document_in" = some (.ref gd))
    (GNi : FnOk P w K mg base CX0 1 gn dn ["_law_text_here"] spNI) (bNi : Binds K dn ["_law_text_here"] []) (kNi : PySem.W.keepIn K (.ref gn) = true) (mNi : mg "_law_number_in" = some (.ref gn)) : FnOk P w K mg base CX0 4 f fd ["_law_line_here"] spEI := by
  refine F.ok scDeI (fun vs H Q E h => ?_) (fun cdv A outer s H vs Q E hr h => ?_)
  · obtain ⟨z, rfl, _⟩ := h
    rfl
  obtain ⟨z, rfl, hz, hA, q, qn⟩ := h
  have hr1 : Room 1 _ := hr.mono (show 1 ≤ 3 by decide)
  have zl : z.cps.toList.length = z.length := slen z
  have zs : z.length ≤ sizeLine := small hz
  have zm : z.length ≤ 1000000 := by omega
  refine ⟨_, (@pss_cons _ _ _ _ _ (@ps_if _ _ _ _ _ _ _ _ (@pt_cmpR _ _ _ _ _ _ _ _ (inK K) (pv 0) (@pe_lst _ _ _ _ (pa_cons pe_str (pa_cons pe_str (pa_cons pe_str pa_nil)))) rfl) (@pss_one _ _ _ (@ps_ret _ _ _ _ (@pe_tup _ _ _ _ _ (pa_cons (pv 0) pa_nil)))) pss_nil)
    (@pss_cons _ _ _ _ _ (ps_set (i := 1) scDeI.nd rfl (Or.inl rfl) (bmK K PySem.F.plainAttrs_str PySem.F.slot_str_split PySem.F.type_str_split mt_split1 (pv 0) (pa_cons pe_str pa_nil)))
    (@pss_cons _ _ _ _ _ (@ps_if _ _ _ _ _ _ _ _ (@pt_cmpR _ _ _ _ _ _ _ _ op_eq (pe_ix (ixL K) (pv 1) pe_int (fun _ _ => rfl)) pe_str (nomark _)) (@pss_one _ _ _ (ps_set (i := 2) scDeI.nd rfl (Or.inl rfl) (@pe_tup _ _ _ _ _ (pa_cons pe_str (pa_cons (pe_call GDi hr rfl mDi kDi bDi .nil pass0 (pa_cons (@pe_slice _ _ _ _ _ _ _ _ _ _ sl_str (pv 0) (po_some pe_int) po_none) pa_nil)) pa_nil))))) (@pss_one _ _ _ (@ps_if _ _ _ _ _ _ _ _ (@PW.pt _ _ _ (@pw_and _ _ _ _ _ _ _ (@pt_cmpR _ _ _ _ _ _ _ _ op_eq (pe_ix (ixL K) (pv 1) pe_int (fun _ _ => rfl)) pe_str (nomark _)) (@pw_and1 _ _ _ _ (@pt_cmpR _ _ _ _ _ _ _ _ op_gt (pe_callB (lenK K) rfl T.len PySem.boot_len (pa_cons (pv 1) pa_nil)) pe_int (nomark _))))) (@pss_one _ _ _ (ps_set (i := 2) scDeI.nd rfl (Or.inl rfl) (@pe_tup _ _ _ _ _ (pa_cons pe_str (pa_cons (pe_call GNi hr1 rfl mNi kNi bNi .nil pass0 (pa_cons (pe_ix (ixL K) (pv 1) pe_int (fun _ _ => rfl)) pa_nil)) (pa_cons (pe_call GDi hr rfl mDi kDi bDi .nil pass0 (pa_cons (@pe_slice _ _ _ _ _ _ _ _ _ _ sl_str (pv 0) (po_some (pe_op op_add (pe_callB call_len_str rfl T.len PySem.boot_len (pa_cons (pe_ix (ixL K) (pv 1) pe_int (fun _ _ => rfl)) pa_nil)) pe_int)) po_none) pa_nil)) pa_nil)))))) (@pss_one _ _ _ (@ps_if _ _ _ _ _ _ _ _ (@PW.pt _ _ _ (@pw_and _ _ _ _ _ _ _ (@pt_cmpR _ _ _ _ _ _ _ _ op_eq (pe_ix (ixL K) (pv 1) pe_int (fun _ _ => rfl)) pe_str (nomark _)) (@pw_and1 _ _ _ _ (@pt_cmpR _ _ _ _ _ _ _ _ op_eq (pe_callB (lenK K) rfl T.len PySem.boot_len (pa_cons (pv 1) pa_nil)) pe_int (nomark _))))) (@pss_one _ _ _ (ps_set (i := 2) scDeI.nd rfl (Or.inl rfl) (@pe_tup _ _ _ _ _ (pa_cons pe_str (pa_cons (pe_call GNi hr1 rfl mNi kNi bNi .nil pass0 (pa_cons (pe_ix (ixL K) (pv 1) pe_int (fun _ _ => rfl)) pa_nil)) (pa_cons (pe_call GNi hr1 rfl mNi kNi bNi .nil pass0 (pa_cons (pe_ix (ixL K) (pv 1) pe_int (fun _ _ => rfl)) pa_nil)) pa_nil)))))) (@pss_one _ _ _ (@ps_if _ _ _ _ _ _ _ _ (@PW.pt _ _ _ (@pw_and _ _ _ _ _ _ _ (@pt_cmpR _ _ _ _ _ _ _ _ (inK K) (pe_ix (ixL K) (pv 1) pe_int (fun _ _ => rfl)) (@pe_lst _ _ _ _ (pa_cons pe_str (pa_cons pe_str (pa_cons pe_str pa_nil)))) rfl) (@pw_and1 _ _ _ _ (@pt_cmpR _ _ _ _ _ _ _ _ op_eq (pe_callB (lenK K) rfl T.len PySem.boot_len (pa_cons (pv 1) pa_nil)) pe_int (nomark _))))) (@pss_one _ _ _ (ps_set (i := 2) scDeI.nd rfl (Or.inl rfl) (@pe_tup _ _ _ _ _ (pa_cons (pe_ix (ixL K) (pv 1) pe_int (fun _ _ => rfl)) (pa_cons (pe_call GNi hr1 rfl mNi kNi bNi .nil pass0 (pa_cons (pe_ix (ixL K) (pv 1) pe_int (fun _ _ => rfl)) pa_nil)) pa_nil))))) (@pss_one _ _ _ (@ps_ret _ _ _ _ pe_non)))))))))
    (@pss_cons _ _ _ _ _ (@ps_if _ _ _ _ _ _ _ _ (@pt_cmpR _ _ _ _ _ _ _ _ (op_inN K hr1) pe_non (pv 2) rfl) (@pss_one _ _ _ (@ps_ret _ _ _ _ pe_non)) pss_nil)
    (@pss_one _ _ _ (@ps_ret _ _ _ _ (pv 2))))))), ?_⟩
  refine seq_inv (fun σ L => σ = [some (.str z), none, none] ∧ Same H L ∧ z ∉ (["stamp", "seal", "thin"] : List Str)) ?_ (fun N hN => ?_)
  rotate_left
  · simpa only [rIn]
    refine ⟨by decide, fun p hp => ⟨_, .inl (SqL.of upd_same), rfl, rfl, ?_⟩⟩
    refine ite2 (fun c => ?_) fun c => hN _ _ ⟨rfl, same_new hp _, fun y => c (in_strs (zs := ["stamp", "seal", "thin"]).mpr y)⟩
    have hm : z ∈ (["stamp", "seal", "thin"] : List Str) := (in_strs (zs := ["stamp", "seal", "thin"])).mp c
    have ht : (z, []) ∈ tab := by
      have all : ∀ nm ∈ (["stamp", "seal", "thin"] : List Str), (nm, []) ∈ tab := by decide +kernel
      exact all z hm
    have s1 := same_new hp (.lst [V.str "stamp", V.str "seal", V.str "thin"])
    exact ⟨by decide, fun p2 hp2 => q z [] ⟨[], [], ht, splitF_zero 32 _, trivial⟩ p2 _ _ (s1.trans (same_new hp2 _)) (s1.free hp2) upd_same (DeepTs.one (deep_str z))⟩
  rintro σ L ⟨rfl, sL, hn⟩
  refine seq_go ?_
  simp only [tIfS, tAnd, tOr, tNot, tB, tVar, tTest, tOp, tC, tUn, tCB, tCons, tNil, rI0, rI, rU, rNe, rEq, scal, rAppend, tBM, tDrop, tAsg, gName, tRet, tNext, List.set_cons_zero, List.set_cons_succ, List.getElem?_cons_zero, List.getElem?_cons_succ, Option.some.injEq, V.int.injEq, V.bl.injEq, V.ref.injEq, V.str.injEq, exists_eq_left', exists_eq_left, exists_and_left, List.cons.injEq, and_true, true_and, and_assoc, exists_const, L2.start, List.map_cons, List.map_nil, List.length_cons, List.length_nil, List.replicate_succ, List.replicate_zero, List.cons_append, List.nil_append, List.append_nil, Nat.reduceAdd, Nat.reduceSub, tFor_eq, tComp_eq, tWhile_eq, tChain, tAug, ipI, rIxS, rSlS, rLower, rIndex, rPop, rCat, tBM0, gSub, rSetL, tSl, tPart, tNoPart, rSlL, tCall, tLst, tTup, iRng1, iRng2, iRng3, iList, iEnum, gTup, gCons, gNil, rIxL, rIxT, tYes, tAndV, tOrV, tNotV, tIf, tTest, exists_eq', List.ne_cons_self, reduceCtorEq, if_true, if_false, and_false, false_and, rSplit1, tyV]
  refine ⟨by decide +kernel, zm, fun pp hpp => ?_⟩
  have hps := split_all z 32 (by decide)
  rw [← cBl] at hps
  generalize Txt.split z " " = ps at hps ⊢
  have s1 := same_new hpp (.lst (ps.map V.str))
  have sL1 := sL.trans s1
  have hpp1 : (upd L pp (.lst (ps.map V.str))) pp = some (.lst (ps.map V.str)) := upd_same
  generalize upd L pp (.lst (ps.map V.str)) = L1 at s1 sL1 hpp1 ⊢
  refine seq_inv (fun σ' M => ∃ (pf : Addr) (xs : List V), σ' = [some (.str z), some (.ref pp), some (.ref pf)] ∧ Same H M ∧ H pf = none ∧ M pf = some (.tup xs) ∧ allV z.cps.toList M xs) ?_ (fun N hN => ?_)
  · rintro σ' M ⟨pf, xs, rfl, sM, hpf, hM, hv, hx⟩
    simpa only [and_self]
    refine ⟨_, SqT.of hM, fun v hv' => (hv v hv').imp id fun ⟨a, ys, e, g⟩ => ⟨a, e, ys, SqL.of g⟩, ?_⟩
    rcases hx with ⟨e, nm, as, r, dd⟩ | ⟨e, no⟩
    · rw [e]
      exact iteF (q nm as r pf xs M sM hpf hM dd)
    · rw [e]
      exact iteT (qn no M sM)
  obtain ⟨p0, pr, rfl⟩ : ∃ p0 pr, ps = p0 :: pr := by
    cases ps with
    | nil =>
      obtain ⟨a, b, hab⟩ := splitF_cons 32 z.cps.toList (z.length + 1)
      rw [hab] at hps
      cases hps
    | cons a b => exact ⟨a, b, rfl⟩
  rw [← zl, List.map_cons] at hps
  have hps' := hps.symm
  have hin : ∀ y ∈ p0 :: pr, y.length ≤ 1000 ∧ Asc y := fun y hy => by
    have := split_in 32 z.cps.toList (z.cps.toList.length + 1) y.cps.toList (by rw [← hps]; exact List.mem_map (f := fun y : Str => y.cps.toList) (l := p0 :: pr) |>.mpr ⟨y, hy, rfl⟩)
    rw [slen, slen] at this
    exact ⟨by omega, fun c hc => hA c (this.2 c hc)⟩
  have dl : ∀ i : Nat, (⟨(z.cps.toList.drop i).toArray⟩ : Str).length ≤ 1000 ∧ Asc ⟨(z.cps.toList.drop i).toArray⟩ := fun i => by
    refine ⟨?_, fun c hc => hA c (List.mem_of_mem_drop (i := i) (by simpa using hc))⟩
    rw [← slen]
    show (z.cps.toList.drop i).length ≤ 1000
    rw [List.length_drop]
    omega
  have fin : ∀ (xs : List V) (M : Hp), Same L1 M → allV z.cps.toList M xs → ∀ p, M p = none → N [some (.str z), some (.ref pp), some (.ref p)] (upd M p (.tup xs)) := fun xs M sM ha p hp => hN _ _ ⟨p, xs, rfl, (sL1.trans sM).trans (same_new hp _), (sL1.trans sM).free hp, upd_same, ha.same (same_new hp _)⟩
  have sq : SqL K L1 pp ((p0 :: pr).map V.str) := SqL.of hpp1
  have a0 : atI ((p0 :: pr).map V.str) 0 = some (.str p0) := atI_nat (j := 0) rfl
  have rf : Same L1 L1 := Same.refl _
  refine ifS_inv (fun M => L1 = M ∧ p0 ≠ "put") ?_ (fun Y hY => ?_)
  rotate_left
  · simpa only [spDI]
    refine ⟨_, sq, _, a0, rfl, ite2 (fun c1 => ?_) fun c1 => hY _ ⟨rfl, fun e => c1 (decide_eq_true (by rw [e]))⟩⟩
    have e : p0 = "put" := V.str.inj (of_decide_eq_true c1)
    subst e
    have h1 := m_put hps'
    have c4 : cutL z.cps.toList (some 4) none = z.cps.toList.drop 4 := cutL_dr _ 4
    rw [c4]
    exact ⟨zs, (dl 4).1, (dl 4).2, fun d hd p xs M sM hp hM hx => ⟨by decide, fun p1 hp1 => fin _ M sM (all_one h1 (arg_doc hd hM hx)) p1 hp1⟩, fun no M sM => ⟨by decide, fun p1 hp1 => fin _ M sM (all_one h1 (arg_nodoc no)) p1 hp1⟩⟩
  rintro _ ⟨rfl, n1⟩
  refine ifS_inv (fun M => L1 = M ∧ (p0 = "change" → ¬ 2 ≤ (pr.map fun y => y.cps.toList).length)) ?_ (fun Y hY => ?_)
  rotate_left
  · simpa only [spDI, spNI]
    refine ⟨_, sq, _, a0, rfl, ite2 (fun c1 => ⟨_, .inl sq, ite2 (fun c2 => ?_) fun c2 => hY _ ⟨rfl, fun _ y => c2 (decide_eq_true ?_)⟩⟩) fun c1 => hY _ ⟨rfl, fun e => absurd (decide_eq_true (by rw [e])) c1⟩⟩
    rotate_left
    · rw [List.length_map] at y
      rw [List.length_map, List.length_cons]
      omega
    have e : p0 = "change" := V.str.inj (of_decide_eq_true c1)
    subst e
    have c2' := of_decide_eq_true c2
    rw [List.length_map, List.length_cons] at c2'
    cases pr with
    | nil => rw [List.length_nil] at c2'; omega
    | cons y1 pr =>
      rw [List.length_cons] at c2'
      have h1 := m_change hps' (by intro y; have := List.map_eq_nil_iff.mp y; subst this; rw [List.length_nil] at c2'; omega)
      have y1i := hin y1 (by simp)
      have a1 : atI ((("change" : Str) :: y1 :: pr).map V.str) 1 = some (.str y1) := atI_nat (j := 1) rfl
      have c4 : cutL z.cps.toList (some ((y1.length : Int) + 8)) none = z.cps.toList.drop (y1.cps.toList.length + 8) := by
        rw [slen, show (y1.length : Int) + 8 = ((y1.length + 8 : Nat) : Int) by omega]
        exact cutL_dr _ _
      have dlc := dl (y1.cps.toList.length + 8)
      refine ⟨_, sq, _, a1, y1, rfl, y1i.1, y1i.2, fun n n0 n1 hn1 => ⟨_, sq, _, a1, y1, rfl, small y1i.1, ?_⟩, fun hno => ⟨_, sq, _, a1, y1, rfl, small y1i.1, ?_⟩⟩
      · rw [c4]
        exact ⟨zs, dlc.1, dlc.2, fun d hd p xs M sM hp hM hx => ⟨by decide, fun p1 hp1 => fin _ M sM (all_two h1 (arg_num n0 n1 hn1) (arg_doc hd hM hx)) p1 hp1⟩, fun no M sM => ⟨by decide, fun p1 hp1 => fin _ M sM (all_two h1 (arg_num n0 n1 hn1) (arg_nodoc no)) p1 hp1⟩⟩
      · rw [c4]
        exact ⟨zs, dlc.1, dlc.2, fun d hd p xs M sM hp hM hx => ⟨by decide, fun p1 hp1 => fin _ M sM (all_two h1 (arg_nonum hno) (arg_doc hd hM hx)) p1 hp1⟩, fun no M sM => ⟨by decide, fun p1 hp1 => fin _ M sM (all_two h1 (arg_nonum hno) (arg_nodoc no)) p1 hp1⟩⟩
  rintro _ ⟨rfl, n2⟩
  refine ifS_inv (fun M => L1 = M ∧ (p0 = "pour" → (pr.map fun y => y.cps.toList).length ≠ 2)) ?_ (fun Y hY => ?_)
  rotate_left
  · simpa only [spNI]
    refine ⟨_, sq, _, a0, rfl, ite2 (fun c1 => ⟨_, .inl sq, ite2 (fun c2 => ?_) fun c2 => hY _ ⟨rfl, fun _ y => c2 (decide_eq_true ?_)⟩⟩) fun c1 => hY _ ⟨rfl, fun e => absurd (decide_eq_true (by rw [e])) c1⟩⟩
    rotate_left
    · rw [List.length_map] at y
      rw [List.length_map, List.length_cons, y]
      rfl
    have e : p0 = "pour" := V.str.inj (of_decide_eq_true c1)
    subst e
    have c2' : ((((("pour" : Str) :: pr).map V.str).length : Nat) : Int) = 3 := of_decide_eq_true c2
    rw [List.length_map, List.length_cons] at c2'
    obtain ⟨y1, y2, rfl⟩ : ∃ y1 y2, pr = [y1, y2] := by
      match pr, c2' with
      | [], h => simp at h
      | [_], h => simp at h
      | [a, b], _ => exact ⟨a, b, rfl⟩
      | _ :: _ :: _ :: _, h => simp at h; omega
    have h1 := m_pour hps'
    have y1i := hin y1 (by simp)
    have y2i := hin y2 (by simp)
    have a1 : atI ((("pour" : Str) :: [y1, y2]).map V.str) 1 = some (.str y1) := atI_nat (j := 1) rfl
    have a2 : atI ((("pour" : Str) :: [y1, y2]).map V.str) 2 = some (.str y2) := atI_nat (j := 2) rfl
    refine ⟨_, sq, _, a1, y1, rfl, y1i.1, y1i.2, fun n n0 n1 hn1 => ⟨_, sq, _, a2, y2, rfl, y2i.1, y2i.2, fun m m0 m1 hm1 => ⟨by decide, ?_⟩, fun hm => ⟨by decide, ?_⟩⟩, fun hno => ⟨_, sq, _, a2, y2, rfl, y2i.1, y2i.2, fun m m0 m1 hm1 => ⟨by decide, ?_⟩, fun hm => ⟨by decide, ?_⟩⟩⟩
    · exact fun p1 hp1 => fin _ L1 rf (all_two h1 (arg_num n0 n1 hn1) (arg_num m0 m1 hm1)) p1 hp1
    · exact fun p1 hp1 => fin _ L1 rf (all_two h1 (arg_num n0 n1 hn1) (arg_nonum hm)) p1 hp1
    · exact fun p1 hp1 => fin _ L1 rf (all_two h1 (arg_nonum hno) (arg_num m0 m1 hm1)) p1 hp1
    · exact fun p1 hp1 => fin _ L1 rf (all_two h1 (arg_nonum hno) (arg_nonum hm)) p1 hp1
  rintro _ ⟨rfl, n3⟩
  refine ifS_inv (fun M => Same L1 M ∧ (p0 ∈ (["take", "drop", "pack"] : List Str) → (pr.map fun y => y.cps.toList).length ≠ 1)) ?_ (fun Y hY => ?_)
  rotate_left
  · simpa only [rIn, spNI]
    refine ⟨_, sq, _, a0, by decide, fun p hp => ⟨_, .inl (SqL.of upd_same), rfl, rfl, ?_⟩⟩
    have s2 := same_new hp (.lst [V.str "take", V.str "drop", V.str "pack"])
    have sq2 : SqL K (upd L1 p (.lst [V.str "take", V.str "drop", V.str "pack"])) pp ((p0 :: pr).map V.str) := SqL.of (s2 _ _ hpp1)
    refine ite2 (fun c1 => ⟨_, .inl sq2, ite2 (fun c2 => ?_) fun c2 => hY _ ⟨s2, fun _ y => c2 (decide_eq_true ?_)⟩⟩) fun c1 => hY _ ⟨s2, fun e => absurd ((in_strs (zs := ["take", "drop", "pack"])).mpr e) c1⟩
    rotate_left
    · rw [List.length_map] at y
      rw [List.length_map, List.length_cons, y]
      rfl
    have hm : p0 ∈ (["take", "drop", "pack"] : List Str) := (in_strs (zs := ["take", "drop", "pack"])).mp c1
    have ht : (p0, [("number" : Str)]) ∈ tab := by
      have all : ∀ nm ∈ (["take", "drop", "pack"] : List Str), (nm, [("number" : Str)]) ∈ tab := by decide +kernel
      exact all p0 hm
    have c2' : ((((p0 :: pr : List Str).map V.str).length : Nat) : Int) = 2 := of_decide_eq_true c2
    rw [List.length_map, List.length_cons] at c2'
    obtain ⟨y1, rfl⟩ : ∃ y1, pr = [y1] := by
      match pr, c2' with
      | [], h => simp at h
      | [a], _ => exact ⟨a, rfl⟩
      | _ :: _ :: _, h => simp at h; omega
    have h1 := m_take ht hps'
    have y1i := hin y1 (by simp)
    have a1 : atI ((p0 :: [y1]).map V.str) 1 = some (.str y1) := atI_nat (j := 1) rfl
    exact ⟨_, sq2, _, a0, _, sq2, _, a1, y1, rfl, y1i.1, y1i.2, fun n n0 n1 hn1 => ⟨by decide, fun p1 hp1 => fin _ _ s2 (all_one h1 (arg_num n0 n1 hn1)) p1 hp1⟩, fun hno => ⟨by decide, fun p1 hp1 => fin _ _ s2 (all_one h1 (arg_nonum hno)) p1 hp1⟩⟩
  rintro M ⟨s2, n4⟩
  simpa only [and_self]
  exact qn (m_no hps' (fun y hy => by rw [sx hy]; exact hn) n1 n2 n3 n4) M (sL1.trans s2)
end
def okc (c : Nat) : Prop := 32 ≤ c ∧ c ≤ 126 ∧ c ≠ 37
theorem mem_join {c : Nat} : ∀ {ls : List (List Nat)}, c ∈ joinL [32] ls → c = 32 ∨ ∃ l ∈ ls, c ∈ l
  | [], h => by cases h
  | [l], h => .inr ⟨l, List.mem_cons_self, h⟩
  | l :: m :: ls, h => by
    have h' : c ∈ l ++ [32] ++ joinL [32] (m :: ls) := h
    rcases List.mem_append.mp h' with h1 | h1
    · rcases List.mem_append.mp h1 with h2 | h2
      · exact .inr ⟨l, List.mem_cons_self, h2⟩
      · exact .inl (List.mem_singleton.mp h2)
    · rcases mem_join h1 with h2 | ⟨l', h2, h3⟩
      · exact .inl h2
      · exact .inr ⟨l', List.mem_cons_of_mem _ h2, h3⟩
theorem join_len {B : Nat} : ∀ {ls : List (List Nat)}, (∀ l ∈ ls, l.length ≤ B) → (joinL [32] ls).length ≤ ls.length * (B + 1)
  | [], _ => Nat.zero_le _
  | [l], h => by
    have := h l List.mem_cons_self
    show l.length ≤ 1 * (B + 1)
    omega
  | l :: m :: ls, h => by
    have h1 := h l List.mem_cons_self
    have h2 := join_len (ls := m :: ls) fun x hx => h x (List.mem_cons_of_mem _ hx)
    show (l ++ [32] ++ joinL [32] (m :: ls)).length ≤ _
    rw [List.length_append, List.length_append, List.length_singleton, List.length_cons, Nat.add_mul]
    omega
theorem dbl_mem : ∀ {t : List Nat} {c : Nat}, c ∈ dblL t → c ∈ t
  | [], c, h => by cases h
  | x :: t, c, h => by
    rw [dblL] at h
    split at h
    · rename_i e
      rcases List.mem_cons.mp h with h | h
      · rw [h, e]; exact List.mem_cons_self
      · rcases List.mem_cons.mp h with h | h
        · rw [h, e]; exact List.mem_cons_self
        · exact List.mem_cons_of_mem _ (dbl_mem h)
    · rcases List.mem_cons.mp h with h | h
      · rw [h]; exact List.mem_cons_self
      · exact List.mem_cons_of_mem _ (dbl_mem h)
theorem arg_ok {a : KU.Arg} (h : okA a) (hs : smA a) : (argL a).length ≤ 110 ∧ ∀ c ∈ argL a, okc c := by
  cases a with
  | num n =>
    have h1 := digs_len h.1 h.2
    exact ⟨by show (digs n).length ≤ 110; omega, fun c hc => by
      have := digs_fig h.1 c hc
      unfold okc
      omega⟩
  | doc d =>
    have hD : Doc d := h
    have hS : smD d := hs
    by_cases hd : d = []
    · subst hd
      refine ⟨by show 4 ≤ 110; decide, fun c hc => ?_⟩
      have : c ∈ noneL := hc
      simp at this
      unfold okc
      omega
    · rw [argL_doc hd]
      have hok := dw_ok hD.1
      constructor
      · have := join_len (B := 33) (ls := docL d) fun l hl => by
          obtain ⟨x, hx, e⟩ := List.mem_map.mp hl
          rw [← e]
          have h1 := (nm_len (hok x hx)).2
          have h2 := hS.2 x hx
          have h3 := (dblL_le x.2.cps.toList).2
          rw [slen] at h3
          show (x.1.cps.toList ++ 58 :: 39 :: (dblL x.2.cps.toList ++ [39])).length ≤ 33
          rw [List.length_append, List.length_cons, List.length_cons, List.length_append, List.length_singleton, slen]
          omega
        have h3 : (docL d).length = d.length := by unfold docL; rw [List.length_map]
        have := hS.1
        omega
      · intro c hc
        rcases mem_join hc with h1 | ⟨l, hl, h1⟩
        · unfold okc; omega
        · obtain ⟨x, hx, e⟩ := List.mem_map.mp hl
          rw [← e] at h1
          have h2 : c ∈ x.1.cps.toList ++ 58 :: 39 :: (dblL x.2.cps.toList ++ [39]) := h1
          rcases List.mem_append.mp h2 with h3 | h3
          · have := hok x hx
            unfold okNm at this
            rw [Bool.and_eq_true, List.all_eq_true] at this
            have := of_decide_eq_true (this.2 c h3)
            unfold okc
            omega
          · rcases List.mem_cons.mp h3 with h4 | h4
            · unfold okc; omega
            · rcases List.mem_cons.mp h4 with h5 | h5
              · unfold okc; omega
              · rcases List.mem_append.mp h5 with h6 | h6
                · exact (hD.2.2 x hx).1 c (dbl_mem h6)
                · have := List.mem_singleton.mp h6
                  unfold okc; omega
theorem tab_ok : ∀ e ∈ tab, ∀ c ∈ e.1.cps.toList, 32 ≤ c ∧ c ≤ 126 ∧ c ≠ 37 := by decide +kernel
theorem line_ok {nm : Str} {as : List KU.Arg} (hG : Good nm as) (hs : ∀ a ∈ as, smA a) : (lineL nm as).length ≤ 400 ∧ ∀ c ∈ lineL nm as, okc c := by
  have tb := tab_args hG.1
  have lk := tb.1
  rw [List.length_map] at lk
  show (joinL [32] (nm.cps.toList :: as.map argL)).length ≤ 400 ∧ ∀ c ∈ joinL [32] (nm.cps.toList :: as.map argL), okc c
  constructor
  · have := join_len (B := 110) (ls := nm.cps.toList :: as.map argL) fun l hl => by
      rcases List.mem_cons.mp hl with e | hl
      · rw [e, slen]; omega
      · obtain ⟨a, ha, e⟩ := List.mem_map.mp hl
        rw [← e]
        exact (arg_ok (hG.2 a ha) (hs a ha)).1
    rw [List.length_cons, List.length_map] at this
    omega
  · intro c hc
    rcases mem_join hc with h1 | ⟨l, hl, h1⟩
    · unfold okc; omega
    · rcases List.mem_cons.mp hl with e | hl
      · rw [e] at h1
        exact tab_ok _ hG.1 c h1
      · obtain ⟨a, ha, e⟩ := List.mem_map.mp hl
        rw [← e] at h1
        exact (arg_ok (hG.2 a ha) (hs a ha)).2 c h1
def shorts (zs : List Str) : Prop := ∀ y ∈ zs, y.length ≤ 100 ∧ Asc y
theorem shorts.app {a b : List Str} (h : shorts a) (g : shorts b) : shorts (a ++ b) := fun y hy => (List.mem_append.mp hy).elim (h y) (g y)
def spOdd : Sp := fun vs H Q _ => ∃ i : Int, vs = [.int i] ∧ ∀ (z : Str) (H' : Hp), Same H H' → z.length ≤ 100 → Asc z → Q (.str z) H'
section
variable {P : Program} {w : World} {K : PySem.W.Frag} {mg : Str → Option Value} {base : Heap} {f : Addr} {fd : FuncData}
theorem scOdd : FnScope ["_law_number_here", "_law_some"] ["_law_number_here"] (defScope sOdd) := ⟨rfl, rfl, rfl, by decide +kernel, rfl, by decide +kernel, by decide +kernel⟩
def ivO (n : Nat) (i : Int) (H : Hp) (σ : St) (L : Hp) : Prop := ∃ (p : Addr) (zs : List Str), σ = [some (.int i), some (.ref p)] ∧ Same H L ∧ L p = some (.lst (zs.map V.str)) ∧ shorts zs ∧ 0 < zs.length ∧ zs.length ≤ n
theorem odd_step {zl : List Str} {D : Ends} {i : Int} {H : Hp} {n : Nat} {σ : St} {L : Hp} (h : ivO n i H σ L) (ok : shorts zl) (hl : zl.length ≤ 10) (hn : n ≤ 100) (hN : ∀ σ' L', ivO (n + 10) i H σ' L' → D.nx σ' L') : tAsg (tOp rCat (tVar 1) (tLst (fun _ H Q => Q (zl.map V.str) H))) (gName 1) D σ L := by
  obtain ⟨p, zs, rfl, sL, hp, hs, h0, h1⟩ := h
  simpa only [and_self]
  refine ⟨by rw [List.length_map]; exact small (by omega), fun p2 hp2 => ⟨_, upd_at hp hp2, _, upd_same, by rw [List.length_map, List.length_map]; exact small (by omega), fun p3 hp3 => hN _ _ ⟨p3, zs ++ zl, rfl, (sL.trans (same_new hp2 _)).trans (same_new hp3 _), by rw [upd_same, List.map_append], hs.app ok, ?_, ?_⟩⟩⟩
  · rw [List.length_append]; omega
  · rw [List.length_append]; omega
theorem ones {r : Str} {n : Nat} (h : r.cps.toList = (List.replicate n ("1" : Str).cps.toList).flatten) (hn : n ≤ 61) : ("take " ++ r : Str).length ≤ 100 ∧ Asc ("take " ++ r) := by
  have e : r.cps.toList = List.replicate n 49 := by
    rw [h, show ("1" : Str).cps.toList = [49] from by decide +kernel]
    clear h hn
    induction n with
    | zero => rfl
    | succ n ih => rw [List.replicate_succ, List.flatten_cons, ih]; rfl
  constructor
  · rw [appL, ← slen r, e, List.length_replicate]
    have : ("take " : Str).length = 5 := by decide +kernel
    omega
  · intro c hc
    rw [app_cps, e] at hc
    rcases List.mem_append.mp hc with h1 | h1
    · have all : ∀ c ∈ ("take " : Str).cps.toList, 32 ≤ c ∧ c ≤ 126 ∧ c ≠ 37 := by decide +kernel
      exact all c h1
    · have := (List.mem_replicate.mp h1).2
      omega
theorem ok_odd (F : Fun K "_law_odd" "_law_odd" sOdd f fd) (T : Txt mg) : FnOk P w K mg base CX0 1 f fd ["_law_number_here"] spOdd := by
  refine F.ok scOdd (fun vs H Q E h => ?_) (fun cdv A outer s H vs Q E hr h => ?_)
  · obtain ⟨i, rfl, _⟩ := h
    rfl
  obtain ⟨i, rfl, q⟩ := h
  refine ⟨_, (@pss_c _ _ _ _ _ (@ps_setLit _ 1 _ _ _ _ _ _ scOdd.nd rfl (Or.inl rfl) rfl rfl (.inl rfl))
    (@pss_c _ _ _ _ _ (@ps_catLit _ 1 _ _ _ _ _ _ _ _ scOdd.nd rfl (Or.inl rfl) rfl (pv 1) (.inl rfl))
    (@pss_c _ _ _ _ _ (@ps_catLit _ 1 _ _ _ _ _ _ _ _ scOdd.nd rfl (Or.inl rfl) rfl (pv 1) (.inl rfl))
    (@pss_c _ _ _ _ _ (@ps_catLit _ 1 _ _ _ _ _ _ _ _ scOdd.nd rfl (Or.inl rfl) rfl (pv 1) (.inl rfl))
    (@pss_c _ _ _ _ _ (@ps_catLit _ 1 _ _ _ _ _ _ _ _ scOdd.nd rfl (Or.inl rfl) rfl (pv 1) (.inl rfl))
    (@pss_c _ _ _ _ _ (@ps_catLit _ 1 _ _ _ _ _ _ _ _ scOdd.nd rfl (Or.inl rfl) rfl (pv 1) (.inl rfl))
    (pss_cons (ps_set (i := 1) scOdd.nd rfl (Or.inl rfl) (pe_op op_cat (pv 1) (pe_lst (@pa_cons _ _ _ _ _ (pe_op op_add_str pe_str (pe_op op_repS pe_str pe_int)) (@pa_cons _ _ _ _ _ (pe_op op_add_str pe_str (pe_op op_repS pe_str pe_int)) (@pa_cons _ _ _ _ _ pe_str (@pa_cons _ _ _ _ _ pe_str (@pa_cons _ _ _ _ _ pe_str (@pa_cons _ _ _ _ _ pe_str (@pa_cons _ _ _ _ _ pe_str pa_nil star_K) star_K) star_K) star_K) star_K) star_B) star_B))))
    (@pss_c _ _ _ _ _ (@ps_catLit _ 1 _ _ _ _ _ _ _ _ scOdd.nd rfl (Or.inl rfl) rfl (pv 1) (.inl rfl))
    (pss_one (ps_ret (pe_ix (ixL K) (pv 1) (pe_op op_mod (pv 0) (pe_callB (lenK K) rfl T.len PySem.boot_len (@pa_cons _ _ _ _ _ (pv 1) pa_nil star_N))) (fun _ _ => rfl)))))))))))), ?_⟩
  refine seq_inv (ivO 10 i H) (fun σ L h => ?_) (fun N hN => ?_)
  rotate_left
  · simpa only [and_self]
    exact ⟨by decide, fun p hp => hN _ _ ⟨p, ["", " ", "put", "put ", "put none ", "put  none", "put nones", "put a:''", "put a:'"], rfl, same_new hp _, upd_same, (by unfold shorts Asc; decide +kernel), by decide, by decide⟩⟩
  refine seq_inv (ivO 20 i H) (fun σ L h => ?_) (fun N hN => odd_step h (by unfold shorts Asc; decide +kernel) (by decide) (by decide) hN)
  refine seq_inv (ivO 30 i H) (fun σ L h => ?_) (fun N hN => odd_step h (by unfold shorts Asc; decide +kernel) (by decide) (by decide) hN)
  refine seq_inv (ivO 40 i H) (fun σ L h => ?_) (fun N hN => odd_step h (by unfold shorts Asc; decide +kernel) (by decide) (by decide) hN)
  refine seq_inv (ivO 50 i H) (fun σ L h => ?_) (fun N hN => odd_step h (by unfold shorts Asc; decide +kernel) (by decide) (by decide) hN)
  refine seq_inv (ivO 60 i H) (fun σ L h => ?_) (fun N hN => odd_step h (by unfold shorts Asc; decide +kernel) (by decide) (by decide) hN)
  refine seq_inv (ivO 70 i H) (fun σ L h => ?_) (fun N hN => ?_)
  rotate_left
  · obtain ⟨p, zs, rfl, sL, hp, hs, h0, h1⟩ := h
    simpa only [and_self]
    refine ⟨by decide, by decide, by decide, by decide, fun r1 e1 => ?_⟩
    have o1 := ones e1 (by decide)
    refine ⟨small (by have := o1.1; rw [appL] at this; omega), by decide, by decide, by decide, by decide, fun r2 e2 => ?_⟩
    have o2 := ones e2 (by decide)
    refine ⟨small (by have := o2.1; rw [appL] at this; omega), by decide, fun p2 hp2 => ⟨_, upd_at hp hp2, _, upd_same, by rw [List.length_map]; exact small (by show zs.length + 7 ≤ 1000; omega), fun p3 hp3 => hN _ _ ⟨p3, zs ++ ["take " ++ r1, "take " ++ r2, "pour 1", "pour 1 2 3", "pour 1  2", "stamp ", " stamp"], rfl, (sL.trans (same_new hp2 _)).trans (same_new hp3 _), by rw [upd_same, List.map_append]; rfl, hs.app (fun y hy => ?_), by rw [List.length_append]; omega, by rw [List.length_append]; show zs.length + 7 ≤ 70; omega⟩⟩⟩
    rcases List.mem_cons.mp hy with h | hy
    · rw [h]; exact o1
    rcases List.mem_cons.mp hy with h | hy
    · rw [h]; exact o2
    have all : shorts ["pour 1", "pour 1 2 3", "pour 1  2", "stamp ", " stamp"] := by unfold shorts Asc; decide +kernel
    exact all y hy
  refine seq_inv (ivO 80 i H) (fun σ L h => ?_) (fun N hN => odd_step h (by unfold shorts Asc; decide +kernel) (by decide) (by decide) hN)
  obtain ⟨p, zs, rfl, sL, hp, hs, h0, h1⟩ := h
  simpa only [and_self]
  have x0 := Int.emod_nonneg i (show (((zs.map V.str).length : Nat) : Int) ≠ 0 by rw [List.length_map]; omega)
  have x1 := Int.emod_lt_of_pos i (show (0 : Int) < (((zs.map V.str).length : Nat) : Int) by rw [List.length_map]; omega)
  obtain ⟨v, hv, hv'⟩ := atI_of (xs := zs.map V.str) x0 x1
  obtain ⟨y, hy, rfl⟩ := List.mem_map.mp (List.mem_of_getElem? hv')
  exact ⟨_, .inl (SqL.of hp), by rw [List.length_map]; omega, _, SqL.of hp, _, hv, q y L sL (hs y hy).1 (hs y hy).2⟩
end
def spBe : Sp := fun vs H Q _ => ∃ (z : Str) (d : Addr) (ns : List D31), vs = [.str z, .ref d] ∧ z.length ≤ 400 ∧ Asc z ∧ H d = some (.lst (ns.map dI)) ∧ ∀ (z' : Str) (H' : Hp), SameX d H H' → z'.length ≤ 500 → Asc z' → Q (.str z') H'
def sh (n : Nat) (z : Str) : Prop := z.length ≤ n ∧ Asc z
theorem sh.cut {n : Nat} {z : Str} (h : sh n z) (lo hi : Option Int) : sh n ⟨(cutL z.cps.toList lo hi).toArray⟩ := by
  constructor
  · rw [← slen]
    show (cutL z.cps.toList lo hi).length ≤ n
    unfold cutL
    rw [List.length_take, List.length_drop, slen]
    have := h.1
    omega
  · intro c hc
    have hc' : c ∈ cutL z.cps.toList lo hi := by simpa using hc
    unfold cutL at hc'
    exact h.2 c (List.mem_of_mem_drop (List.mem_of_mem_take hc'))
theorem sh.app {n m : Nat} {a b : Str} (h : sh n a) (g : sh m b) : sh (n + m) (a ++ b) := by
  refine ⟨by rw [appL]; have := h.1; have := g.1; omega, fun c hc => ?_⟩
  rw [app_cps] at hc
  exact (List.mem_append.mp hc).elim (h.2 c) (g.2 c)
theorem sh.mono {n m : Nat} {a : Str} (h : sh n a) (hn : n ≤ m) : sh m a := ⟨Nat.le_trans h.1 hn, h.2⟩
theorem asc_cut {z : Str} (h : Asc z) (lo hi : Option Int) : Asc ⟨(cutL z.cps.toList lo hi).toArray⟩ := (sh.cut (n := z.length) ⟨Nat.le_refl _, h⟩ lo hi).2
theorem cutA {z : Str} (h : Asc z) (a : Nat) : sh a ⟨(cutL z.cps.toList none (some (a : Int))).toArray⟩ := by
  refine ⟨?_, asc_cut h _ _⟩
  rw [← slen]
  show (cutL z.cps.toList none (some (a : Int))).length ≤ a
  unfold cutL HT.sIx
  rw [List.length_take]
  simp
  rw [if_neg (by omega)]
  omega
theorem cutB {z : Str} (h : Asc z) {a b : Nat} (hab : a ≤ b) : sh (b - a) ⟨(cutL z.cps.toList (some (a : Int)) (some (b : Int))).toArray⟩ := by
  refine ⟨?_, asc_cut h _ _⟩
  rw [← slen]
  show (cutL z.cps.toList (some (a : Int)) (some (b : Int))).length ≤ b - a
  rw [cutL_nat _ hab, List.length_take]
  omega
theorem cutC {z : Str} (h : Asc z) (a : Nat) : sh (z.length - a) ⟨(cutL z.cps.toList (some (a : Int)) none).toArray⟩ := by
  refine ⟨?_, asc_cut h _ _⟩
  rw [← slen]
  show (cutL z.cps.toList (some (a : Int)) none).length ≤ z.length - a
  rw [cutL_dr, List.length_drop, slen]
  exact Nat.le_refl _
theorem sh.ln {n m : Nat} {a b : Str} (h : sh n a) (g : sh m b) (hn : n + m ≤ 1000) : a.length + b.length ≤ sizeLine := small (by have := h.1; have := g.1; omega)
theorem sign_ok : ∀ s ∈ ([" '':0189", "abzAZ.,-~\"#"] : List Str), 8 ≤ s.length ∧ s.length ≤ 20 ∧ ∀ c ∈ s.cps.toList, 32 ≤ c ∧ c ≤ 126 ∧ c ≠ 37 := by decide +kernel
section
variable {P : Program} {w : World} {K : PySem.W.Frag} {mg : Str → Option Value} {base : Heap} {f : Addr} {fd : FuncData}
theorem scBe : FnScope ["_law_line_here", "_law_draws_here", "_law_number_here", "_law_at", "_law_one", "_law_sign", "_law_turn", "_law_turned"] ["_law_line_here", "_law_draws_here"] (defScope sBe) := ⟨rfl, rfl, rfl, by decide +kernel, rfl, by decide +kernel, by decide +kernel⟩
theorem ok_be {gp go : Addr} {dp do' : FuncData} (F : Fun K "_law_bent" "_law_bent" sBe f fd) (T : Txt mg) (GP : FnOk P w K mg base CX0 1 gp dp ["_law_draws_here"] spPop) (bP : Binds K dp ["_law_draws_here"] []) (kP : PySem.W.keepIn K (.ref gp) = true) (mP : mg "_law_pop" = some (.ref gp))
    (GOd : FnOk P w K mg base CX0 1 go do' ["_law_number_here"] spOdd) (bOd : Binds K do' ["_law_number_here"] []) (kOd : PySem.W.keepIn K (.ref go) = true) (mOd : mg "_law_odd" = some (.ref go)) : FnOk P w K mg base CX0 2 f fd ["_law_line_here", "_law_draws_here"] spBe := by
  refine F.ok scBe (fun vs H Q E h => ?_) (fun cdv A outer s H vs Q E hr h => ?_)
  · obtain ⟨z, d, ns, rfl, _⟩ := h
    rfl
  obtain ⟨z, d, ns, rfl, hz, hA, hd, q⟩ := h
  have hr1 : Room 1 _ := hr
  have zs : z.length ≤ sizeLine := small (by omega)
  refine ⟨_, (pss_cons (ps_set (i := 2) scBe.nd rfl (Or.inl rfl) (pe_call GP hr1 rfl mP kP bP .nil pass0 (pa_cons (pv 1) pa_nil)))
    (pss_cons (ps_set (i := 3) scBe.nd rfl (Or.inl rfl) (pe_op op_mod (pe_call GP hr1 rfl mP kP bP .nil pass0 (pa_cons (pv 1) pa_nil)) (pe_op op_add (pe_callB call_len_str rfl T.len PySem.boot_len (pa_cons (pv 0) pa_nil)) pe_int)))
    (pss_cons (ps_set (i := 4) scBe.nd rfl (Or.inl rfl) (pe_call GP hr1 rfl mP kP bP .nil pass0 (pa_cons (pv 1) pa_nil)))
    (pss_cons (ps_set (i := 5) scBe.nd rfl (Or.inl rfl) (pe_ix ix_str (pe_ix (ixL K) (pe_lst (pa_cons pe_str (pa_cons pe_str pa_nil))) (pe_op op_mod (pv 4) pe_int) (fun _ _ => rfl)) (pe_op op_mod (pe_op op_fdiv (pv 4) pe_int) pe_int) (fun _ _ => rfl)))
    (pss_cons (ps_set (i := 6) scBe.nd rfl (Or.inl rfl) (pe_op op_mod (pv 2) pe_int))
    (pss_cons (ps_if (pt_cmpR op_lt (pv 6) pe_int (nomark _)) (pss_one (ps_ret (pe_op op_add_str (pe_op op_add_str (pe_slice sl_str (pv 0) po_none (po_some (pv 3))) (pv 5)) (pe_slice sl_str (pv 0) (po_some (pv 3)) po_none)))) pss_nil)
    (pss_cons (ps_if (pt_cmpR op_lt (pv 6) pe_int (nomark _)) (pss_one (ps_ret (pe_op op_add_str (pe_op op_add_str (pe_slice sl_str (pv 0) po_none (po_some (pv 3))) (pv 5)) (pe_slice sl_str (pv 0) (po_some (pe_op op_add (pv 3) pe_int)) po_none)))) pss_nil)
    (pss_cons (ps_if (pt_cmpR op_eq (pv 6) pe_int (nomark _)) (pss_one (ps_ret (pe_op op_add_str (pe_slice sl_str (pv 0) po_none (po_some (pv 3))) (pe_slice sl_str (pv 0) (po_some (pe_op op_add (pv 3) pe_int)) po_none)))) pss_nil)
    (pss_cons (ps_if (pt_cmpR op_eq (pv 6) pe_int (nomark _)) (pss_cons (ps_set (i := 7) scBe.nd rfl (Or.inl rfl) (pe_op op_add_str (pe_slice sl_str (pv 0) (po_some (pe_op op_add (pv 3) pe_int)) (po_some (pe_op op_add (pv 3) pe_int))) (pe_slice sl_str (pv 0) (po_some (pv 3)) (po_some (pe_op op_add (pv 3) pe_int)))))
    (pss_one (ps_ret (pe_op op_add_str (pe_op op_add_str (pe_slice sl_str (pv 0) po_none (po_some (pv 3))) (pv 7)) (pe_slice sl_str (pv 0) (po_some (pe_op op_add (pv 3) pe_int)) po_none))))) pss_nil)
    (pss_cons (ps_if (pt_cmpR op_eq (pv 6) pe_int (nomark _)) (pss_one (ps_ret (pe_slice sl_str (pv 0) po_none (po_some (pv 3))))) pss_nil)
    (pss_cons (ps_if (pt_cmpR op_eq (pv 6) pe_int (nomark _)) (pss_one (ps_ret (pe_call GOd hr1 rfl mOd kOd bOd .nil pass0 (pa_cons (pv 4) pa_nil)))) pss_nil)
    (pss_one (ps_ret (pv 0)))))))))))))), ?_⟩
  simpa only [spPop, spOdd]
  refine ⟨ns, hd, fun ⟨num, _⟩ ns1 H1 s1 hd1 => ⟨ns1, hd1, fun ⟨two, _⟩ ns2 H2 s2 hd2 => ⟨zs, by omega, ns2, hd2, fun ⟨one, _⟩ ns3 H3 s3 hd3 => ⟨by decide, fun p hp => ⟨by decide, _, SqL.of upd_same, ?_⟩⟩⟩⟩⟩
  have x0 := Int.emod_nonneg one (show (2 : Int) ≠ 0 by decide)
  have x1 := Int.emod_lt_of_pos one (show (0 : Int) < 2 by decide)
  obtain ⟨v, hv, hv'⟩ := atI_of (xs := ([" '':0189", "abzAZ.,-~\"#"] : List Str).map V.str) x0 x1
  obtain ⟨sg, hsg, rfl⟩ := List.mem_map.mp (List.mem_of_getElem? hv')
  obtain ⟨g1, g2, g3⟩ := sign_ok sg hsg
  have y0 := Int.emod_nonneg (one / 2) (show (8 : Int) ≠ 0 by decide)
  have y1 := Int.emod_lt_of_pos (one / 2) (show (0 : Int) < 8 by decide)
  obtain ⟨c, hc, hc'⟩ := atI_of (xs := sg.cps.toList) y0 (by rw [slen]; omega)
  have w0 := Int.emod_nonneg two (show ((z.length : Int) + 1) ≠ 0 by omega)
  have w1 := Int.emod_lt_of_pos two (show (0 : Int) < (z.length : Int) + 1 by omega)
  obtain ⟨a, ha⟩ : ∃ a : Nat, two % ((z.length : Int) + 1) = (a : Int) := ⟨(two % ((z.length : Int) + 1)).toNat, by omega⟩
  have sM := s1.trans (s2.trans (s3.trans (SameX.of (same_new hp (.lst [V.str " '':0189", V.str "abzAZ.,-~\"#"])))))
  have hS : sh 1 ⟨#[c]⟩ := ⟨Nat.le_refl _, fun x hx => by
    have : x = c := by simpa using hx
    rw [this]
    exact g3 c (List.mem_of_getElem? hc')⟩
  refine ⟨_, hv, ⟨by decide, by decide⟩, by decide, sg, rfl, small (by omega), c, hc, by decide, ?_⟩
  have fin : ∀ (n : Nat) (z' : Str), sh n z' → n ≤ 500 → Q (.str z') _ := fun n z' h hn => q z' _ sM (Nat.le_trans h.1 hn) h.2
  generalize upd H3 p (.lst [V.str " '':0189", V.str "abzAZ.,-~\"#"]) = M at sM fin ⊢
  rw [ha] at w1 ⊢
  have c1 : (a : Int) + 1 = ((a + 1 : Nat) : Int) := by omega
  have c2 : (a : Int) + 2 = ((a + 2 : Nat) : Int) := by omega
  rw [c1, c2]
  have A := cutA hA a
  have B1 := cutB hA (a := a + 1) (b := a + 2) (by omega)
  have B2 := cutB hA (a := a) (b := a + 1) (by omega)
  have C0 := cutC hA a
  have C1 := cutC hA (a + 1)
  have C2 := cutC hA (a + 2)
  refine ite2 (fun _ => ⟨zs, A.ln hS (by omega), zs, (A.app hS).ln C0 (by omega), fin _ _ ((A.app hS).app C0) (by omega)⟩) fun _ => ite2 (fun _ => ⟨zs, A.ln hS (by omega), zs, (A.app hS).ln C1 (by omega), fin _ _ ((A.app hS).app C1) (by omega)⟩) fun _ => ?_
  refine ite2 (fun _ => ⟨zs, zs, A.ln C1 (by omega), fin _ _ (A.app C1) (by omega)⟩) fun _ => ite2 (fun _ => ⟨zs, zs, B1.ln B2 (by omega), zs, A.ln (B1.app B2) (by omega), zs, (A.app (B1.app B2)).ln C2 (by omega), fin _ _ ((A.app (B1.app B2)).app C2) (by omega)⟩) fun _ => ?_
  refine ite2 (fun _ => ⟨zs, fin _ _ A (by omega)⟩) fun _ => ite2 (fun _ => fun y M' sM' h1 h2 => ?_) fun _ => ?_
  · exact q y M' (sM.trans (SameX.of sM')) (by omega) h2
  · exact fin 400 z ⟨hz, hA⟩ (by decide)
end
structure XNm (mg : Str → Option Value) (FE NF NM NB ND NS NQ NP NL NT : Addr) : Prop where
  fe : mg "FindError" = some (.ref FE)
  nf : mg "NoField" = some (.ref NF)
  nm : mg "NoMake" = some (.ref NM)
  nb : mg "NoBytes" = some (.ref NB)
  nd : mg "NoDocument" = some (.ref ND)
  ns : mg "NoStamp" = some (.ref NS)
  nq : mg "NoPiece" = some (.ref NQ)
  np : mg "NoPattern" = some (.ref NP)
  nl : mg "NoLine" = some (.ref NL)
  nt : mg "NoText" = some (.ref NT)
structure XIs (K : PySem.W.Frag) (NF NM NB ND NS NQ NP NL NT : Addr) (t : Value) (b : Bool) : Prop where
  nf : PySem.W.kitOne K t (.ref NF) = some false
  nm : PySem.W.kitOne K t (.ref NM) = some false
  nb : PySem.W.kitOne K t (.ref NB) = some false
  nd : PySem.W.kitOne K t (.ref ND) = some false
  ns : PySem.W.kitOne K t (.ref NS) = some false
  nq : PySem.W.kitOne K t (.ref NQ) = some false
  np : PySem.W.kitOne K t (.ref NP) = some false
  nl : PySem.W.kitOne K t (.ref NL) = some b
  nt : PySem.W.kitOne K t (.ref NT) = some false
  ve : PySem.W.kitOne K t (.type "ValueError") = some b
section
variable {P : Program} {w : World} {K : PySem.W.Frag} {mg : Str → Option Value} {base : Heap} {f : Addr} {fd : FuncData} {FE NF NM NB ND NS NQ NP NL NT : Addr}
def kindL (b : Bool) : List V := if b then [.str "line"] else []
def spKind (NL : Addr) : Sp := fun vs H Q _ => ∃ (x : V) (b : Bool), vs = [x] ∧ ((b = false ∧ x = .non) ∨ (b = true ∧ ∃ e, x = .ref e ∧ H e = some (XO e (.ref NL) none))) ∧ ∀ p, H p = none → Q (.ref p) (upd H p (.lst (kindL b)))
theorem scKi : FnScope ["_law_error", "_law_found"] ["_law_error"] (defScope sKi) := ⟨rfl, rfl, rfl, by decide +kernel, rfl, by decide +kernel, by decide +kernel⟩
theorem ok_kind (F : Fun K "_law_kind" "_law_kind" sKi f fd) (T : Txt mg) (xn : XNm mg FE NF NM NB ND NS NQ NP NL NT) (x0 : XIs K NF NM NB ND NS NQ NP NL NT (.type "NoneType") false) (x1 : XIs K NF NM NB ND NS NQ NP NL NT (.ref NL) true) (xa : XAttr K NL) : FnOk P w K mg base CX0 1 f fd ["_law_error"] (spKind NL) := by
  obtain ⟨mFE, mNF, mNM, mNB, mND, mNS, mNQ, mNP, mNL, mNT⟩ := xn
  refine F.ok scKi (fun vs H Q E h => ?_) (fun cdv A outer s H vs Q E hr h => ?_)
  · obtain ⟨x, b, rfl, _⟩ := h
    rfl
  obtain ⟨x, b, rfl, hx, q⟩ := h
  refine ⟨_, (pss_cons (ps_set (i := 1) scKi.nd rfl (Or.inl rfl) (pe_lst pa_nil))
    (pss_cons (ps_if (pt_val (pe_callB (call_isiX K) rfl T.isinstance (by decide +kernel) (pa_cons (pv 0) (pa_cons (pe_gref rfl mNF) pa_nil)))) (pss_one ps_never) pss_nil)
    (pss_cons (ps_if (pt_val (pe_callB (call_isiX K) rfl T.isinstance (by decide +kernel) (pa_cons (pv 0) (pa_cons (pe_gref rfl mNM) pa_nil)))) (pss_one ps_never) pss_nil)
    (pss_cons (ps_if (pt_val (pe_callB (call_isiX K) rfl T.isinstance (by decide +kernel) (pa_cons (pv 0) (pa_cons (pe_gref rfl mNB) pa_nil)))) (pss_one ps_never) pss_nil)
    (pss_cons (ps_if (pt_val (pe_callB (call_isiX K) rfl T.isinstance (by decide +kernel) (pa_cons (pv 0) (pa_cons (pe_gref rfl mND) pa_nil)))) (pss_one ps_never) pss_nil)
    (pss_cons (ps_if (pt_val (pe_callB (call_isiX K) rfl T.isinstance (by decide +kernel) (pa_cons (pv 0) (pa_cons (pe_gref rfl mNS) pa_nil)))) (pss_one ps_never) pss_nil)
    (pss_cons (ps_if (pt_val (pe_callB (call_isiX K) rfl T.isinstance (by decide +kernel) (pa_cons (pv 0) (pa_cons (pe_gref rfl mNQ) pa_nil)))) (pss_one ps_never) pss_nil)
    (pss_cons (ps_if (pt_val (pe_callB (call_isiX K) rfl T.isinstance (by decide +kernel) (pa_cons (pv 0) (pa_cons (pe_gref rfl mNP) pa_nil)))) (pss_one ps_never) pss_nil)
    (pss_cons (ps_if (pt_val (pe_callB (call_isiX K) rfl T.isinstance (by decide +kernel) (pa_cons (pv 0) (pa_cons (pe_gref rfl mNL) pa_nil)))) (pss_one (ps_expr (bmK K PySem.F.plainAttrs_list PySem.F.slot_list_append PySem.F.type_list_append mt_append (pv 1) (pa_cons pe_str pa_nil)))) pss_nil)
    (pss_cons (ps_if (pt_val (pe_callB (call_isiX K) rfl T.isinstance (by decide +kernel) (pa_cons (pv 0) (pa_cons (pe_gref rfl mNT) pa_nil)))) (pss_one ps_never) pss_nil)
    (pss_cons (ps_if (PW.pt (pw_and (pt_cmpR op_notN (pv 0) pe_non (nomark _)) (pw_and1 (pt_not (pt_val (pe_callB (call_isiX K) rfl T.isinstance (by decide +kernel) (pa_cons (pv 0) (pa_cons (pe_bltn (v := .ty "ValueError") rfl T.valueError (by decide +kernel) rfl) pa_nil)))))))) (pss_one ps_never) pss_nil)
    (pss_cons (ps_if (PW.pt (pw_and (pt_cmpR op_eq (pe_callB (lenK K) rfl T.len PySem.boot_len (pa_cons (pv 1) pa_nil)) pe_int (nomark _)) (pw_and1 (pt_val (pe_callB (call_isi K) rfl T.isinstance (by decide +kernel) (pa_cons (pe_ix (ixL K) (pv 1) pe_int (fun _ _ => rfl)) (pa_cons (pe_bltn (v := .ty "bool") rfl T.bool (by decide +kernel) rfl) pa_nil))))))) (pss_one ps_never) pss_nil)
    (pss_one (ps_ret (pv 1))))))))))))))), ?_⟩
  simpa only [tNever]
  refine ⟨by decide, fun p hp => ?_⟩
  rcases hx with ⟨rfl, rfl⟩ | ⟨rfl, e, rfl, he⟩
  · have t : ∀ L, TyX K L V.non (.type "NoneType") := fun L => .inl ⟨rfl, rfl⟩
    refine ⟨_, t _, _, .inl x0.nf, iteF ⟨_, t _, _, .inl x0.nm, iteF ⟨_, t _, _, .inl x0.nb, iteF ⟨_, t _, _, .inl x0.nd, iteF ⟨_, t _, _, .inl x0.ns, iteF ⟨_, t _, _, .inl x0.nq, iteF ⟨_, t _, _, .inl x0.np, iteF ⟨_, t _, _, .inl x0.nl, iteF ⟨_, t _, _, .inl x0.nt, iteF ?_⟩⟩⟩⟩⟩⟩⟩⟩⟩
    rw [if_neg (by decide)]
    exact ⟨[], .inl (SqL.of upd_same), by rw [if_neg (by decide)]; exact q p hp⟩
  · have t : ∀ L, Same H L → TyX K L (V.ref e) (.ref NL) := fun L sL => .inr ⟨e, NL, none, rfl, rfl, sL _ _ he, (fun a z => by cases z), xa⟩
    have t0 := t _ (same_new hp (.lst []))
    have t1 := t _ ((same_new hp (.lst [])).newer hp (.lst ([] ++ [V.str "line"])))
    refine ⟨_, t0, _, .inl x1.nf, iteF ⟨_, t0, _, .inl x1.nm, iteF ⟨_, t0, _, .inl x1.nb, iteF ⟨_, t0, _, .inl x1.nd, iteF ⟨_, t0, _, .inl x1.ns, iteF ⟨_, t0, _, .inl x1.nq, iteF ⟨_, t0, _, .inl x1.np, iteF ⟨_, t0, _, .inl x1.nl, iteT ⟨.inl ⟨rfl, _, SqL.of upd_same⟩, _, upd_same, by decide, _, t1, _, .inl x1.nt, iteF ?_⟩⟩⟩⟩⟩⟩⟩⟩⟩
    rw [if_pos (by simp)]
    refine ⟨_, t1, true, .inr ⟨_, rfl, x1.ve⟩, ?_⟩
    rw [if_neg (by decide)]
    refine ⟨_, .inl (SqL.of upd_same), ?_⟩
    rw [if_neg (by decide), upd_upd]
    exact q p hp
theorem scRef : FnScope ["_law_line_here", "_law_caught", "e"] ["_law_line_here"] (defScope sRef) := ⟨rfl, rfl, rfl, by decide +kernel, rfl, by decide +kernel, by decide +kernel⟩
def spRef : Sp := fun vs H Q _ => ∃ z : Str, vs = [.str z] ∧ z.length ≤ 1000 ∧ Asc z ∧ ((∃ nm as, rdD z.cps.toList nm as) → ∀ (r : Addr) (H' : Hp), Same H H' → H r = none → H' r = some (.lst []) → Q (.ref r) H') ∧ ((∀ nm as, ¬ rdD z.cps.toList nm as) → ∀ (r : Addr) (H' : Hp), Same H H' → H r = none → H' r = some (.lst [.str "line"]) → Q (.ref r) H')
theorem ok_ref {gf gk : Addr} {df dk : FuncData} (F : Fun K "_law_refused" "_law_refused" sRef f fd) (T : Txt mg) (mFE : mg "FindError" = some (.ref FE)) (xFE : XCatch K FE) (hfe : PySem.W.mroIn K NL (.ref FE) = some true) (GRd : FnOk P w K mg base (CXe P w) 5 gf df ["line"] (spRD NL)) (bRd : Binds K df ["line"] []) (kRd : PySem.W.keepIn K (.ref gf) = true) (mRd : mg "read_deed" = some (.ref gf))
    (GKi : FnOk P w K mg base CX0 1 gk dk ["_law_error"] (spKind NL)) (bKi : Binds K dk ["_law_error"] []) (kKi : PySem.W.keepIn K (.ref gk) = true) (mKi : mg "_law_kind" = some (.ref gk)) : FnOk P w K mg base CX0 6 f fd ["_law_line_here"] spRef := by
  refine F.ok scRef (fun vs H Q E h => ?_) (fun cdv A outer s H vs Q E hr h => ?_)
  · obtain ⟨z, rfl, _⟩ := h
    rfl
  obtain ⟨z, rfl, hz, hA, q, qn⟩ := h
  have hr1 : Room 1 _ := hr.mono (show 1 ≤ 5 by decide)
  refine ⟨_, (pss_cons (ps_set (i := 1) scRef.nd rfl (Or.inl rfl) pe_non)
    (pss_cons (ps_tryAs (i := 2) rfl rfl rfl mFE xFE scRef.nd rfl rfl (fun _ _ => pss_one (ps_expr (pe_callT GRd hr rfl mRd kRd bRd (pa_cons (pv 0) pa_nil)))) (fun _ => pss_one (ps_set (i := 1) scRef.nd rfl (Or.inl rfl) (pv 2))))
    (pss_one (ps_ret (pe_call GKi hr1 rfl mKi kKi bKi .nil pass0 (pa_cons (pv 1) pa_nil)))))), ?_⟩
  simpa only [tTry, tCallT, spKind, spRD]
  refine ⟨hz, hA, fun nm as rd p xs H' s' _ _ _ _ => ⟨false, .inl rfl, fun r hr0 => q ⟨nm, as, rd⟩ r _ (s'.trans (same_new hr0 _)) (s'.free hr0) upd_same⟩, fun σ' e H' => σ' = [some (.str z), some .non, none] ∧ (∀ nm as, ¬ rdD z.cps.toList nm as) ∧ Same H H' ∧ H e = none ∧ H' e = some (XO e (.ref NL) none), ⟨fun v _ H' => ∃ e, v = .ref e ∧ (∀ nm as, ¬ rdD z.cps.toList nm as) ∧ Same H H' ∧ H e = none ∧ H' e = some (XO e (.ref NL) none), fun no e H' s' he hx => ⟨e, rfl, no, s', he, hx⟩, ?_⟩, ?_⟩
  · rintro e H' ⟨e', he', h⟩
    cases he'
    exact ⟨rfl, h⟩
  · rintro σ' e C dx H' ⟨rfl, ho, s', he, hx⟩ hC
    have hh := (XO_inj (Option.some.inj (hx.symm.trans hC))).1
    exact ⟨NL, hh.symm, hfe, .ref e, rfl, .ref e, rfl, true, .inr ⟨rfl, e, rfl, hx⟩, fun r hr0 => qn ho r _ (s'.trans (same_new hr0 _)) (s'.free hr0) upd_same⟩
end
theorem ok_fs : ∀ dc : List Fld, okDs (dc.map dvF) = true
  | [] => rfl
  | x :: r => by rw [List.map_cons, okDs, ok_fs r]; rfl
theorem dep_fs (dc : List Fld) : deps (dc.map dvF) ≤ 1 := deps_le fun d hd => by
  obtain ⟨x, _, rfl⟩ := List.mem_map.mp hd
  exact Nat.le_refl _
theorem ok_as : ∀ as : List KU.Arg, (∀ a ∈ as, okA1 a) → okDs (as.map dvA) = true
  | [], _ => rfl
  | .num n :: r, h => by
    rw [List.map_cons, okDs, ok_as r fun a ha => h a (List.mem_cons_of_mem _ ha)]
    rfl
  | .doc dc :: r, h => by
    have hd : Doc1 dc := h _ List.mem_cons_self
    have h20 := hd.2.1
    rw [List.map_cons, okDs, ok_as r fun a ha => h a (List.mem_cons_of_mem _ ha)]
    show (okD (.lst (dc.map dvF)) && true) = true
    rw [okD, ok_fs, Bool.and_true, Bool.and_true]
    exact decide_eq_true (by rw [List.length_map]; omega)
theorem dep_as (as : List KU.Arg) : deps (as.map dvA) ≤ 2 := deps_le fun d hd => by
  obtain ⟨x, _, rfl⟩ := List.mem_map.mp hd
  cases x with
  | num n => exact Nat.zero_le _
  | doc dc =>
    have := dep_fs dc
    show dep (.lst (dc.map dvF)) ≤ 2
    rw [dep]
    omega
theorem ok_dd {nm : Str} {as : List KU.Arg} (hG : Good1 nm as) : okD (.tup (dvD nm as)) = true := by
  have := (tab_args hG.1).1
  rw [List.length_map] at this
  rw [okD, dvD, okDs, ok_as as hG.2]
  show (decide ((DV.str nm :: as.map dvA).length ≤ 100000) && true) = true
  rw [Bool.and_true]
  exact decide_eq_true (by rw [List.length_cons, List.length_map]; omega)
theorem dep_dd (nm : Str) (as : List KU.Arg) : dep (.tup (dvD nm as)) ≤ 3 := by
  have := dep_as as
  rw [dep, dvD, deps]
  have h0 : dep (.str nm) = 0 := by simp [dep]
  rw [h0]
  omega
theorem deep_tup {H : Hp} {p : Addr} {ds : List DV} {xs : List V} (h : H p = some (.tup xs)) (t : DeepTs H ds xs) : DeepT H (.tup ds) (.ref p) := by
  rw [DeepT]
  exact ⟨p, xs, rfl, h, t⟩
theorem sql_same {K : PySem.W.Frag} {H H' : Hp} {a : Addr} {xs : List V} (e : Same H H') (h : SqL K H a xs) : SqL K H' a xs := by
  rcases h with (h | ⟨o, h⟩) | h
  · exact .inl (.inl (e _ _ h))
  · exact .inl (.inr ⟨o, e _ _ h⟩)
  · exact .inr h
theorem digs_inj {n m : Int} (n0 : 0 ≤ n) (n1 : n < 10 ^ 60) (m0 : 0 ≤ m) (m1 : m < 10 ^ 60) (h : digs n = digs m) : n = m := by
  have h1 := int_of (z := ⟨(digs n).toArray⟩) rfl n0 n1
  have h2 := int_of (z := ⟨(digs n).toArray⟩) (by rw [← h]) m0 m1
  rw [h1] at h2
  exact Option.some.inj h2
theorem rdA_fun {k : Str} {l : List Nat} {a b : KU.Arg} (h : rdA k l a) (g : rdA k l b) : a = b := by
  cases a with
  | num n =>
    cases b with
    | num m => rw [digs_inj h.2.1 h.2.2.1 g.2.1 g.2.2.1 (h.2.2.2.symm.trans g.2.2.2)]
    | doc d => exact absurd (h.1.symm.trans g.1) not_nf
  | doc d =>
    cases b with
    | num m => exact absurd (g.1.symm.trans h.1) not_nf
    | doc e =>
      have : d = e := by
        rcases h.2 with ⟨_, h1⟩ | ⟨h0, h1, _⟩
        · rcases g.2 with ⟨_, g1⟩ | ⟨g0, _⟩
          · rw [h1, g1]
          · rename_i h0 _; exact absurd h0 g0
        · rcases g.2 with ⟨g0, _⟩ | ⟨_, g1, _⟩
          · exact absurd g0 h0
          · rw [h1] at g1
            exact pair_inj d e (Option.some.inj g1)
      rw [this]
theorem rdAs_fun : ∀ {ks : List Str} {ls : List (List Nat)} {as bs : List KU.Arg}, rdAs ks ls as → rdAs ks ls bs → as = bs
  | [], [], [], [], _, _ => rfl
  | k :: ks, l :: ls, a :: as, b :: bs, h, g => by rw [rdA_fun h.1 g.1, rdAs_fun h.2 g.2]
  | [], _ :: _, _, _, h, _ => h.elim
  | [], [], _ :: _, _, h, _ => h.elim
  | [], [], [], _ :: _, _, g => g.elim
  | _ :: _, [], _, _, h, _ => h.elim
  | _ :: _, _ :: _, [], _, h, _ => h.elim
  | _ :: _, _ :: _, _ :: _, [], _, g => g.elim
theorem rdD_fun {l : List Nat} {nm nm' : Str} {as as' : List KU.Arg} (h : rdD l nm as) (g : rdD l nm' as') : nm = nm' ∧ as = as' := by
  obtain ⟨ks, ps, h1, h2, h3⟩ := h
  obtain ⟨ks', ps', g1, g2, g3⟩ := g
  obtain ⟨r, e1⟩ := rdD_first h1 h2 0
  obtain ⟨r', e2⟩ := rdD_first g1 g2 0
  rw [e1] at e2
  have e3 : nm = nm' := sx (List.cons.inj e2).1
  subst e3
  obtain rfl := tab_fun h1 g1
  rw [h2] at g2
  obtain rfl := (List.cons.inj g2).2
  exact ⟨rfl, rdAs_fun h3 g3⟩
def spRD0 : Sp := fun vs H Q _ => ∃ z : Str, vs = [.str z] ∧ z.length ≤ 1000 ∧ Asc z ∧ (∃ nm as, rdD z.cps.toList nm as) ∧ (∀ (nm : Str) (as : List KU.Arg), rdD z.cps.toList nm as → ∀ (p : Addr) (xs : List V) (H' : Hp), Same H H' → H p = none → H' p = some (.tup xs) → DeepTs H' (dvD nm as) xs → Q (.ref p) H')
theorem rd_calm {P : Program} {w : World} {K : PySem.W.Frag} {mg : Str → Option Value} {base : Heap} {g NL : Addr} {gd : FuncData} (G : FnOk P w K mg base (CXe P w) 5 g gd ["line"] (spRD NL)) : FnOk P w K mg base CX0 5 g gd ["line"] spRD0 :=
  G.calm fun vs H Q E ⟨z, e, h1, h2, ⟨nm, as, h3⟩, q⟩ => ⟨z, e, h1, h2, fun nm as r p xs H' s hp hx hd _ => q nm as r p xs H' s hp hx hd, fun no => absurd h3 (no nm as)⟩
theorem look_calm {P : Program} {w : World} {K : PySem.W.Frag} {mg : Str → Option Value} {base : Heap} {g NF : Addr} {gd : FuncData} (G : FnOk P w K mg base (CXe P w) 3 g gd ["document"] (spLook NF)) : FnOk P w K mg base CX0 3 g gd ["document"] spLook0 :=
  G.calm fun vs H Q E ⟨a, d, xs, e, h1, h2, h3, h4, h5, q⟩ => ⟨a, d, xs, e, h1, h2, h3, h4, by rw [h5]; exact q⟩
section
variable {P : Program} {w : World} {K : PySem.W.Frag} {mg : Str → Option Value} {base : Heap} {f : Addr} {fd : FuncData}
theorem scL : FnScope ["_law_script", "_law_draws_here", "_law_line_here", "_law_due", "_law_found"] ["_law_script"] (defScope sLaw) := ⟨rfl, rfl, rfl, by decide +kernel, rfl, by decide +kernel, by decide +kernel⟩
def spLaw (K : PySem.W.Frag) : Sp := fun vs H Q _ => ∃ (a : Addr) (ns : List Int), vs = [.ref a] ∧ SqL K H a (ns.map V.int) ∧ ns.length ≤ 63 ∧ ∀ H', Q (.bl true) H'
def invPp (d : Addr) (H : Hp) (i : Nat) (ys : List V) (σ : St) (L : Hp) : Prop := ∃ (ms ns : List D31) (v0 : Option V), ys = ms.map dI ∧ ms.length = i ∧ σ = [v0, some (.ref d)] ∧ L d = some (.lst (ns.map dI))
theorem ok_law {gd gp ge gl gb gi gr gf gs ga : Addr} {dd dp de dl db di dr df ds da : FuncData} (F : Fun K "law" "law" sLaw f fd) (T : Txt mg)
    (GD : FnOk P w K mg base CX0 1 gd dd ["_law_script", "_law_turn", "_law_many"] (spDraws K)) (bD : Binds K dd ["_law_script", "_law_turn", "_law_many"] []) (kD : PySem.W.keepIn K (.ref gd) = true) (mD : mg "_law_draws" = some (.ref gd))
    (GP : FnOk P w K mg base CX0 1 gp dp ["_law_draws_here"] spPop) (bP : Binds K dp ["_law_draws_here"] []) (kP : PySem.W.keepIn K (.ref gp) = true) (mP : mg "_law_pop" = some (.ref gp))
    (GDe : FnOk P w K mg base CX0 4 ge de ["_law_script", "_law_draws_here"] (spDeed K)) (bDe : Binds K de ["_law_script", "_law_draws_here"] []) (kDe : PySem.W.keepIn K (.ref ge) = true) (mDe : mg "_law_deed" = some (.ref ge))
    (GLi : FnOk P w K mg base CX0 1 gl dl ["_law_deed_here"] spShD) (bLi : Binds K dl ["_law_deed_here"] []) (kLi : PySem.W.keepIn K (.ref gl) = true) (mLi : mg "_law_line" = some (.ref gl))
    (GBe : FnOk P w K mg base CX0 2 gb db ["_law_line_here", "_law_draws_here"] spBe) (bBe : Binds K db ["_law_line_here", "_law_draws_here"] []) (kBe : PySem.W.keepIn K (.ref gb) = true) (mBe : mg "_law_bent" = some (.ref gb))
    (GEi : FnOk P w K mg base CX0 4 gi di ["_law_line_here"] spEI) (bEi : Binds K di ["_law_line_here"] []) (kEi : PySem.W.keepIn K (.ref gi) = true) (mEi : mg "_law_deed_in" = some (.ref gi))
    (GRr : FnOk P w K mg base CX0 6 gr dr ["_law_line_here"] spRef) (bRr : Binds K dr ["_law_line_here"] []) (kRr : PySem.W.keepIn K (.ref gr) = true) (mRr : mg "_law_refused" = some (.ref gr))
    (GRd : FnOk P w K mg base CX0 5 gf df ["line"] spRD0) (bRd : Binds K df ["line"] []) (kRd : PySem.W.keepIn K (.ref gf) = true) (mRd : mg "read_deed" = some (.ref gf))
    (GSd : FnOk P w K mg base CX0 5 gs ds ["deed"] spShD1) (bSd : Binds K ds ["deed"] []) (kSd : PySem.W.keepIn K (.ref gs) = true) (mSd : mg "show_deed" = some (.ref gs))
    (GA : FnOk P w K mg base CX0 4 ga da ["_law_found", "_law_due"] (spAlike 4)) (bA : Binds K da ["_law_found", "_law_due"] []) (kA : PySem.W.keepIn K (.ref ga) = true) (mA : mg "_law_alike" = some (.ref ga)) : FnOkL P w K mg base CX0 7 f fd ["_law_script"] (spLaw K) := by
  refine F.okL scL (fun vs H Q E h => ?_) (fun cdv A outer s H vs Q E hr h => ?_)
  · obtain ⟨a, ns, rfl, _⟩ := h
    rfl
  obtain ⟨a, ss, rfl, hS, hlen, q⟩ := h
  have hr1 : Room 1 _ := hr.mono (by decide)
  have hr2 : Room 2 _ := hr.mono (by decide)
  have hr4 : Room 4 _ := hr.mono (by decide)
  have hr5 : Room 5 _ := hr.mono (by decide)
  have hr6 : Room 6 _ := hr
  refine ⟨_, (pssW_cons (psW_call2 (i := 1) (iy := 0) GD hr1 rfl mD kD bD pass0 scL.nd rfl (Or.inr rfl) rfl rfl)
    (pss_cons (ps_set (i := 2) scL.nd rfl (Or.inl rfl) (pe_call GBe hr2 rfl mBe kBe bBe .nil pass0 (pa_cons (pe_call GLi hr1 rfl mLi kLi bLi .nil pass0 (pa_cons (pe_call GDe hr4 rfl mDe kDe bDe .nil pass0 (pa_cons (pv 0) (pa_cons (pv 1) pa_nil))) pa_nil)) (pa_cons (pe_comp (N := ["_law_k", "_law_draws_here"]) (pick := [none, some 1]) (NX := ["_law_script", "_law_draws_here", "_law_line_here", "_law_due", "_law_found"]) (sX := defScope sLaw) (by decide +kernel) rfl rfl rfl (pi_range1 rfl T.range (pa_cons pe_int pa_nil))
        (fun _ _ _ _ => (pg_name (i := 0) (by decide +kernel : (["_law_k", "_law_draws_here"] : List Str).Nodup) rfl (Or.inl rfl))) (fun _ _ _ _ => pifs_nil) (fun _ _ _ _ => (pe_call GP hr1 rfl mP kP bP .nil pass0 (pa_cons (pv 1) pa_nil)))) pa_nil))))
    (pss_cons (ps_set (i := 3) scL.nd rfl (Or.inl rfl) (pe_call GEi hr4 rfl mEi kEi bEi .nil pass0 (pa_cons (pv 2) pa_nil)))
    (pss_cons (ps_if (pt_cmpR op_isN (pv 3) pe_non (nomark _)) (pss_one (ps_ret (pe_cmpR (op_eqDK K hr1) (pe_call GRr hr6 rfl mRr kRr bRr .nil pass0 (pa_cons (pv 2) pa_nil)) (pe_lst (pa_cons pe_str pa_nil)) (nomark _)))) pss_nil)
    (pss_cons (ps_if (pt_cmpR (op_neE K hr1) (pe_call GRr hr6 rfl mRr kRr bRr .nil pass0 (pa_cons (pv 2) pa_nil)) (pe_lst pa_nil) (nomark _)) (pss_one (ps_ret pe_bl)) pss_nil)
    (pss_cons (ps_set (i := 4) scL.nd rfl (Or.inl rfl) (pe_call GRd hr5 rfl mRd kRd bRd .nil pass0 (pa_cons (pv 2) pa_nil)))
    (pss_one (ps_ret (pe_and (pe_call GA hr4 rfl mA kA bA .nil pass0 (pa_cons (pv 4) (pa_cons (pv 3) pa_nil))) (pe_one (pe_cmpR op_eq (pe_call GSd hr5 rfl mSd kSd bSd .nil pass0 (pa_cons (pv 4) pa_nil)) (pv 2) (nomark _)))))))))))), ?_⟩
  simpa only [spDraws, spPop, spDeed, spShD, spBe, spEI, spRef, spRD0, spShD1, spAlike]
  refine ⟨ss, hS, hlen, by decide, by decide, by decide, by decide, fun d ds0 H1 s1 f1 e1 => ⟨ss, ⟨hlen, fun L sL => sql_same (SameX.out s1 f1 sL) hS⟩, ds0, e1, fun p nm as xs ns2 H2 s2 hd2 hp hD hG hSm => ⟨nm, as, xs, hp, hD, hG, fun z H3 s3 hz => ⟨by decide, by decide, ?_⟩⟩⟩⟩
  have lo := line_ok hG hSm
  have hd3 := s3 _ _ hd2
  refine compW_range (lo := 0) (invPp d H3) ⟨[], ns2, none, rfl, rfl, rfl, hd3⟩ ?_ ?_ ?_
  · rintro i ys σ L hi ⟨ms, ns, v0, rfl, hm, rfl, hL⟩
    rw [List.length_map, hm]
    exact small (by omega)
  · rintro i ys σ L hi ⟨ms, ns, v0, rfl, hm, rfl, hL⟩
    simpa only [spPop]
    exact ⟨ns, hL, fun y ns' M sM hM => ⟨ms ++ [y], ns', _, by rw [List.map_append]; rfl, by rw [List.length_append, hm]; rfl, rfl, hM⟩⟩
  · rintro ys σ L ⟨ms, ns, v0, rfl, hm, rfl, hL⟩ pd hpd
    refine ⟨pd, rfl, by rw [← slen, hz]; exact lo.1, fun c hc => lo.2 c (by rw [← hz]; exact hc), ms, upd_same, fun z' M sM hz' hA' => ⟨by omega, hA', fun nm' as' rd p' xs' M2 s4 hp' hx' hdd => ?_, fun no M2 s4 => ?_⟩⟩
    · refine ite2 (fun c => absurd c (by simp)) fun _ => ⟨by omega, hA', fun _ r M3 s5 hr0 hr3 => ?_, fun no => absurd rd (no _ _)⟩
      refine ⟨by decide, fun pe he => ⟨[], SqL.of (upd_at hr3 he), SqL.of upd_same, iteF ⟨by omega, hA', ⟨nm', as', rd⟩, fun nm2 as2 rd2 p2 xs2 M4 s6 _ hx2 hd2' => ?_⟩⟩⟩
      obtain ⟨rfl, rfl⟩ := rdD_fun rd rd2
      have s26 : Same M2 M4 := s5.trans ((same_new he _).trans s6)
      have g1 := rdD_good rd hz' hA'
      have dd := dep_dd nm' as'
      refine ⟨.tup (dvD nm' as'), deep_tup hx2 hd2', deep_tup (s26 _ _ hx') (hdd.same s26), ok_dd g1, by omega, nm', as', xs2, hx2, hd2', g1, fun y M5 _ hy => ?_⟩
      have ey : y = z' := sx (by rw [hy]; exact (rdD_line rd).1)
      rw [decide_eq_true ey]
      exact q _
    · refine ite2 (fun _ => ⟨by omega, hA', fun ⟨nm', as', rd⟩ => absurd rd (no _ _), fun _ r M3 s5 hr0 hr3 => ⟨by decide, fun pe he => ⟨.lst [.str "line"], [.str "line"], .inl rfl, by simp [dep, deps], ?_, ?_, q _⟩⟩⟩) fun c => absurd (by simp) c
      · exact DeepT.deep _ _ (by rw [DeepT]; exact ⟨r, _, rfl, upd_at hr3 he, DeepTs.one (by rw [DeepT])⟩)
      · exact DeepT.deep _ _ (by rw [DeepT]; exact ⟨pe, _, rfl, upd_same, DeepTs.one (by rw [DeepT])⟩)
end
theorem val_row : ∀ {l : List (Str × Tok × Addr × List Str)}, (l.map (·.1)).Nodup → ∀ e ∈ l, valV (l.map fun e => ((Sum.inr e.1 : Key), V.ref e.2.2.1)) (.inr e.1) = some (.ref e.2.2.1)
  | [], _, e, he => by cases he
  | x :: l, nd, e, he => by
    rw [List.map_cons]
    rw [List.map_cons] at nd
    have nd' := List.nodup_cons.mp nd
    rcases List.mem_cons.mp he with rfl | he
    · exact valV_pos rfl
    · rw [valV_neg (fun y : (Sum.inr x.1 : Key) = Sum.inr e.1 => nd'.1 (by rw [Sum.inr.inj y]; exact List.mem_map.mpr ⟨e, he, rfl⟩))]
      exact val_row nd'.2 e he
theorem val_in : ∀ {l : List (Str × Tok × Addr × List Str)} {nm : Str}, (valV (l.map fun e => ((Sum.inr e.1 : Key), V.ref e.2.2.1)) (.inr nm)).isSome = true → ∃ e ∈ l, e.1 = nm
  | [], nm, h => by cases h
  | x :: l, nm, h => by
    by_cases hx : x.1 = nm
    · exact ⟨x, List.mem_cons_self, hx⟩
    · rw [List.map_cons, valV_neg (fun y : (Sum.inr x.1 : Key) = Sum.inr nm => hx (Sum.inr.inj y))] at h
      obtain ⟨e, he, h2⟩ := val_in h
      exact ⟨e, List.mem_cons_of_mem _ he, h2⟩
theorem deeds_of {P : Program} {w : World} {K : PySem.W.Frag} {mg : Str → Option Value} {d : Addr} {ep : Nat} {l : List (Str × Tok × Addr × List Str)} (sm : (d == sysModules) = false)
    (lk : K.lookup d = some { cls := .type "dict", data := .dict (l.map fun e => (⟨PyData.keyHash w.params e.1, .str e.1 e.2.1, .ref e.2.2.1⟩ : DictEntry)).toArray ep }) (ht : l.map (fun e => (e.1, e.2.2.2)) = tab)
    (hq : ∀ e ∈ l, ∀ H, SqT K H e.2.2.1 (e.2.2.2.map V.str)) : Deeds P w K mg d (l.map fun e => ((Sum.inr e.1 : Key), V.ref e.2.2.1)) := by
  have nd : (l.map (·.1)).Nodup := by
    have e1 : l.map (·.1) = tab.map (·.1) := by rw [← ht, List.map_map]; rfl
    rw [e1]
    decide +kernel
  constructor
  · have k := kd_list (P := P) (w := w) (K := K) (d := d) (ep := ep) (l := l.map fun e => (e.1, e.2.1, .ref e.2.2.1, .ref e.2.2.1)) sm (by rw [List.map_map]; exact lk) (fun e he => by
      obtain ⟨x, _, rfl⟩ := List.mem_map.mp he
      rfl) (by rw [List.map_map]; exact nd)
    rw [List.map_map] at k
    exact k
  · intro nm h
    obtain ⟨e, he, h2⟩ := val_in h
    exact ⟨e.2.2.2, by rw [← ht]; exact List.mem_map.mpr ⟨e, he, by rw [h2]⟩⟩
  · intro nm ks h
    rw [← ht] at h
    obtain ⟨e, he, y⟩ := List.mem_map.mp h
    obtain ⟨rfl, rfl⟩ := Prod.mk.inj y
    exact ⟨_, val_row nd e he, hq e he⟩
theorem sq0 {K : PySem.W.Frag} {a : Addr} {od : Option Addr} {n : Nat} {sl : Array (Option Value)} (h : K.lookup a = some ⟨.type "tuple", od, .seq #[] n, sl⟩) (H : Hp) : SqT K H a (([] : List Str).map V.str) :=
  .inr ⟨_, #[], n, h, rfl, rfl, by decide, .nil⟩
theorem sq1 {K : PySem.W.Frag} {a : Addr} {od : Option Addr} {n : Nat} {sl : Array (Option Value)} {x : Str} {t : Tok} (h : K.lookup a = some ⟨.type "tuple", od, .seq #[.str x t] n, sl⟩) (H : Hp) : SqT K H a ([x].map V.str) :=
  .inr ⟨_, #[.str x t], n, h, rfl, rfl, by show 1 ≤ sizeLine; decide, .cons ⟨_, rfl⟩ .nil⟩
theorem sq2 {K : PySem.W.Frag} {a : Addr} {od : Option Addr} {n : Nat} {sl : Array (Option Value)} {x y : Str} {t u : Tok} (h : K.lookup a = some ⟨.type "tuple", od, .seq #[.str x t, .str y u] n, sl⟩) (H : Hp) : SqT K H a ([x, y].map V.str) :=
  .inr ⟨_, #[.str x t, .str y u], n, h, rfl, rfl, by show 2 ≤ sizeLine; decide, .cons ⟨_, rfl⟩ (.cons ⟨_, rfl⟩ .nil)⟩
theorem sq_c {K : PySem.W.Frag} {x : Str × Tok × Addr × List Str} {l : List (Str × Tok × Addr × List Str)} (h : ∀ H, SqT K H x.2.2.1 (x.2.2.2.map V.str)) (t : ∀ e ∈ l, ∀ H, SqT K H e.2.2.1 (e.2.2.2.map V.str)) : ∀ e ∈ x :: l, ∀ H, SqT K H e.2.2.1 (e.2.2.2.map V.str) := fun e he => by
  rcases List.mem_cons.mp he with rfl | he
  · exact h
  · exact t e he
theorem all_mk {l : PySem.W.OpenLaw} {w : World} {K : PySem.W.Frag} {h : Heap} {mg : Str → Option Value} {fa f1 f2 f3 f4 f5 f6 f7 f8 f9 f10 f11 f12 f13 f14 f15 f16 f17 f18 f19 f20 f21 f22 f23 f24 f25 f26 f27 f28 f29 f30 f31 f32 fsXF FE NF NM NB ND NS NQ NP NL NT aD aT0 aT1 aT2 aT3 aT4 aT5 aT6 aT7 aT8 NsA NN : Addr} (X : K.In h) (G : h.Ns mainGlobals mg) (hfa : mg "law" = some (.ref fa))
    {od1 an1 od2 an2 od3 an3 od4 an4 od5 an5 od6 an6 od7 an7 od8 an8 od9 an9 od10 an10 od11 an11 od12 an12 od13 an13 od14 an14 od15 an15 od16 an16 od17 an17 od18 an18 od19 an19 od20 an20 od21 an21 od22 an22 od23 an23 od24 an24 od25 an25 od26 an26 od27 an27 od28 an28 od29 an29 od30 an30 od31 an31 od32 an32 odsXF ansXF : Option Addr} {sl1 sl2 sl3 sl4 sl5 sl6 sl7 sl8 sl9 sl10 sl11 sl12 sl13 sl14 sl15 sl16 sl17 sl18 sl19 sl20 sl21 sl22 sl23 sl24 sl25 sl26 sl27 sl28 sl29 sl30 sl31 sl32 slsXF : Array (Option Value)} {oc1 kV1 dc1 pm1 ct1 cd1 oc2 kV2 dc2 pm2 ct2 cd2 oc3 kV3 dc3 pm3 ct3 cd3 oc4 kV4 dc4 pm4 ct4 cd4 oc5 kV5 dc5 pm5 ct5 cd5 oc6 kV6 dc6 pm6 ct6 cd6 oc7 kV7 dc7 pm7 ct7 cd7 oc8 kV8 dc8 pm8 ct8 cd8 oc9 kV9 dc9 pm9 ct9 cd9 oc10 kV10 dc10 pm10 ct10 cd10 oc11 kV11 dc11 pm11 ct11 cd11 oc12 kV12 dc12 pm12 ct12 cd12 oc13 kV13 dc13 pm13 ct13 cd13 oc14 kV14 dc14 pm14 ct14 cd14 oc15 kV15 dc15 pm15 ct15 cd15 oc16 kV16 dc16 pm16 ct16 cd16 oc17 kV17 dc17 pm17 ct17 cd17 oc18 kV18 dc18 pm18 ct18 cd18 oc19 kV19 dc19 pm19 ct19 cd19 oc20 kV20 dc20 pm20 ct20 cd20 oc21 kV21 dc21 pm21 ct21 cd21 oc22 kV22 dc22 pm22 ct22 cd22 oc23 kV23 dc23 pm23 ct23 cd23 oc24 kV24 dc24 pm24 ct24 cd24 oc25 kV25 dc25 pm25 ct25 cd25 oc26 kV26 dc26 pm26 ct26 cd26 oc27 kV27 dc27 pm27 ct27 cd27 oc28 kV28 dc28 pm28 ct28 cd28 oc29 kV29 dc29 pm29 ct29 cd29 oc30 kV30 dc30 pm30 ct30 cd30 oc31 kV31 dc31 pm31 ct31 cd31 oc32 kV32 dc32 pm32 ct32 cd32 ocsXF kVsXF dcsXF pmsXF ctsXF cdsXF : Value} {tk0 tk1 tk2 tk3 tk4 : Tok}
    {tD0 tD1 tD2 tD3 tD4 tD5 tD6 tD7 tD8 tT0_0 tT1_0 tT1_1 tT2_0 tT4_0 tT6_0 tT6_1 tT8_0 : Tok} {eD nT0 nT1 nT2 nT3 nT4 nT5 nT6 nT7 nT8 : Nat} {oT0 oT1 oT2 oT3 oT4 oT5 oT6 oT7 oT8 : Option Addr} {sT0 sT1 sT2 sT3 sT4 sT5 sT6 sT7 sT8 : Array (Option Value)}
    {oNF oNL : Obj} {ddE d1E d1N ddF : Option Addr} {cdE cdF : ClassData} {slE sl1E sl1N slF : Array (Option Value)} {c1E c1N : Value} {esE esN : Array DictEntry} {nE nN : Nat}
    (a1 : PySem.W.nsIn K mainGlobals "is_small_letter" = some (some (.ref f1)))
    (l1 : K.lookup f1 = some ⟨oc1, od1, .func (PySem.W.fnOf "is_small_letter" "is_small_letter" (defArgs sSmall) (defBody sSmall) (defScope sSmall) .none kV1 dc1 pm1 an1 cd1 ct1), sl1⟩)
    (c1 : PySem.W.codeIn K cd1 "is_small_letter" = true)
    (k1 : PySem.W.keepIn K (.ref f1) = true)
    (a2 : PySem.W.nsIn K mainGlobals "is_figure" = some (some (.ref f2)))
    (l2 : K.lookup f2 = some ⟨oc2, od2, .func (PySem.W.fnOf "is_figure" "is_figure" (defArgs sFig) (defBody sFig) (defScope sFig) .none kV2 dc2 pm2 an2 cd2 ct2), sl2⟩)
    (c2 : PySem.W.codeIn K cd2 "is_figure" = true)
    (k2 : PySem.W.keepIn K (.ref f2) = true)
    (a3 : PySem.W.nsIn K mainGlobals "is_text_sign" = some (some (.ref f3)))
    (l3 : K.lookup f3 = some ⟨oc3, od3, .func (PySem.W.fnOf "is_text_sign" "is_text_sign" (defArgs sTS) (defBody sTS) (defScope sTS) .none kV3 dc3 pm3 an3 cd3 ct3), sl3⟩)
    (c3 : PySem.W.codeIn K cd3 "is_text_sign" = true)
    (k3 : PySem.W.keepIn K (.ref f3) = true)
    (a4 : PySem.W.nsIn K mainGlobals "is_name" = some (some (.ref f4)))
    (l4 : K.lookup f4 = some ⟨oc4, od4, .func (PySem.W.fnOf "is_name" "is_name" (defArgs sName) (defBody sName) (defScope sName) .none kV4 dc4 pm4 an4 cd4 ct4), sl4⟩)
    (c4 : PySem.W.codeIn K cd4 "is_name" = true)
    (k4 : PySem.W.keepIn K (.ref f4) = true)
    (a5 : PySem.W.nsIn K mainGlobals "look_at_document" = some (some (.ref f5)))
    (l5 : K.lookup f5 = some ⟨oc5, od5, .func (PySem.W.fnOf "look_at_document" "look_at_document" (defArgs sLook) (defBody sLook) (defScope sLook) .none kV5 dc5 pm5 an5 cd5 ct5), sl5⟩)
    (c5 : PySem.W.codeIn K cd5 "look_at_document" = true)
    (k5 : PySem.W.keepIn K (.ref f5) = true)
    (a6 : PySem.W.nsIn K mainGlobals "show_field" = some (some (.ref f6)))
    (l6 : K.lookup f6 = some ⟨oc6, od6, .func (PySem.W.fnOf "show_field" "show_field" (defArgs sShF) (defBody sShF) (defScope sShF) .none kV6 dc6 pm6 an6 cd6 ct6), sl6⟩)
    (c6 : PySem.W.codeIn K cd6 "show_field" = true)
    (k6 : PySem.W.keepIn K (.ref f6) = true)
    (a7 : PySem.W.nsIn K mainGlobals "show_fields" = some (some (.ref f7)))
    (l7 : K.lookup f7 = some ⟨oc7, od7, .func (PySem.W.fnOf "show_fields" "show_fields" (defArgs sShFs) (defBody sShFs) (defScope sShFs) .none kV7 dc7 pm7 an7 cd7 ct7), sl7⟩)
    (c7 : PySem.W.codeIn K cd7 "show_fields" = true)
    (k7 : PySem.W.keepIn K (.ref f7) = true)
    (a8 : PySem.W.nsIn K mainGlobals "show_deed" = some (some (.ref f8)))
    (l8 : K.lookup f8 = some ⟨oc8, od8, .func (PySem.W.fnOf "show_deed" "show_deed" (defArgs sShD) (defBody sShD) (defScope sShD) .none kV8 dc8 pm8 an8 cd8 ct8), sl8⟩)
    (c8 : PySem.W.codeIn K cd8 "show_deed" = true)
    (k8 : PySem.W.keepIn K (.ref f8) = true)
    (a9 : PySem.W.nsIn K mainGlobals "read_figures" = some (some (.ref f9)))
    (l9 : K.lookup f9 = some ⟨oc9, od9, .func (PySem.W.fnOf "read_figures" "read_figures" (defArgs sRF) (defBody sRF) (defScope sRF) .none kV9 dc9 pm9 an9 cd9 ct9), sl9⟩)
    (c9 : PySem.W.codeIn K cd9 "read_figures" = true)
    (k9 : PySem.W.keepIn K (.ref f9) = true)
    (a10 : PySem.W.nsIn K mainGlobals "end_of_text" = some (some (.ref f10)))
    (l10 : K.lookup f10 = some ⟨oc10, od10, .func (PySem.W.fnOf "end_of_text" "end_of_text" (defArgs sEoT) (defBody sEoT) (defScope sEoT) .none kV10 dc10 pm10 an10 cd10 ct10), sl10⟩)
    (c10 : PySem.W.codeIn K cd10 "end_of_text" = true)
    (k10 : PySem.W.keepIn K (.ref f10) = true)
    (a11 : PySem.W.nsIn K mainGlobals "read_text_signs" = some (some (.ref f11)))
    (l11 : K.lookup f11 = some ⟨oc11, od11, .func (PySem.W.fnOf "read_text_signs" "read_text_signs" (defArgs sRTS) (defBody sRTS) (defScope sRTS) .none kV11 dc11 pm11 an11 cd11 ct11), sl11⟩)
    (c11 : PySem.W.codeIn K cd11 "read_text_signs" = true)
    (k11 : PySem.W.keepIn K (.ref f11) = true)
    (a12 : PySem.W.nsIn K mainGlobals "read_pairs" = some (some (.ref f12)))
    (l12 : K.lookup f12 = some ⟨oc12, od12, .func (PySem.W.fnOf "read_pairs" "read_pairs" (defArgs sRP) (defBody sRP) (defScope sRP) .none kV12 dc12 pm12 an12 cd12 ct12), sl12⟩)
    (c12 : PySem.W.codeIn K cd12 "read_pairs" = true)
    (k12 : PySem.W.keepIn K (.ref f12) = true)
    (a13 : PySem.W.nsIn K mainGlobals "read_fields" = some (some (.ref f13)))
    (l13 : K.lookup f13 = some ⟨oc13, od13, .func (PySem.W.fnOf "read_fields" "read_fields" (defArgs sRFs) (defBody sRFs) (defScope sRFs) .none kV13 dc13 pm13 an13 cd13 ct13), sl13⟩)
    (c13 : PySem.W.codeIn K cd13 "read_fields" = true)
    (k13 : PySem.W.keepIn K (.ref f13) = true)
    (a14 : PySem.W.nsIn K mainGlobals "read_deed" = some (some (.ref f14)))
    (l14 : K.lookup f14 = some ⟨oc14, od14, .func (PySem.W.fnOf "read_deed" "read_deed" (defArgs sRD) (defBody sRD) (defScope sRD) .none kV14 dc14 pm14 an14 cd14 ct14), sl14⟩)
    (c14 : PySem.W.codeIn K cd14 "read_deed" = true)
    (k14 : PySem.W.keepIn K (.ref f14) = true)
    (a15 : PySem.W.nsIn K mainGlobals "_law_draws" = some (some (.ref f15)))
    (l15 : K.lookup f15 = some ⟨oc15, od15, .func (PySem.W.fnOf "_law_draws" "_law_draws" (defArgs sDraws) (defBody sDraws) (defScope sDraws) .none kV15 dc15 pm15 an15 cd15 ct15), sl15⟩)
    (c15 : PySem.W.codeIn K cd15 "_law_draws" = true)
    (k15 : PySem.W.keepIn K (.ref f15) = true)
    (a16 : PySem.W.nsIn K mainGlobals "_law_pop" = some (some (.ref f16)))
    (l16 : K.lookup f16 = some ⟨oc16, od16, .func (PySem.W.fnOf "_law_pop" "_law_pop" (defArgs sPop) (defBody sPop) (defScope sPop) .none kV16 dc16 pm16 an16 cd16 ct16), sl16⟩)
    (c16 : PySem.W.codeIn K cd16 "_law_pop" = true)
    (k16 : PySem.W.keepIn K (.ref f16) = true)
    (a17 : PySem.W.nsIn K mainGlobals "_law_alike" = some (some (.ref f17)))
    (l17 : K.lookup f17 = some ⟨oc17, od17, .func (PySem.W.fnOf "_law_alike" "_law_alike" (defArgs sAlike) (defBody sAlike) (defScope sAlike) .none kV17 dc17 pm17 an17 cd17 ct17), sl17⟩)
    (c17 : PySem.W.codeIn K cd17 "_law_alike" = true)
    (k17 : PySem.W.keepIn K (.ref f17) = true)
    (a18 : PySem.W.nsIn K mainGlobals "_law_names" = some (some (.ref f18)))
    (l18 : K.lookup f18 = some ⟨oc18, od18, .func (PySem.W.fnOf "_law_names" "_law_names" (defArgs sNms) (defBody sNms) (defScope sNms) .none kV18 dc18 pm18 an18 cd18 ct18), sl18⟩)
    (c18 : PySem.W.codeIn K cd18 "_law_names" = true)
    (k18 : PySem.W.keepIn K (.ref f18) = true)
    (a19 : PySem.W.nsIn K mainGlobals "_law_text" = some (some (.ref f19)))
    (l19 : K.lookup f19 = some ⟨oc19, od19, .func (PySem.W.fnOf "_law_text" "_law_text" (defArgs sText) (defBody sText) (defScope sText) .none kV19 dc19 pm19 an19 cd19 ct19), sl19⟩)
    (c19 : PySem.W.codeIn K cd19 "_law_text" = true)
    (k19 : PySem.W.keepIn K (.ref f19) = true)
    (a20 : PySem.W.nsIn K mainGlobals "_law_document" = some (some (.ref f20)))
    (l20 : K.lookup f20 = some ⟨oc20, od20, .func (PySem.W.fnOf "_law_document" "_law_document" (defArgs sDoc) (defBody sDoc) (defScope sDoc) .none kV20 dc20 pm20 an20 cd20 ct20), sl20⟩)
    (c20 : PySem.W.codeIn K cd20 "_law_document" = true)
    (k20 : PySem.W.keepIn K (.ref f20) = true)
    (a21 : PySem.W.nsIn K mainGlobals "_law_number" = some (some (.ref f21)))
    (l21 : K.lookup f21 = some ⟨oc21, od21, .func (PySem.W.fnOf "_law_number" "_law_number" (defArgs sNum) (defBody sNum) (defScope sNum) .none kV21 dc21 pm21 an21 cd21 ct21), sl21⟩)
    (c21 : PySem.W.codeIn K cd21 "_law_number" = true)
    (k21 : PySem.W.keepIn K (.ref f21) = true)
    (a22 : PySem.W.nsIn K mainGlobals "_law_deed" = some (some (.ref f22)))
    (l22 : K.lookup f22 = some ⟨oc22, od22, .func (PySem.W.fnOf "_law_deed" "_law_deed" (defArgs sDeed) (defBody sDeed) (defScope sDeed) .none kV22 dc22 pm22 an22 cd22 ct22), sl22⟩)
    (c22 : PySem.W.codeIn K cd22 "_law_deed" = true)
    (k22 : PySem.W.keepIn K (.ref f22) = true)
    (a23 : PySem.W.nsIn K mainGlobals "_law_line" = some (some (.ref f23)))
    (l23 : K.lookup f23 = some ⟨oc23, od23, .func (PySem.W.fnOf "_law_line" "_law_line" (defArgs sLine) (defBody sLine) (defScope sLine) .none kV23 dc23 pm23 an23 cd23 ct23), sl23⟩)
    (c23 : PySem.W.codeIn K cd23 "_law_line" = true)
    (k23 : PySem.W.keepIn K (.ref f23) = true)
    (a24 : PySem.W.nsIn K mainGlobals "_law_number_in" = some (some (.ref f24)))
    (l24 : K.lookup f24 = some ⟨oc24, od24, .func (PySem.W.fnOf "_law_number_in" "_law_number_in" (defArgs sNuI) (defBody sNuI) (defScope sNuI) .none kV24 dc24 pm24 an24 cd24 ct24), sl24⟩)
    (c24 : PySem.W.codeIn K cd24 "_law_number_in" = true)
    (k24 : PySem.W.keepIn K (.ref f24) = true)
    (a25 : PySem.W.nsIn K mainGlobals "_law_text_in" = some (some (.ref f25)))
    (l25 : K.lookup f25 = some ⟨oc25, od25, .func (PySem.W.fnOf "_law_text_in" "_law_text_in" (defArgs sTxI) (defBody sTxI) (defScope sTxI) .none kV25 dc25 pm25 an25 cd25 ct25), sl25⟩)
    (c25 : PySem.W.codeIn K cd25 "_law_text_in" = true)
    (k25 : PySem.W.keepIn K (.ref f25) = true)
    (a26 : PySem.W.nsIn K mainGlobals "_law_document_in" = some (some (.ref f26)))
    (l26 : K.lookup f26 = some ⟨oc26, od26, .func (PySem.W.fnOf "_law_document_in" "_law_document_in" (defArgs sDoI) (defBody sDoI) (defScope sDoI) .none kV26 dc26 pm26 an26 cd26 ct26), sl26⟩)
    (c26 : PySem.W.codeIn K cd26 "_law_document_in" = true)
    (k26 : PySem.W.keepIn K (.ref f26) = true)
    (a27 : PySem.W.nsIn K mainGlobals "_law_deed_in" = some (some (.ref f27)))
    (l27 : K.lookup f27 = some ⟨oc27, od27, .func (PySem.W.fnOf "_law_deed_in" "_law_deed_in" (defArgs sDeI) (defBody sDeI) (defScope sDeI) .none kV27 dc27 pm27 an27 cd27 ct27), sl27⟩)
    (c27 : PySem.W.codeIn K cd27 "_law_deed_in" = true)
    (k27 : PySem.W.keepIn K (.ref f27) = true)
    (a28 : PySem.W.nsIn K mainGlobals "_law_kind" = some (some (.ref f28)))
    (l28 : K.lookup f28 = some ⟨oc28, od28, .func (PySem.W.fnOf "_law_kind" "_law_kind" (defArgs sKi) (defBody sKi) (defScope sKi) .none kV28 dc28 pm28 an28 cd28 ct28), sl28⟩)
    (c28 : PySem.W.codeIn K cd28 "_law_kind" = true)
    (k28 : PySem.W.keepIn K (.ref f28) = true)
    (a29 : PySem.W.nsIn K mainGlobals "_law_odd" = some (some (.ref f29)))
    (l29 : K.lookup f29 = some ⟨oc29, od29, .func (PySem.W.fnOf "_law_odd" "_law_odd" (defArgs sOdd) (defBody sOdd) (defScope sOdd) .none kV29 dc29 pm29 an29 cd29 ct29), sl29⟩)
    (c29 : PySem.W.codeIn K cd29 "_law_odd" = true)
    (k29 : PySem.W.keepIn K (.ref f29) = true)
    (a30 : PySem.W.nsIn K mainGlobals "_law_bent" = some (some (.ref f30)))
    (l30 : K.lookup f30 = some ⟨oc30, od30, .func (PySem.W.fnOf "_law_bent" "_law_bent" (defArgs sBe) (defBody sBe) (defScope sBe) .none kV30 dc30 pm30 an30 cd30 ct30), sl30⟩)
    (c30 : PySem.W.codeIn K cd30 "_law_bent" = true)
    (k30 : PySem.W.keepIn K (.ref f30) = true)
    (a31 : PySem.W.nsIn K mainGlobals "_law_refused" = some (some (.ref f31)))
    (l31 : K.lookup f31 = some ⟨oc31, od31, .func (PySem.W.fnOf "_law_refused" "_law_refused" (defArgs sRef) (defBody sRef) (defScope sRef) .none kV31 dc31 pm31 an31 cd31 ct31), sl31⟩)
    (c31 : PySem.W.codeIn K cd31 "_law_refused" = true)
    (k31 : PySem.W.keepIn K (.ref f31) = true)
    (a32 : PySem.W.nsIn K mainGlobals "law" = some (some (.ref f32)))
    (l32 : K.lookup f32 = some ⟨oc32, od32, .func (PySem.W.fnOf "law" "law" (defArgs sLaw) (defBody sLaw) (defScope sLaw) .none kV32 dc32 pm32 an32 cd32 ct32), sl32⟩)
    (c32 : PySem.W.codeIn K cd32 "law" = true)
    (k32 : PySem.W.keepIn K (.ref f32) = true)
    (nFE : PySem.W.nsIn K mainGlobals "FindError" = some (some (.ref FE)))
    (nNF : PySem.W.nsIn K mainGlobals "NoField" = some (some (.ref NF)))
    (nNM : PySem.W.nsIn K mainGlobals "NoMake" = some (some (.ref NM)))
    (nNB : PySem.W.nsIn K mainGlobals "NoBytes" = some (some (.ref NB)))
    (nND : PySem.W.nsIn K mainGlobals "NoDocument" = some (some (.ref ND)))
    (nNS : PySem.W.nsIn K mainGlobals "NoStamp" = some (some (.ref NS)))
    (nNQ : PySem.W.nsIn K mainGlobals "NoPiece" = some (some (.ref NQ)))
    (nNP : PySem.W.nsIn K mainGlobals "NoPattern" = some (some (.ref NP)))
    (nNL : PySem.W.nsIn K mainGlobals "NoLine" = some (some (.ref NL)))
    (nNT : PySem.W.nsIn K mainGlobals "NoText" = some (some (.ref NT)))
    (isXF : PySem.W.findIn K (.ref NF) "__init__" = some (some (.ref fsXF)))
    (jsXF : PySem.W.isFn K (.ref fsXF) = true)
    (lsXF : K.lookup fsXF = some ⟨ocsXF, odsXF, .func (PySem.W.fnOf "__init__" "NoField.__init__" (defArgs sXF) (defBody sXF) (defScope sXF) .none kVsXF dcsXF pmsXF ansXF cdsXF ctsXF), slsXF⟩)
    (csXF : PySem.W.codeIn K cdsXF "NoField.__init__" = true)
    (ksXF : PySem.W.keepIn K (.ref fsXF) = true)
    (nD : PySem.W.nsIn K mainGlobals "DEEDS" = some (some (.ref aD)))
    (dD : K.lookup aD = some { cls := .type "dict", data := .dict #[⟨PyData.keyHash w.params "put", .str "put" tD0, .ref aT0⟩, ⟨PyData.keyHash w.params "change", .str "change" tD1, .ref aT1⟩, ⟨PyData.keyHash w.params "take", .str "take" tD2, .ref aT2⟩, ⟨PyData.keyHash w.params "stamp", .str "stamp" tD3, .ref aT3⟩, ⟨PyData.keyHash w.params "drop", .str "drop" tD4, .ref aT4⟩, ⟨PyData.keyHash w.params "seal", .str "seal" tD5, .ref aT5⟩, ⟨PyData.keyHash w.params "pour", .str "pour" tD6, .ref aT6⟩, ⟨PyData.keyHash w.params "thin", .str "thin" tD7, .ref aT7⟩, ⟨PyData.keyHash w.params "pack", .str "pack" tD8, .ref aT8⟩] eD })
    (wD : (aD == sysModules) = false)
    (y0 : K.lookup aT0 = some ⟨.type "tuple", oT0, .seq #[.str "fields" tT0_0] nT0, sT0⟩)
    (y1 : K.lookup aT1 = some ⟨.type "tuple", oT1, .seq #[.str "number" tT1_0, .str "fields" tT1_1] nT1, sT1⟩)
    (y2 : K.lookup aT2 = some ⟨.type "tuple", oT2, .seq #[.str "number" tT2_0] nT2, sT2⟩)
    (y3 : K.lookup aT3 = some ⟨.type "tuple", oT3, .seq #[] nT3, sT3⟩)
    (y4 : K.lookup aT4 = some ⟨.type "tuple", oT4, .seq #[.str "number" tT4_0] nT4, sT4⟩)
    (y5 : K.lookup aT5 = some ⟨.type "tuple", oT5, .seq #[] nT5, sT5⟩)
    (y6 : K.lookup aT6 = some ⟨.type "tuple", oT6, .seq #[.str "number" tT6_0, .str "number" tT6_1] nT6, sT6⟩)
    (y7 : K.lookup aT7 = some ⟨.type "tuple", oT7, .seq #[] nT7, sT7⟩)
    (y8 : K.lookup aT8 = some ⟨.type "tuple", oT8, .seq #[.str "number" tT8_0] nT8, sT8⟩)
    (kcF : PySem.W.keepIn K (.ref NF) = true)
    (eE : K.lookup FE = some ⟨.type "type", ddE, .cls cdE, slE⟩)
    (eN : cdE.ns = NsA)
    (eL : K.lookup NsA = some ⟨c1E, d1E, .dict esE nE, sl1E⟩)
    (eK : strKeys esE = true)
    (eI : nsFind esE "__init__" = none)
    (bE : PySem.W.mroIn K FE (.type "BaseException") = some true)
    (x1NF : K.lookup NF = some oNF)
    (x2NF : ∃ (nm qn : Str) (N : Addr) (bs : List Value) (sn : List Str) (sub : List Value) (ab : Bool) (col : Option Bool) (dd : Option Addr) (k0 k1 k2 k3 k5 : Option Value), oNF = excClassObj nm qn NF N bs (.ref FE :: bmV) true sn sub ab col dd k0 k1 k2 k3 k5 "ValueError.__new__")
    (x3NF : PySem.W.findIn K (.ref NF) "__setattr__" = some (some (.builtin "object.__setattr__")))
    (x4NF : PySem.W.findIn K (.ref NF) "place" = some none)
    (eF : K.lookup NF = some ⟨.type "type", ddF, .cls cdF, slF⟩)
    (bF : PySem.W.mroIn K NF (.type "BaseException") = some true)
    (xmF : PySem.W.mroIn K NF (.ref NF) = some true)
    (x1 : K.lookup NL = some oNL)
    (x2 : ∃ (nm qn : Str) (bs : List Value) (sn : List Str) (sub : List Value) (ab : Bool) (col : Option Bool) (dd : Option Addr) (k0 k1 k2 k3 k5 : Option Value), oNL = excClassObj nm qn NL NN bs (.ref FE :: bmV) true sn sub ab col dd k0 k1 k2 k3 k5 "ValueError.__new__")
    (x3 : K.lookup NN = some ⟨c1N, d1N, .dict esN nN, sl1N⟩)
    (x4 : strKeys esN = true)
    (x6 : nsFind esN "__init__" = none)
    (x5 : PySem.W.mroIn K NL (.ref FE) = some true)
    (x7 : PySem.W.keepIn K (.ref NL) = true)
    (g1 : PySem.W.findIn K (.ref NL) "__getattribute__" = some (some (.builtin "BaseException.__getattribute__")))
    (g2 : PySem.W.findIn K (.ref NL) "__getattr__" = some none)
    (g3 : PySem.W.mroIn K NL (.type "BaseException") = some true)
    (g4 : PySem.W.mroIn K NL (.type "object") = some true)
    (g5 : PySem.W.hasDictIn K NL = true)
    (g6 : PySem.W.findIn K (.ref NL) "__class__" = some (some (.builtin "object.__class__")))
    (g7 : PySem.W.specialIn K (.builtin "object.__class__") "__get__" = some (some (.builtin "getset_descriptor.__get__")))
    (g8 : PySem.W.takesIn K (.builtin "object.__class__") = some true)
    (vNF : PySem.W.kitOne K (.type "NoneType") (.ref NF) = some false)
    (wNF : PySem.W.kitOne K (.ref NL) (.ref NF) = some false)
    (vNM : PySem.W.kitOne K (.type "NoneType") (.ref NM) = some false)
    (wNM : PySem.W.kitOne K (.ref NL) (.ref NM) = some false)
    (vNB : PySem.W.kitOne K (.type "NoneType") (.ref NB) = some false)
    (wNB : PySem.W.kitOne K (.ref NL) (.ref NB) = some false)
    (vND : PySem.W.kitOne K (.type "NoneType") (.ref ND) = some false)
    (wND : PySem.W.kitOne K (.ref NL) (.ref ND) = some false)
    (vNS : PySem.W.kitOne K (.type "NoneType") (.ref NS) = some false)
    (wNS : PySem.W.kitOne K (.ref NL) (.ref NS) = some false)
    (vNQ : PySem.W.kitOne K (.type "NoneType") (.ref NQ) = some false)
    (wNQ : PySem.W.kitOne K (.ref NL) (.ref NQ) = some false)
    (vNP : PySem.W.kitOne K (.type "NoneType") (.ref NP) = some false)
    (wNP : PySem.W.kitOne K (.ref NL) (.ref NP) = some false)
    (vNL : PySem.W.kitOne K (.type "NoneType") (.ref NL) = some false)
    (wNL : PySem.W.kitOne K (.ref NL) (.ref NL) = some true)
    (vNT : PySem.W.kitOne K (.type "NoneType") (.ref NT) = some false)
    (wNT : PySem.W.kitOne K (.ref NL) (.ref NT) = some false)
    (vVE : PySem.W.kitOne K (.type "NoneType") (.type "ValueError") = some false)
    (wVE : PySem.W.kitOne K (.ref NL) (.type "ValueError") = some true)
    (s1 : PySem.W.nsIn K mainGlobals "MOST_NAME_SIGNS" = some (some (.int 12 tk1)))
    (s2 : PySem.W.nsIn K mainGlobals "NO_SIGN" = some (some (.int 37 tk2)))
    (s3 : PySem.W.nsIn K mainGlobals "MOST_FIGURES" = some (some (.int 60 tk3)))
    (s4 : PySem.W.nsIn K mainGlobals "NO_FIELDS" = some (some (.str "none" tk4)))
    (z1 : PySem.W.nsIn K mainGlobals "len" = some none)
    (z2 : PySem.W.nsIn K mainGlobals "range" = some none)
    (z3 : PySem.W.nsIn K mainGlobals "isinstance" = some none)
    (z4 : PySem.W.nsIn K mainGlobals "str" = some none)
    (z5 : PySem.W.nsIn K mainGlobals "int" = some none)
    (z6 : PySem.W.nsIn K mainGlobals "bool" = some none)
    (z7 : PySem.W.nsIn K mainGlobals "list" = some none)
    (z8 : PySem.W.nsIn K mainGlobals "tuple" = some none)
    (z9 : PySem.W.nsIn K mainGlobals "ord" = some none)
    (z10 : PySem.W.nsIn K mainGlobals "sorted" = some none)
    (z11 : PySem.W.nsIn K mainGlobals "all" = some none)
    (z12 : PySem.W.nsIn K mainGlobals "enumerate" = some none)
    (z13 : PySem.W.nsIn K mainGlobals "zip" = some none)
    (z14 : PySem.W.nsIn K mainGlobals "ValueError" = some none)
    : ∃ fd : FuncData, (∀ (s : Shared) (v : Value), BindsTo s fd ⟨[v], []⟩ [("_law_script", v)]) ∧ ∀ base : Heap, K.In base → base.Ns mainGlobals mg → FnOkL l.prog w K mg base CX0 7 fa fd ["_law_script"] (spLaw K) := by
  have e := hfa.symm.trans (PySem.W.mg_of X G a32)
  cases e
  have t1 := PySem.W.mg_none_of X G z1
  have t2 := PySem.W.mg_none_of X G z2
  have t3 := PySem.W.mg_none_of X G z3
  have t4 := PySem.W.mg_none_of X G z4
  have t5 := PySem.W.mg_none_of X G z5
  have t6 := PySem.W.mg_none_of X G z6
  have t7 := PySem.W.mg_none_of X G z7
  have t8 := PySem.W.mg_none_of X G z8
  have t9 := PySem.W.mg_none_of X G z9
  have t10 := PySem.W.mg_none_of X G z10
  have t11 := PySem.W.mg_none_of X G z11
  have t12 := PySem.W.mg_none_of X G z12
  have t13 := PySem.W.mg_none_of X G z13
  have t14 := PySem.W.mg_none_of X G z14
  have u1 := PySem.W.mg_of X G s1
  have u2 := PySem.W.mg_of X G s2
  have u3 := PySem.W.mg_of X G s3
  have u4 := PySem.W.mg_of X G s4
  have mFE := PySem.W.mg_of X G nFE
  have mNF := PySem.W.mg_of X G nNF
  have mNM := PySem.W.mg_of X G nNM
  have mNB := PySem.W.mg_of X G nNB
  have mND := PySem.W.mg_of X G nND
  have mNS := PySem.W.mg_of X G nNS
  have mNQ := PySem.W.mg_of X G nNQ
  have mNP := PySem.W.mg_of X G nNP
  have mNL := PySem.W.mg_of X G nNL
  have mNT := PySem.W.mg_of X G nNT
  have T : Txt mg := { len := t1, range := t2, isinstance := t3, str := t4, int := t5, bool := t6, list := t7, tuple := t8, ord := t9, sorted := t10, all := t11, enumerate := t12, zip := t13, valueError := t14, most := ⟨_, u1⟩, noS := ⟨_, u2⟩, mostF := ⟨_, u3⟩, noF := ⟨_, u4⟩ }
  have F1 := fun_mk (st := sSmall) l1 c1 k1
  have m1 := PySem.W.mg_of X G a1
  have b1 := F1.binds (ps := ["sign"]) fun _ _ _ _ _ _ us hl => match us, hl with | [_], _ => rfl
  have F2 := fun_mk (st := sFig) l2 c2 k2
  have m2 := PySem.W.mg_of X G a2
  have b2 := F2.binds (ps := ["sign"]) fun _ _ _ _ _ _ us hl => match us, hl with | [_], _ => rfl
  have F3 := fun_mk (st := sTS) l3 c3 k3
  have m3 := PySem.W.mg_of X G a3
  have b3 := F3.binds (ps := ["sign"]) fun _ _ _ _ _ _ us hl => match us, hl with | [_], _ => rfl
  have F4 := fun_mk (st := sName) l4 c4 k4
  have m4 := PySem.W.mg_of X G a4
  have b4 := F4.binds (ps := ["text"]) fun _ _ _ _ _ _ us hl => match us, hl with | [_], _ => rfl
  have F5 := fun_mk (st := sLook) l5 c5 k5
  have m5 := PySem.W.mg_of X G a5
  have b5 := F5.binds (ps := ["document"]) fun _ _ _ _ _ _ us hl => match us, hl with | [_], _ => rfl
  have F6 := fun_mk (st := sShF) l6 c6 k6
  have m6 := PySem.W.mg_of X G a6
  have b6 := F6.binds (ps := ["field", "text"]) fun _ _ _ _ _ _ us hl => match us, hl with | [_, _], _ => rfl
  have F7 := fun_mk (st := sShFs) l7 c7 k7
  have m7 := PySem.W.mg_of X G a7
  have b7 := F7.binds (ps := ["document"]) fun _ _ _ _ _ _ us hl => match us, hl with | [_], _ => rfl
  have F8 := fun_mk (st := sShD) l8 c8 k8
  have m8 := PySem.W.mg_of X G a8
  have b8 := F8.binds (ps := ["deed"]) fun _ _ _ _ _ _ us hl => match us, hl with | [_], _ => rfl
  have F9 := fun_mk (st := sRF) l9 c9 k9
  have m9 := PySem.W.mg_of X G a9
  have b9 := F9.binds (ps := ["shown"]) fun _ _ _ _ _ _ us hl => match us, hl with | [_], _ => rfl
  have F10 := fun_mk (st := sEoT) l10 c10 k10
  have m10 := PySem.W.mg_of X G a10
  have b10 := F10.binds (ps := ["shown", "begin"]) fun _ _ _ _ _ _ us hl => match us, hl with | [_, _], _ => rfl
  have F11 := fun_mk (st := sRTS) l11 c11 k11
  have m11 := PySem.W.mg_of X G a11
  have b11 := F11.binds (ps := ["shown"]) fun _ _ _ _ _ _ us hl => match us, hl with | [_], _ => rfl
  have F12 := fun_mk (st := sRP) l12 c12 k12
  have m12 := PySem.W.mg_of X G a12
  have b12 := F12.binds (ps := ["shown"]) fun _ _ _ _ _ _ us hl => match us, hl with | [_], _ => rfl
  have F13 := fun_mk (st := sRFs) l13 c13 k13
  have m13 := PySem.W.mg_of X G a13
  have b13 := F13.binds (ps := ["shown"]) fun _ _ _ _ _ _ us hl => match us, hl with | [_], _ => rfl
  have F14 := fun_mk (st := sRD) l14 c14 k14
  have m14 := PySem.W.mg_of X G a14
  have b14 := F14.binds (ps := ["line"]) fun _ _ _ _ _ _ us hl => match us, hl with | [_], _ => rfl
  have F15 := fun_mk (st := sDraws) l15 c15 k15
  have m15 := PySem.W.mg_of X G a15
  have b15 := F15.binds (ps := ["_law_script", "_law_turn", "_law_many"]) fun _ _ _ _ _ _ us hl => match us, hl with | [_, _, _], _ => rfl
  have F16 := fun_mk (st := sPop) l16 c16 k16
  have m16 := PySem.W.mg_of X G a16
  have b16 := F16.binds (ps := ["_law_draws_here"]) fun _ _ _ _ _ _ us hl => match us, hl with | [_], _ => rfl
  have F17 := fun_mk (st := sAlike) l17 c17 k17
  have m17 := PySem.W.mg_of X G a17
  have b17 := F17.binds (ps := ["_law_found", "_law_due"]) fun _ _ _ _ _ _ us hl => match us, hl with | [_, _], _ => rfl
  have F18 := fun_mk (st := sNms) l18 c18 k18
  have m18 := PySem.W.mg_of X G a18
  have b18 := F18.binds (ps := ["_law_draws_here"]) fun _ _ _ _ _ _ us hl => match us, hl with | [_], _ => rfl
  have F19 := fun_mk (st := sText) l19 c19 k19
  have m19 := PySem.W.mg_of X G a19
  have b19 := F19.binds (ps := ["_law_draws_here"]) fun _ _ _ _ _ _ us hl => match us, hl with | [_], _ => rfl
  have F20 := fun_mk (st := sDoc) l20 c20 k20
  have m20 := PySem.W.mg_of X G a20
  have b20 := F20.binds (ps := ["_law_draws_here"]) fun _ _ _ _ _ _ us hl => match us, hl with | [_], _ => rfl
  have F21 := fun_mk (st := sNum) l21 c21 k21
  have m21 := PySem.W.mg_of X G a21
  have b21 := F21.binds (ps := ["_law_script", "_law_draws_here"]) fun _ _ _ _ _ _ us hl => match us, hl with | [_, _], _ => rfl
  have F22 := fun_mk (st := sDeed) l22 c22 k22
  have m22 := PySem.W.mg_of X G a22
  have b22 := F22.binds (ps := ["_law_script", "_law_draws_here"]) fun _ _ _ _ _ _ us hl => match us, hl with | [_, _], _ => rfl
  have F23 := fun_mk (st := sLine) l23 c23 k23
  have m23 := PySem.W.mg_of X G a23
  have b23 := F23.binds (ps := ["_law_deed_here"]) fun _ _ _ _ _ _ us hl => match us, hl with | [_], _ => rfl
  have F24 := fun_mk (st := sNuI) l24 c24 k24
  have m24 := PySem.W.mg_of X G a24
  have b24 := F24.binds (ps := ["_law_text_here"]) fun _ _ _ _ _ _ us hl => match us, hl with | [_], _ => rfl
  have F25 := fun_mk (st := sTxI) l25 c25 k25
  have m25 := PySem.W.mg_of X G a25
  have b25 := F25.binds (ps := ["_law_line_here", "_law_at"]) fun _ _ _ _ _ _ us hl => match us, hl with | [_, _], _ => rfl
  have F26 := fun_mk (st := sDoI) l26 c26 k26
  have m26 := PySem.W.mg_of X G a26
  have b26 := F26.binds (ps := ["_law_line_here"]) fun _ _ _ _ _ _ us hl => match us, hl with | [_], _ => rfl
  have F27 := fun_mk (st := sDeI) l27 c27 k27
  have m27 := PySem.W.mg_of X G a27
  have b27 := F27.binds (ps := ["_law_line_here"]) fun _ _ _ _ _ _ us hl => match us, hl with | [_], _ => rfl
  have F28 := fun_mk (st := sKi) l28 c28 k28
  have m28 := PySem.W.mg_of X G a28
  have b28 := F28.binds (ps := ["_law_error"]) fun _ _ _ _ _ _ us hl => match us, hl with | [_], _ => rfl
  have F29 := fun_mk (st := sOdd) l29 c29 k29
  have m29 := PySem.W.mg_of X G a29
  have b29 := F29.binds (ps := ["_law_number_here"]) fun _ _ _ _ _ _ us hl => match us, hl with | [_], _ => rfl
  have F30 := fun_mk (st := sBe) l30 c30 k30
  have m30 := PySem.W.mg_of X G a30
  have b30 := F30.binds (ps := ["_law_line_here", "_law_draws_here"]) fun _ _ _ _ _ _ us hl => match us, hl with | [_, _], _ => rfl
  have F31 := fun_mk (st := sRef) l31 c31 k31
  have m31 := PySem.W.mg_of X G a31
  have b31 := F31.binds (ps := ["_law_line_here"]) fun _ _ _ _ _ _ us hl => match us, hl with | [_], _ => rfl
  have F32 := fun_mk (st := sLaw) l32 c32 k32
  have m32 := PySem.W.mg_of X G a32
  have FsXF := fun_mk (st := sXF) lsXF csXF ksXF
  have bsXF := FsXF.binds (ps := ["self", "place"]) fun _ _ _ _ _ _ us hl => match us, hl with | [_, _], _ => rfl
  have hDe := PySem.W.mg_of X G nD
  have DD := deeds_of (P := l.prog) (w := w) (K := K) (mg := mg) (d := aD) (ep := eD) (l := [("put", tD0, aT0, ["fields"]), ("change", tD1, aT1, ["number", "fields"]), ("take", tD2, aT2, ["number"]), ("stamp", tD3, aT3, []), ("drop", tD4, aT4, ["number"]), ("seal", tD5, aT5, []), ("pour", tD6, aT6, ["number", "number"]), ("thin", tD7, aT7, []), ("pack", tD8, aT8, ["number"])]) wD dD rfl (sq_c (sq1 y0) (sq_c (sq2 y1) (sq_c (sq1 y2) (sq_c (sq0 y3) (sq_c (sq1 y4) (sq_c (sq0 y5) (sq_c (sq2 y6) (sq_c (sq0 y7) (sq_c (sq1 y8) (fun e he => by cases he))))))))))
  have xcNF : XCls K NF FE := ⟨by obtain ⟨nm, qn, N, bs, sn, sub, ab, col, dd, k0, k1, k2, k3, k5, e⟩ := x2NF; exact ⟨nm, qn, N, bs, sn, sub, ab, col, dd, k0, k1, k2, k3, k5, by rw [x1NF, e]⟩, ⟨_, _, _, _, _, _, _, _, _, eE, by rw [eN]; exact eL, eK, eI⟩, x3NF⟩
  have xc : XCls0 K NL FE := ⟨by obtain ⟨nm, qn, bs, sn, sub, ab, col, dd, k0, k1, k2, k3, k5, e⟩ := x2; exact ⟨nm, qn, NN, bs, sn, sub, ab, col, dd, k0, k1, k2, k3, k5, _, _, _, _, _, by rw [x1, e], x3, x4, x6⟩, ⟨_, _, _, _, _, _, _, _, _, eE, by rw [eN]; exact eL, eK, eI⟩⟩
  have xa : XAttr K NL := ⟨g1, g2, g3, g4, g5, g6, g7, g8⟩
  have i0 : XIs K NF NM NB ND NS NQ NP NL NT (.type "NoneType") false := ⟨vNF, vNM, vNB, vND, vNS, vNQ, vNP, vNL, vNT, vVE⟩
  have i1 : XIs K NF NM NB ND NS NQ NP NL NT (.ref NL) true := ⟨wNF, wNM, wNB, wND, wNS, wNQ, wNP, wNL, wNT, wVE⟩
  refine ⟨PySem.W.fnOf "law" "law" (defArgs sLaw) (defBody sLaw) (defScope sLaw) .none kV32 dc32 pm32 an32 cd32 ct32, fun s v => .of_eq rfl, fun base _ _ => ?_⟩
  have oS := ok_small (P := l.prog) (w := w) (mg := mg) (base := base) F1
  have oFg := ok_fig (P := l.prog) (w := w) (mg := mg) (base := base) F2
  have oTs := ok_ts (P := l.prog) (w := w) (mg := mg) (base := base) F3 T
  have oN := ok_name (P := l.prog) (w := w) (mg := mg) (base := base) F4 T oS b1 k1 m1
  have oLk := ok_look (P := l.prog) (w := w) (mg := mg) (base := base) F5 T oN b4 k4 m4 xcNF isXF jsXF kcF x4NF (ok_xinitF FsXF) bsXF mNF
  have oSf := ok_shf (P := l.prog) (w := w) (mg := mg) (base := base) F6
  have oSs := ok_shfs (P := l.prog) (w := w) (mg := mg) (base := base) F7 T (look_calm oLk) b5 k5 m5 oSf b6 k6 m6
  have oSd := ok_shd (P := l.prog) (w := w) (mg := mg) (base := base) F8 T oSs b7 k7 m7 DD hDe
  have oRg := ok_rf (P := l.prog) (w := w) (mg := mg) (base := base) F9 T xc x7 mNL oFg b2 k2 m2
  have oEo := ok_eot (P := l.prog) (w := w) (mg := mg) (base := base) F10 T xc x7 mNL
  have oRt := ok_rts (P := l.prog) (w := w) (mg := mg) (base := base) F11 T oTs b3 k3 m3
  have oRp := ok_rp (P := l.prog) (w := w) (mg := mg) (base := base) F12 T xc x7 mNL oEo b10 k10 m10 oRt b11 k11 m11
  have oRf := ok_rfs (P := l.prog) (w := w) (mg := mg) (base := base) F13 T xc x7 mNL mNF ⟨⟨_, _, _, eF⟩, bF⟩ xmF oRp b12 k12 m12 oLk b5 k5 m5
  have oRd := ok_rd (P := l.prog) (w := w) (mg := mg) (base := base) F14 T xc x7 mNL oRf b13 k13 m13 oRg b9 k9 m9 DD hDe
  have oD := ok_draws (P := l.prog) (w := w) (mg := mg) (base := base) F15 T
  have oP := ok_pop (P := l.prog) (w := w) (mg := mg) (base := base) F16
  have oNm := ok_nms (P := l.prog) (w := w) (mg := mg) (base := base) F18 T oP b16 k16 m16
  have oT := ok_text (P := l.prog) (w := w) (mg := mg) (base := base) F19 T oP b16 k16 m16
  have oDo := ok_doc (P := l.prog) (w := w) (mg := mg) (base := base) F20 oNm b18 k18 m18 oT b19 k19 m19
  have oNu := ok_num (P := l.prog) (w := w) (mg := mg) (base := base) F21 T oP b16 k16 m16
  have oDe := ok_deed (P := l.prog) (w := w) (mg := mg) (base := base) F22 T oP b16 k16 m16 oNu b21 k21 m21 oDo b20 k20 m20
  have oLi := ok_line (P := l.prog) (w := w) (mg := mg) (base := base) F23 T
  have oNi := ok_ni (P := l.prog) (w := w) (mg := mg) (base := base) F24 T
  have oTi := ok_ti (P := l.prog) (w := w) (mg := mg) (base := base) F25 T
  have oDi := ok_di (P := l.prog) (w := w) (mg := mg) (base := base) F26 T oTi b25 k25 m25
  have oEi := ok_ei (P := l.prog) (w := w) (mg := mg) (base := base) F27 T oDi b26 k26 m26 oNi b24 k24 m24
  have oOd := ok_odd (P := l.prog) (w := w) (mg := mg) (base := base) F29 T
  have oBe := ok_be (P := l.prog) (w := w) (mg := mg) (base := base) F30 T oP b16 k16 m16 oOd b29 k29 m29
  have oKi := ok_kind (P := l.prog) (w := w) (mg := mg) (base := base) F28 T ⟨mFE, mNF, mNM, mNB, mND, mNS, mNQ, mNP, mNL, mNT⟩ i0 i1 xa
  have oRr := ok_ref (P := l.prog) (w := w) (mg := mg) (base := base) F31 T mFE ⟨⟨_, _, _, eE⟩, bE⟩ x5 oRd b14 k14 m14 oKi b28 k28 m28
  exact ok_law F32 T oD b15 k15 m15 oP b16 k16 m16 oDe b22 k22 m22 oLi b23 k23 m23 oBe b30 k30 m30 oEi b27 k27 m27 oRr b31 k31 m31 (rd_calm oRd) b14 k14 m14 oSd b8 k8 m8 (alikes F17 T b17 k17 m17 4) b17 k17 m17
theorem walk {l : PySem.W.OpenLaw} {q : Program} {loose : List Str} {XP : (Str → Option Value) → Heap → Prop} {YP : World → Heap → Prop} {d : DefRec} {K : Params → PySem.W.Frag} (hn : l.most = some 63) (hdf : d.params.defaults = [])
    (hY : ∀ (w : World) (h : Heap), YP w h → (K w.params).In h)
    (F : ∀ (w : World) (mg : Str → Option Value) (fa : Addr) (h : Heap), (K w.params).In h → h.Ns mainGlobals mg → mg d.name = some (.ref fa) →
      ∃ fd : FuncData, (∀ (s : Shared) (u : Value), BindsTo s fd ⟨[u], []⟩ [("_law_script", u)]) ∧ ∀ base : Heap, (K w.params).In base → base.Ns mainGlobals mg → FnOkL l.prog w (K w.params) mg base CX0 7 fa fd ["_law_script"] (spLaw (K w.params))) :
    PySem.W.WalkO q loose XP YP l.row.toRowW d [] (fun f vs => PySem.call f vs) :=
  L2.walk_of (n := 63) (k := 7) (x := "_law_script") (CX := fun _ => CX0) (sp := fun w => spLaw (K w.params)) hn (by decide) hdf ⟨rfl, by decide, by decide⟩ hY F (fun _ _ a ns hl _ hS => ⟨a, ns, rfl, hS, hl, fun _ => rfl⟩) fun _ _ _ _ _ z => z
end K34
open PySem PySem.W PyProof.Rows
local macro_rules
  | `(tactic| nofun) => `(tactic| first | k_is | kernel_rfl)
namespace PySem.W.Fast
def tw15790246701623499736:=0
def tw902494081686814658:=0
def tw8539558295393468493:=0
def tw4032491138986854465:=0
def tw6190223658779086597:=0
def tw248400592313378753:=0
def tw3581050561929953258:=0
def tw13278215939753442249:=0
def tw15942293819142076784:=0
def tw7469345348380700892:=0
def tw2505912469128832370:=0
def tw1474809620685926579:=0
def tw2599739618343565221:=0
def tw6802572745468236057:=0
def tw17993067214114539577:=0
def tw10227154410359107466:=0
def tw2800896572976506234:=0
def tw11191250277292747123:=0
def tw4615305370732978984:=0
def tw8698437092575917711:=0
def tw15477424072927797242:=0
def tw18125772881757725088:=0
def tw2465390152845657512:=0
def tw11508235775807965497:=0
def tw15397934128857677690:=0
def tw5933124680864195497:=0
def tw17428279231730692782:=0
def tw8143686265915721890:=0
def tw5675928833338770714:=0
def tw1798828030810135500:=0
def tw13303054437816814185:=0
def tw5921591958433533002:=0
def tw7226765880312590808:=0
def tw9682718188396126996:=0
def tw14242217900490368990:=0
def tw10702635621296443249:=0
def tw13134438812233985147:=0
def tw12959354865638377437:=0
def tw5334378356422788153:=0
def tw2807685400533906874:=0
def tw5564161254208600203:=0
def tw13572420765765545993:=0
def tw13757229863346103318:=0
def tw8957920927894778248:=0
def tw11796973206716789979:=0
def tw6092593569041999839:=0
def tw247709724452293862:=0
def tw3231048944448233355:=0
def tw14827090988818553996:=0
def tw11332617635260554057:=0
def tw16542641343475426884:=0
def tw8330110323771173192:=0
def tw4182904103433885045:=0
def tw3941201974521231397:=0
def tw12226984995761454600:=0
def tw16498147596096107208:=0
def tw8151960246680408511:=0
def tw1618164315473912699:=0
def tw3328291741908763259:=0
def tw11293999329683918944:=0
def tw14835263364430981947:=0
def tw9832979010611468494:=0
def tw16409875575419643784:=0
def tw7949236866153179551:=0
def tw3153361873212338452:=0
def tw5084348738715953141:=0
def tw4422704366365908935:=0
def tw6761478671654571064:=0
def tw16630852758283692787:=0
def tw18263231496729889010:=0
def tw6282966503283453991:=0
def tw18401435085032174125:=0
def tw7961104659863066563:=0
def tw3413656357822100490:=0
def tw16260047194056418885:=0
def tw17726252277425095488:=0
def tw7381481906784845178:=0
def tw14459791734179457044:=0
def tw1017064748989015123:=0
def tw13003242161403317732:=0
def tw7790609394701378063:=0
def tw1366043101104972887:=0
def tw13148669753312610010:=0
def tw14926682778373245697:=0
def tw17657303474181641942:=0
def tw10338513841033851385:=0
def tw12115642447101537833:=0
def tw13430965161735859578:=0
def tw10210100538226381131:=0
def tw5016179463650130586:=0
def tw3036874453824354221:=0
def tw4255679622159880531:=0
def tw12260627563687614690:=0
def tw13255404097527016173:=0
def tw1074993327001071042:=0
def tw11024968894341735613:=0
def tw14449675931966166636:=0
def tw3495348632662501934:=0
def tw8499489808367507393:=0
def tw10769037306021755142:=0
def tw5458460959540478651:=0
def tw11054655447875606419:=0
def tw6718795560410937616:=0
def tw387057946877795883:=0
def tw12028103239851116160:=0
def tw9017238057060411234:=0
def tw16255186659992687100:=0
def tw5708076256429600232:=0
def tw8599883933875293505:=0
def tw6184378275837232103:=0
def tw12755072989351416008:=0
def tw4665087463204497637:=0
def tw6132287708981105775:=0
def tw3165381379437084793:=0
def tw15947445570381980103:=0
def tw2336519236707767562:=0
def tw3296394964863354173:=0
def tw3914943467398001065:=0
def tw1164439559826646950:=0
def tw16584834156777755863:=0
def tw11890221861683623595:=0
def tw1335461178176810199:=0
def tw2552557482103825316:=0
def tw7392186548134951294:=0
def tw12621636678900259095:=0
def tw1870356035706693707:=0
def tw16473633226946442150:=0
def tw17723964686501535217:=0
def tw11944835515727704451:=0
def tw17199254872500724176:=0
def tw12975102093423303270:=0
def tw9365850796110796285:=0
def tw7121268740844218632:=0
def tw11684483336846333051:=0
def tw18349728881765765738:=0
def tw4671496178887035125:=0
def tw3517172280266763442:=0
def tw3948612773520407635:=0
def tw10298932818779613595:=0
def tw11559765046409153994:=0
def tw5771193022999633459:=0
def tw9440098730052186561:=0
def tw13032664007805038139:=0
def tw11590097665217433197:=0
def tw11897097519905470742:=0
def tw7754802246369398034:=0
def tw13800735167511420115:=0
def tw18105608017434747030:=0
def tw5247097836317779389:=0
def tw8475022197170974696:=0
def tw11081076359128374406:=0
def tw10385188914866125549:=0
def tw15059211750074089436:=0
def tw867659196667129526:=0
def tw1419974291746352682:=0
def tw12548251467118483591:=0
def tw13527492234316770849:=0
def tw3157787528549383707:=0
def tw4392113632247960569:=0
def tw5094218966913406787:=0
def tw4390399520459057289:=0
def tw5148315792599556956:=0
def tw5292575793249179621:=0
def tw14231425632614361480:=0
def tw4679111021459104652:=0
def tw4313956552410528499:=0
def tw7281787587737862003:=0
def tw5505177347133302703:=0
def tw15811102061314835622:=0
def tw2215855433782598274:=0
def tw16377989978610149083:=0
def tw17019179208273325250:=0
def tw10583897821722731122:=0
def tw9597469828213114068:=0
def tw17126262612628365469:=0
def tw17902569679932686523:=0
def tw12644773635168742101:=0
def tw863107244580078198:=0
def tw2353342791976276781:=0
def tw18102610546113624172:=0
def tw584585233702196069:=0
def tw14711523594047242373:=0
def tw1439588009089454602:=0
def tw17769755358449656212:=0
def tw11288093479236371129:=0
def tw4878015457980668835:=0
def tw13902493230306483886:=0
def tw855542432419658840:=0
def tw903747941353132332:=0
def tw14648539416293587822:=0
def tw15788134280364894755:=0
def tw12160291027336757575:=0
def tw8518264682389481430:=0
def tw13028372319012707739:=0
def tw17507121507955211673:=0
def tw13302018835137329346:=0
def tw687817759212196338:=0
def tw14676605339693771719:=0
def tw13383394444209488930:=0
def tw11297407053709025255:=0
def tw10200543999106976349:=0
def tw3072144293730045238:=0
def tw15569391048067527378:=0
def tw14808033523898982749:=0
def tw14985364674460431277:=0
def tw5578127847268990363:=0
def tw17959617446195383624:=0
def tw1048664225898160134:=0
def tw13005231700308068898:=0
def tw5843917534184324680:=0
def tw13476541463251139346:=0
def tw2650819364792478636:=0
def tw451558712463996430:=0
def tw1160118993027361252:=0
def tw13332548797555124114:=0
def tw1165202639875690300:=0
def tw10728784115381047431:=0
def tw15526758100897931501:=0
def tw12512833730525980448:=0
def tw11832791376497162755:=0
def tw7335396947487543976:=0
def tw13996705564069117690:=0
def tw8205502099500744068:=0
def tw16338518461148565710:=0
def tw10464451539721856711:=0
def tw9203718267061306311:=0
def tw16452415032891044139:=0
def tw5723810508889418675:=0
def tw10861575741597826820:=0
def tw15095500152675927387:=0
def tw17011032311848221722:=0
def tw3291931996714185556:=0
def tw12434565834243663102:=0
def tw2697230712216918452:=0
def tw6235727174347908689:=0
def tw10652417552552719107:=0
def tw7850935699109048667:=0
def tw7886247011657545964:=0
def tw1160180874353432646:=0
def tw9889028723541449594:=0
def tw7078621467978494634:=0
def tw138842828423795155:=0
def tw17909713233065174314:=0
def tw2727399445031038240:=0
def tw8242124256245859567:=0
def tw14675354988286188003:=0
def tw15910852990086167719:=0
def tw8140548661990264840:=0
def tw8122305323388053635:=0
def tw5107474465849548358:=0
def tw5812203414522737650:=0
def tw4545905026865916027:=0
def tw6135755129256385479:=0
def tw16170325593360299483:=0
def tw7112055116954490:=0
def tw18384079748912832261:=0
def tw3208860520494176281:=0
def tw7778426788439947718:=0
def tw14096391888603007396:=0
def tw3230353255418036777:=0
def tw7920645057038424995:=0
def tw17770276223784782034:=0
def tw439890825688789542:=0
def tw4687998810934724362:=0
def tw10731276643737815642:=0
def tw18343912147098770530:=0
def tw15946013849546946221:=0
def tw15185575277920900025:=0
def tw13666332390345847810:=0
def tw4859403561750508494:=0
def tw4772729486259462162:=0
def tw149822423892074002:=0
def tw11511675914992828983:=0
def tw6831028031141035198:=0
def tw15031083690844847431:=0
def tw15103470215389843065:=0
def tw9500238748943067526:=0
def tw18350830900283728363:=0
def tw486683074682737199:=0
def tw209605765463063387:=0
def tw4993569316365540784:=0
def tw1837061865637995850:=0
def tw2420320523189228909:=0
def tw2968584917898262281:=0
def tw5134141417192726453:=0
def tw7643021427431727027:=0
def tw17276796497142346904:=0
def tw18119671635697386750:=0
def tw5772692117125931567:=0
def tw16705625721493200676:=0
def tw6151704217910112236:=0
def tw14962117118136524621:=0
def tw9033671324615334927:=0
def tw2366695751755533799:=0
def tw16492588400216234285:=0
def tw15486248781731504992:=0
def tw2650043385560961276:=0
def tw874860852879940294:=0
def tw4556131443927156442:=0
def tw9641740944655141360:=0
def tw10385157007896279975:=0
def tw12017745450728527851:=0
def tw17380919099143065154:=0
def tw9545879592517303517:=0
def tw9148703994018085771:=0
def tw261720737006242017:=0
def tw7685819910427938340:=0
def tw13560668056503039381:=0
def tw8521147240057928284:=0
def tw1753095041572772833:=0
def tw14411120978481070048:=0
def tw16799883070760243619:=0
def tw3386510632110318174:=0
def tw6179210425399166150:=0
def tw9707960222029398869:=0
def tw11912503291594438018:=0
def tw1210521657229398746:=0
def tw4144470024481097383:=0
def tw323270867460756126:=0
def tw6906812366428957765:=0
def tw10851272266567640562:=0
def tw9789190706273441728:=0
def tw14406818829463398630:=0
def tw5244613631112579899:=0
def tw14811124438098135410:=0
def tw1559156077947710595:=0
def tw9654014061529208791:=0
def tw2253718236281127387:=0
def tw1097829842538507008:=0
def tw9186998124691992429:=0
def tw466332026088890358:=0
def tw16043574877457237068:=0
def tw8992636176060555907:=0
def tw1707439635780634693:=0
def tw4367876708049366343:=0
def tw15768051615236640606:=0
def tw4903686773193196234:=0
def tw5888624213393973864:=0
def tw753772580012490667:=0
def tw18359550213653424246:=0
def tw2144058963102647988:=0
def tw6337071439758290527:=0
def tw17289112685375734021:=0
def tw4486899980296185113:=0
def tw17627895201244848317:=0
def tw5197466405366141178:=0
def tw17949968629175779502:=0
def tw2416566082089262555:=0
def tw15683031298133722889:=0
def tw4073845222363612816:=0
def tw12045316842299503769:=0
def tw15957415754604524515:=0
def tw11418376256907387742:=0
def tw11396873337185104302:=0
def tw7874485551159874084:=0
def tw9477619066481214206:=0
def tw1816663634484714643:=0
def tw11124042789360100883:=0
def tw16592408480717141816:=0
def tw8506687646037521595:=0
def tw6373801424706423259:=0
def tw433229720724247922:=0
def tw11537681268615814266:=0
def tw15446738292377676237:=0
def tw10894406232219726698:=0
def tw15269079813390706608:=0
end PySem.W.Fast
set_option maxRecDepth 100000 in
set_option maxHeartbeats 0 in
theorem PySem.Challenge.cw_findcourt_k34_lines_of_deeds_looked_at_holds : PySem.Challenge.rw_findcourt_k34_lines_of_deeds_looked_at.Holds := by
  w_on; o_law; k_head; (case hw => w_witness2)
  k_fill
  refine K34.walk (l := PySem.Challenge.rw_findcourt_k34_lines_of_deeds_looked_at) rfl rfl (fun w h Y => PySem.W.kIn_of Y) ?F
  case F =>
    intro w mg fa h KX G hmg
    refine' K34.all_mk (tk0 := 0) KX G hmg ?a1 ?l1 ?c1 ?k1 ?a2 ?l2 ?c2 ?k2 ?a3 ?l3 ?c3 ?k3 ?a4 ?l4 ?c4 ?k4 ?a5 ?l5 ?c5 ?k5 ?a6 ?l6 ?c6 ?k6 ?a7 ?l7 ?c7 ?k7 ?a8 ?l8 ?c8 ?k8 ?a9 ?l9 ?c9 ?k9 ?a10 ?l10 ?c10 ?k10 ?a11 ?l11 ?c11 ?k11 ?a12 ?l12 ?c12 ?k12 ?a13 ?l13 ?c13 ?k13 ?a14 ?l14 ?c14 ?k14 ?a15 ?l15 ?c15 ?k15 ?a16 ?l16 ?c16 ?k16 ?a17 ?l17 ?c17 ?k17 ?a18 ?l18 ?c18 ?k18 ?a19 ?l19 ?c19 ?k19 ?a20 ?l20 ?c20 ?k20 ?a21 ?l21 ?c21 ?k21 ?a22 ?l22 ?c22 ?k22 ?a23 ?l23 ?c23 ?k23 ?a24 ?l24 ?c24 ?k24 ?a25 ?l25 ?c25 ?k25 ?a26 ?l26 ?c26 ?k26 ?a27 ?l27 ?c27 ?k27 ?a28 ?l28 ?c28 ?k28 ?a29 ?l29 ?c29 ?k29 ?a30 ?l30 ?c30 ?k30 ?a31 ?l31 ?c31 ?k31 ?a32 ?l32 ?c32 ?k32 ?nFE ?nNF ?nNM ?nNB ?nND ?nNS ?nNQ ?nNP ?nNL ?nNT ?isXF ?jsXF ?lsXF ?csXF ?ksXF ?nD ?dD ?wD ?y0 ?y1 ?y2 ?y3 ?y4 ?y5 ?y6 ?y7 ?y8 ?kcF ?eE ?eN ?eL ?eK ?eI ?bE ?x1NF ?x2NF ?x3NF ?x4NF ?eF ?bF ?xmF ?x1 ?x2 ?x3 ?x4 ?x6 ?x5 ?x7 ?g1 ?g2 ?g3 ?g4 ?g5 ?g6 ?g7 ?g8 ?vNF ?wNF ?vNM ?wNM ?vNB ?wNB ?vND ?wND ?vNS ?wNS ?vNQ ?wNQ ?vNP ?wNP ?vNL ?wNL ?vNT ?wNT ?vVE ?wVE ?s1 ?s2 ?s3 ?s4 ?z1 ?z2 ?z3 ?z4 ?z5 ?z6 ?z7 ?z8 ?z9 ?z10 ?z11 ?z12 ?z13 ?z14
    (case a1 => nofun)
    (case l1 => nofun)
    (case c1 => nofun)
    (case k1 => nofun)
    (case a2 => nofun)
    (case l2 => nofun)
    (case c2 => nofun)
    (case k2 => nofun)
    (case a3 => nofun)
    (case l3 => nofun)
    (case c3 => nofun)
    (case k3 => nofun)
    (case a4 => nofun)
    (case l4 => nofun)
    (case c4 => nofun)
    (case k4 => nofun)
    (case a5 => nofun)
    (case l5 => nofun)
    (case c5 => nofun)
    (case k5 => nofun)
    (case a6 => nofun)
    (case l6 => nofun)
    (case c6 => nofun)
    (case k6 => nofun)
    (case a7 => nofun)
    (case l7 => nofun)
    (case c7 => nofun)
    (case k7 => nofun)
    (case a8 => nofun)
    (case l8 => nofun)
    (case c8 => nofun)
    (case k8 => nofun)
    (case a9 => nofun)
    (case l9 => nofun)
    (case c9 => nofun)
    (case k9 => nofun)
    (case a10 => nofun)
    (case l10 => nofun)
    (case c10 => nofun)
    (case k10 => nofun)
    (case a11 => nofun)
    (case l11 => nofun)
    (case c11 => nofun)
    (case k11 => nofun)
    (case a12 => nofun)
    (case l12 => nofun)
    (case c12 => nofun)
    (case k12 => nofun)
    (case a13 => nofun)
    (case l13 => nofun)
    (case c13 => nofun)
    (case k13 => nofun)
    (case a14 => nofun)
    (case l14 => nofun)
    (case c14 => nofun)
    (case k14 => nofun)
    (case a15 => nofun)
    (case l15 => nofun)
    (case c15 => nofun)
    (case k15 => nofun)
    (case a16 => nofun)
    (case l16 => nofun)
    (case c16 => nofun)
    (case k16 => nofun)
    (case a17 => nofun)
    (case l17 => nofun)
    (case c17 => nofun)
    (case k17 => nofun)
    (case a18 => nofun)
    (case l18 => nofun)
    (case c18 => nofun)
    (case k18 => nofun)
    (case a19 => nofun)
    (case l19 => nofun)
    (case c19 => nofun)
    (case k19 => nofun)
    (case a20 => nofun)
    (case l20 => nofun)
    (case c20 => nofun)
    (case k20 => nofun)
    (case a21 => nofun)
    (case l21 => nofun)
    (case c21 => nofun)
    (case k21 => nofun)
    (case a22 => nofun)
    (case l22 => nofun)
    (case c22 => nofun)
    (case k22 => nofun)
    (case a23 => nofun)
    (case l23 => nofun)
    (case c23 => nofun)
    (case k23 => nofun)
    (case a24 => nofun)
    (case l24 => nofun)
    (case c24 => nofun)
    (case k24 => nofun)
    (case a25 => nofun)
    (case l25 => nofun)
    (case c25 => nofun)
    (case k25 => nofun)
    (case a26 => nofun)
    (case l26 => nofun)
    (case c26 => nofun)
    (case k26 => nofun)
    (case a27 => nofun)
    (case l27 => nofun)
    (case c27 => nofun)
    (case k27 => nofun)
    (case a28 => nofun)
    (case l28 => nofun)
    (case c28 => nofun)
    (case k28 => nofun)
    (case a29 => nofun)
    (case l29 => nofun)
    (case c29 => nofun)
    (case k29 => nofun)
    (case a30 => nofun)
    (case l30 => nofun)
    (case c30 => nofun)
    (case k30 => nofun)
    (case a31 => nofun)
    (case l31 => nofun)
    (case c31 => nofun)
    (case k31 => nofun)
    (case a32 => nofun)
    (case l32 => nofun)
    (case c32 => nofun)
    (case k32 => nofun)
    (case nFE => nofun)
    (case nNF => nofun)
    (case nNM => nofun)
    (case nNB => nofun)
    (case nND => nofun)
    (case nNS => nofun)
    (case nNQ => nofun)
    (case nNP => nofun)
    (case nNL => nofun)
    (case nNT => nofun)
    (case isXF => nofun)
    (case jsXF => nofun)
    (case lsXF => nofun)
    (case csXF => nofun)
    (case ksXF => nofun)
    (case nD => nofun)
    (case dD => nofun)
    (case wD => nofun)
    (case y0 => nofun)
    (case y1 => nofun)
    (case y2 => nofun)
    (case y3 => nofun)
    (case y4 => nofun)
    (case y5 => nofun)
    (case y6 => nofun)
    (case y7 => nofun)
    (case y8 => nofun)
    (case kcF => nofun)
    (case eE => nofun)
    (case eN => exact rfl)
    (case eL => nofun)
    (case eK => exact rfl)
    (case eI => exact rfl)
    (case bE => nofun)
    (case x1NF => nofun)
    (case x2NF => exact ⟨_, _, _, _, _, _, _, _, _, _, _, _, _, _, rfl⟩)
    (case x3NF => nofun)
    (case x4NF => nofun)
    (case eF => nofun)
    (case bF => nofun)
    (case xmF => nofun)
    (case x1 => nofun)
    (case x2 => exact ⟨_, _, _, _, _, _, _, _, _, _, _, _, _, rfl⟩)
    (case x3 => nofun)
    (case x4 => exact rfl)
    (case x6 => exact rfl)
    (case x5 => nofun)
    (case x7 => nofun)
    (case g1 => nofun)
    (case g2 => nofun)
    (case g3 => nofun)
    (case g4 => nofun)
    (case g5 => nofun)
    (case g6 => nofun)
    (case g7 => nofun)
    (case g8 => nofun)
    (case vNF => nofun)
    (case wNF => nofun)
    (case vNM => nofun)
    (case wNM => nofun)
    (case vNB => nofun)
    (case wNB => nofun)
    (case vND => nofun)
    (case wND => nofun)
    (case vNS => nofun)
    (case wNS => nofun)
    (case vNQ => nofun)
    (case wNQ => nofun)
    (case vNP => nofun)
    (case wNP => nofun)
    (case vNL => nofun)
    (case wNL => nofun)
    (case vNT => nofun)
    (case wNT => nofun)
    (case vVE => nofun)
    (case wVE => nofun)
    (case s1 => nofun)
    (case s2 => nofun)
    (case s3 => nofun)
    (case s4 => nofun)
    (case z1 => nofun)
    (case z2 => nofun)
    (case z3 => nofun)
    (case z4 => nofun)
    (case z5 => nofun)
    (case z6 => nofun)
    (case z7 => nofun)
    (case z8 => nofun)
    (case z9 => nofun)
    (case z10 => nofun)
    (case z11 => nofun)
    (case z12 => nofun)
    (case z13 => nofun)
    (case z14 => nofun)
