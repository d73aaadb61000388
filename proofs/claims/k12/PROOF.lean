import PyProof.Rows.All
import Wide.All
import OpenK.AllK
import Wide.FinOn
import HandS.ForMost
import HandS.IsInst
import KE.KeyNested
import PyProof.DictRoadsH
import KE.LtData
import HandS.TupAny
import HandS.Flow
import KE.SortKeyHeap
import HandS.SortKw
import KE.KDictLaws
import HandS.Iter
import HandS.DictComp
import HandS.Conv
import PyProof.Rows.TupTab
import KE.KRevSl
import HandS.TupMul
import HandS.Style
import KE.KDictKeyed
import KE.KDictWalk
import KE.KDictList
import PySem.Challenge.RW_calltowers_k12_truth_on_round_runs
set_option Elab.async false
set_option linter.all false
set_option maxRecDepth 100000
namespace ML
open PySem L2

/-! ### data, heap of mutable things, the monad -/
inductive D where
  | non | bl (b : Bool) | int (i : Int) | str (x : Str) | tup (xs : List D) | ref (i : Nat) | glob (x : Str) | fro (xs : List D)
inductive O where
  | lst (xs : List D)
  | dic (kvs : List (D × D))
  | ldic (kvs : List (D × D))
  | tdc (kvs : List (D × D))
  | ltdc (kvs : List (D × D))
  | ins (c : Str) (fs : List (Str × D))
mutual
def D.beq : D → D → Bool
  | .non, .non => true
  | .bl a, .bl b => a == b
  | .int a, .int b => a == b
  | .str a, .str b => decide (a = b)
  | .tup a, .tup b => D.beqs a b
  | .ref a, .ref b => a == b
  | .glob a, .glob b => decide (a = b)
  | .fro a, .fro b => D.beqs a b
  | _, _ => false
def D.beqs : List D → List D → Bool
  | [], [] => true
  | a :: r, b :: s => D.beq a b && D.beqs r s
  | _, _ => false
end
mutual
theorem D.beq_iff : ∀ (a b : D), D.beq a b = true ↔ a = b
  | .non, b => by cases b <;> simp [D.beq]
  | .bl _, b => by cases b <;> simp [D.beq]
  | .int _, b => by cases b <;> simp [D.beq]
  | .str _, b => by cases b <;> simp [D.beq]
  | .tup xs, b => by
    cases b with
    | tup ys => rw [D.beq, D.beqs_iff xs ys]; simp
    | _ => simp [D.beq]
  | .ref _, b => by cases b <;> simp [D.beq]
  | .glob _, b => by cases b <;> simp [D.beq]
  | .fro xs, b => by
    cases b with
    | fro ys => rw [D.beq, D.beqs_iff xs ys]; simp
    | _ => simp [D.beq]
theorem D.beqs_iff : ∀ (a b : List D), D.beqs a b = true ↔ a = b
  | [], b => by cases b <;> simp [D.beqs]
  | x :: r, b => by
    cases b with
    | nil => simp [D.beqs]
    | cons y s => rw [D.beqs, Bool.and_eq_true, D.beq_iff x y, D.beqs_iff r s]; simp
end
instance : DecidableEq D := fun a b => if h : D.beq a b = true then .isTrue ((D.beq_iff a b).mp h) else .isFalse fun e => h ((D.beq_iff a b).mpr e)
abbrev Hm := List O
def M (α : Type) : Type := Hm → Option (α × Hm)
@[inline] def M.ret {α : Type} (a : α) : M α := fun h => some (a, h)
def M.bnd {α β : Type} (m : M α) (f : α → M β) : M β := fun h => match m h with
  | none => none
  | some (a, h1) => f a h1
instance : Monad M where
  pure := M.ret
  bind := M.bnd
def M.bad {α : Type} : M α := fun _ => none
theorem pure_app {α : Type} (a : α) (h : Hm) : (pure a : M α) h = some (a, h) := rfl
theorem bind_app {α β : Type} (m : M α) (f : α → M β) (h : Hm) : (m >>= f) h = (match m h with | none => none | some (a, h1) => f a h1) := rfl
theorem bind_some {α β : Type} {m : M α} {f : α → M β} {h h2 : Hm} {b : β} (e : (m >>= f) h = some (b, h2)) : ∃ a h1, m h = some (a, h1) ∧ f a h1 = some (b, h2) := by
  rw [bind_app] at e
  cases q : m h with
  | none => rw [q] at e; cases e
  | some p => obtain ⟨a, h1⟩ := p; rw [q] at e; exact ⟨a, h1, rfl, e⟩
theorem bind_of {α β : Type} {m : M α} {f : α → M β} {h h1 : Hm} {a : α} (e : m h = some (a, h1)) : (m >>= f) h = f a h1 := by rw [bind_app, e]
theorem pure_some {α : Type} {a b : α} {h h1 : Hm} (e : (pure a : M α) h = some (b, h1)) : a = b ∧ h = h1 := by
  have e' : some (a, h) = some (b, h1) := e
  injection e' with e'
  injection e' with e1 e2
  exact ⟨e1, e2⟩
abbrev Sm := List (Option D)
inductive Fl where | nx (σ : Sm) | rt (d : D) | bk (σ : Sm) | ct (σ : Sm)

/-- a list that nobody writes -/
def FzL (K : PySem.W.Frag) (H : Hp) (a : Addr) (xs : List V) : Prop :=
  (∃ o, H a = some (.frz o (.lst xs))) ∨ ∃ (o : Obj) (its : Array Value) (n : Nat), K.lookup a = some o ∧ o.cls = .type "list" ∧ o.dict = none ∧ o.data = .seq its n ∧ its.size ≤ sizeLine ∧ Vals xs its.toList
theorem FzL.sq {K : PySem.W.Frag} {H : Hp} {a : Addr} {xs : List V} (h : FzL K H a xs) : SqL K H a xs := by
  rcases h with ⟨o, h⟩ | h
  · exact .inl (.inr ⟨o, h⟩)
  · exact .inr h
/-! ### what stands for what -/
structure Tx where
  K : PySem.W.Frag
  mg : Str → Option Value
  P : Program
  w : World
abbrev tx (X : Cx) : Tx := ⟨X.K, X.mg, X.prog, X.w⟩
/-- a dict with tuples as keys: its one object -/
def TDx (P : Program) (w : World) (a : Addr) (xs : List (NestedKey × Addr × Value)) : Heap → Prop := fun h => (a == sysModules) = false ∧ xs.length ≤ sizeLine ∧
  ∃ o es ep, h.get? a = some o ∧ o.ExactDict ∧ o.data = .dict es ep ∧ es.toList = xs.map (entryOfKey (nestedKind P w)) ∧ (xs.map (·.1)).Nodup
mutual
/-- data as a key -/
def kN : D → Option NestedKey
  | .non => some .none
  | .int i => some (.num i)
  | .str x => some (.text x)
  | .tup xs => (kNs xs).map .tup
  | _ => none
def kNs : List D → Option (List NestedKey)
  | [] => some []
  | d :: r => match kN d, kNs r with
    | some k, some ks => some (k :: ks)
    | _, _ => none
end
mutual
def RV (T : Tx) (ι : List Addr) (H : Hp) : D → V → Prop
  | .non, v => v = .non
  | .bl b, v => v = .bl b
  | .int i, v => v = .int i
  | .str x, v => v = .str x
  | .tup ds, v => ∃ a xs, v = .ref a ∧ SqT T.K H a xs ∧ RVs T ι H ds xs
  | .ref i, v => ∃ a, ι[i]? = some a ∧ v = .ref a
  | .glob x, v => ∃ u, T.mg x = some u ∧ RelV v u
  | .fro ds, v => ∃ a xs, v = .ref a ∧ FzL T.K H a xs ∧ RVs T ι H ds xs
def RVs (T : Tx) (ι : List Addr) (H : Hp) : List D → List V → Prop
  | [], xs => xs = []
  | d :: ds, xs => ∃ x r, xs = x :: r ∧ RV T ι H d x ∧ RVs T ι H ds r
end
def kD : D → Option Key
  | .int i => some (.inl i)
  | .str x => some (.inr x)
  | _ => none
def KRs (T : Tx) (ι : List Addr) (H : Hp) : List (D × D) → List (Key × V) → Prop
  | [], ks => ks = []
  | p :: r, ks => ∃ k v s, ks = (k, v) :: s ∧ kD p.1 = some k ∧ RV T ι H p.2 v ∧ KRs T ι H r s
def FRs (T : Tx) (ι : List Addr) (H : Hp) : List (Str × D) → List (Str × V) → Prop
  | [], fs => fs = []
  | p :: r, fs => ∃ v s, fs = (p.1, v) :: s ∧ RV T ι H p.2 v ∧ FRs T ι H r s
def TRs (T : Tx) (ι : List Addr) (H : Hp) : List (D × D) → List (NestedKey × Addr × Value) → Prop
  | [], xs => xs = []
  | p :: r, xs => ∃ nk b u v s, xs = (nk, b, u) :: s ∧ kN p.1 = some nk ∧ nk.depth ≤ 8 ∧ RV T ι H p.1 (.ref b) ∧ RV T ι H p.2 v ∧ RelV v u ∧ TRs T ι H r s
def OR (T : Tx) (ι : List Addr) (H : Hp) (a : Addr) : O → Prop
  | .lst ds => ∃ xs, H a = some (.lst xs) ∧ RVs T ι H ds xs
  | .dic kvs => ∃ ks, H a = some (.dK ks) ∧ KRs T ι H kvs ks
  | .ldic kvs => ∃ o ks, H a = some (.frz o (.dK ks)) ∧ KRs T ι H kvs ks
  | .tdc kvs => ∃ xs, H a = some (.ext (TDx T.P T.w a xs)) ∧ TRs T ι H kvs xs
  | .ltdc kvs => ∃ o xs, H a = some (.frz o (.ext (TDx T.P T.w a xs))) ∧ TRs T ι H kvs xs
  | .ins c fs => ∃ C dx fs', T.mg c = some (.ref C) ∧ H a = some (.ins C dx fs') ∧ FRs T ι H fs fs'
/-- not a tuple -/
def NoT : HO → Prop
  | .tup _ => False
  | .own _ => False
  | .frz _ (.lst _) => False
  | .frz _ (.tup _) => False
  | _ => True
structure Rl (T : Tx) (ι : List Addr) (H : Hp) (h : Hm) : Prop where
  len : ι.length = h.length
  nd : ι.Nodup
  obj : ∀ (i : Nat) (a : Addr) (o : O), ι[i]? = some a → h[i]? = some o → OR T ι H a o
structure Ex (ι : List Addr) (H : Hp) (ι1 : List Addr) (H1 : Hp) : Prop where
  pre : ∃ r, ι1 = ι ++ r ∧ ∀ a ∈ r, H a = none
  fr : ∀ b o, H b = some o → b ∉ ι → H1 b = some o
  fz : ∀ b o u, H b = some (.frz o u) → H1 b = some (.frz o u)
/-- readings that stay -/
structure Up (T : Tx) (ι : List Addr) (H : Hp) (ι1 : List Addr) (H1 : Hp) : Prop where
  ix : ∀ (i : Nat) (a : Addr), ι[i]? = some a → ι1[i]? = some a
  tp : ∀ a xs, SqT T.K H a xs → SqT T.K H1 a xs
  fz : ∀ a xs, FzL T.K H a xs → FzL T.K H1 a xs
theorem OR.at {T : Tx} {ι : List Addr} {H : Hp} {a : Addr} {o : O} (x : OR T ι H a o) : ∃ u, H a = some u ∧ NoT u := by
  cases o with
  | lst ds => obtain ⟨xs, e, _⟩ := x; exact ⟨_, e, trivial⟩
  | dic kvs => obtain ⟨xs, e, _⟩ := x; exact ⟨_, e, trivial⟩
  | ldic kvs => obtain ⟨o, xs, e, _⟩ := x; exact ⟨_, e, trivial⟩
  | tdc kvs => obtain ⟨xs, e, _⟩ := x; exact ⟨_, e, trivial⟩
  | ltdc kvs => obtain ⟨o, xs, e, _⟩ := x; exact ⟨_, e, trivial⟩
  | ins c fs => obtain ⟨C, dx, fs', _, e, _⟩ := x; exact ⟨_, e, trivial⟩
theorem Rl.at {T : Tx} {ι : List Addr} {H : Hp} {h : Hm} (x : Rl T ι H h) {a : Addr} (m : a ∈ ι) : ∃ u, H a = some u ∧ NoT u := by
  obtain ⟨i, hi, e⟩ := List.getElem_of_mem m
  have e1 : ι[i]? = some a := by rw [List.getElem?_eq_getElem hi, e]
  have hj : i < h.length := by rw [← x.len]; exact hi
  exact (x.obj i a h[i] e1 (List.getElem?_eq_getElem hj)).at
theorem Ex.up {T : Tx} {ι ι1 : List Addr} {H H1 : Hp} {h : Hm} (x : Ex ι H ι1 H1) (r : Rl T ι H h) : Up T ι H ι1 H1 := by
  have na : ∀ a u, H a = some u → ¬ NoT u → a ∉ ι := fun a u e n m => by
    obtain ⟨u', e', n'⟩ := r.at m
    rw [e] at e'; cases e'
    exact n n'
  refine ⟨fun i a e => ?_, fun a xs s => ?_, fun a xs s => ?_⟩
  · obtain ⟨s, e1, _⟩ := x.pre
    rw [e1, List.getElem?_append_left (List.getElem?_eq_some_iff.mp e).1]
    exact e
  · rcases s with (s | ⟨o, s⟩) | s
    · exact .inl (.inl (x.fr _ _ s (na _ _ s fun z => z)))
    · exact .inl (.inr ⟨o, x.fr _ _ s (na _ _ s fun z => z)⟩)
    · exact .inr s
  · rcases s with ⟨o, s⟩ | s
    · exact .inl ⟨o, x.fr _ _ s (na _ _ s fun z => z)⟩
    · exact .inr s
theorem Ex.refl (ι : List Addr) (H : Hp) : Ex ι H ι H := ⟨⟨[], by simp, fun _ z => by simp at z⟩, fun _ _ e _ => e, fun _ _ _ e => e⟩
theorem Ex.trans {T : Tx} {ι ι1 ι2 : List Addr} {H H1 H2 : Hp} {h1 : Hm} (x : Ex ι H ι1 H1) (r : Rl T ι1 H1 h1) (y : Ex ι1 H1 ι2 H2) : Ex ι H ι2 H2 := by
  obtain ⟨s, e, n⟩ := x.pre
  obtain ⟨s', e', n'⟩ := y.pre
  refine ⟨⟨s ++ s', by rw [e', e, List.append_assoc], fun a m => ?_⟩, fun b o q m => ?_, fun b o u q => y.fz b o u (x.fz b o u q)⟩
  · rcases List.mem_append.mp m with m | m
    · exact n a m
    · cases q : H a with
      | none => rfl
      | some o =>
        by_cases hi : a ∈ ι
        · obtain ⟨u, e2, _⟩ := r.at (a := a) (by rw [e]; exact List.mem_append_left _ hi)
          rw [n' a m] at e2; cases e2
        · have := x.fr a o q hi
          rw [n' a m] at this; cases this
  · refine y.fr b o (x.fr b o q m) fun z => ?_
    rw [e] at z
    rcases List.mem_append.mp z with z | z
    · exact m z
    · rw [n b z] at q; cases q
mutual
theorem RV.up {T : Tx} {ι ι1 : List Addr} {H H1 : Hp} (u : Up T ι H ι1 H1) : ∀ (d : D) (v : V), RV T ι H d v → RV T ι1 H1 d v
  | .non, v, r => r
  | .bl b, v, r => r
  | .int i, v, r => r
  | .str x, v, r => r
  | .tup ds, v, r => by
    rw [RV] at r ⊢
    obtain ⟨a, xs, e, s, q⟩ := r
    exact ⟨a, xs, e, u.tp a xs s, RVs.up u ds xs q⟩
  | .ref i, v, r => by
    rw [RV] at r ⊢
    obtain ⟨a, e, q⟩ := r
    exact ⟨a, u.ix i a e, q⟩
  | .glob x, v, r => by
    rw [RV] at r ⊢
    exact r
  | .fro ds, v, r => by
    rw [RV] at r ⊢
    obtain ⟨a, xs, e, s, q⟩ := r
    exact ⟨a, xs, e, u.fz a xs s, RVs.up u ds xs q⟩
theorem RVs.up {T : Tx} {ι ι1 : List Addr} {H H1 : Hp} (u : Up T ι H ι1 H1) : ∀ (ds : List D) (xs : List V), RVs T ι H ds xs → RVs T ι1 H1 ds xs
  | [], xs, r => r
  | d :: ds, xs, r => by
    rw [RVs] at r ⊢
    obtain ⟨x, s, e, q, p⟩ := r
    exact ⟨x, s, e, RV.up u d x q, RVs.up u ds s p⟩
end
theorem KRs.up {T : Tx} {ι ι1 : List Addr} {H H1 : Hp} (u : Up T ι H ι1 H1) : ∀ (ds : List (D × D)) (ks : List (Key × V)), KRs T ι H ds ks → KRs T ι1 H1 ds ks
  | [], _, r => r
  | p :: ds, ks, r => by
    obtain ⟨k, v, s, e, ek, q, t⟩ := r
    exact ⟨k, v, s, e, ek, RV.up u _ _ q, KRs.up u ds s t⟩
theorem FRs.up {T : Tx} {ι ι1 : List Addr} {H H1 : Hp} (u : Up T ι H ι1 H1) : ∀ (ds : List (Str × D)) (ks : List (Str × V)), FRs T ι H ds ks → FRs T ι1 H1 ds ks
  | [], _, r => r
  | p :: ds, ks, r => by
    obtain ⟨v, s, e, q, t⟩ := r
    exact ⟨v, s, e, RV.up u _ _ q, FRs.up u ds s t⟩
theorem TRs.up {T : Tx} {ι ι1 : List Addr} {H H1 : Hp} (u : Up T ι H ι1 H1) : ∀ (ds : List (D × D)) (ks : List (NestedKey × Addr × Value)), TRs T ι H ds ks → TRs T ι1 H1 ds ks
  | [], _, r => r
  | p :: ds, ks, r => by
    obtain ⟨nk, b, v, w, s, e, e1, e2, q1, q2, q3, t⟩ := r
    exact ⟨nk, b, v, w, s, e, e1, e2, RV.up u _ _ q1, RV.up u _ _ q2, q3, TRs.up u ds s t⟩
theorem OR.up {T : Tx} {ι ι1 : List Addr} {H H1 : Hp} (u : Up T ι H ι1 H1) {a : Addr} (e : H1 a = H a) : ∀ {o : O}, OR T ι H a o → OR T ι1 H1 a o
  | .lst ds, r => by obtain ⟨xs, e1, q⟩ := r; exact ⟨xs, e.trans e1, RVs.up u _ _ q⟩
  | .dic kvs, r => by obtain ⟨xs, e1, q⟩ := r; exact ⟨xs, e.trans e1, KRs.up u _ _ q⟩
  | .ldic kvs, r => by obtain ⟨o, xs, e1, q⟩ := r; exact ⟨o, xs, e.trans e1, KRs.up u _ _ q⟩
  | .tdc kvs, r => by obtain ⟨xs, e1, q⟩ := r; exact ⟨xs, e.trans e1, TRs.up u _ _ q⟩
  | .ltdc kvs, r => by obtain ⟨o, xs, e1, q⟩ := r; exact ⟨o, xs, e.trans e1, TRs.up u _ _ q⟩
  | .ins c fs, r => by obtain ⟨C, dx, fs', e0, e1, q⟩ := r; exact ⟨C, dx, fs', e0, e.trans e1, FRs.up u _ _ q⟩
/-! ### the state, the slots -/
structure RS (T : Tx) (ι : List Addr) (H : Hp) (σm : Sm) (σ : St) : Prop where
  len : σm.length = σ.length
  at_ : ∀ (i : Nat) (d : D), σm[i]? = some (some d) → ∃ v, σ[i]? = some (some v) ∧ RV T ι H d v
theorem RS.up {T : Tx} {ι ι1 : List Addr} {H H1 : Hp} (u : Up T ι H ι1 H1) {σm : Sm} {σ : St} (r : RS T ι H σm σ) : RS T ι1 H1 σm σ :=
  ⟨r.len, fun i d e => let ⟨v, e1, q⟩ := r.at_ i d e; ⟨v, e1, RV.up u d v q⟩⟩
theorem RS.set {T : Tx} {ι : List Addr} {H : Hp} {σm : Sm} {σ : St} (r : RS T ι H σm σ) (i : Nat) {d : D} {v : V} (q : RV T ι H d v) : RS T ι H (σm.set i (some d)) (σ.set i (some v)) := by
  refine ⟨by rw [List.length_set, List.length_set, r.len], fun j e h => ?_⟩
  by_cases hj : i = j
  · subst hj
    by_cases hl : i < σm.length
    · rw [List.getElem?_set_self hl] at h
      cases h
      exact ⟨v, List.getElem?_set_self (by rw [← r.len]; exact hl), q⟩
    · rw [List.getElem?_eq_none (by rw [List.length_set]; omega)] at h; cases h
  · rw [List.getElem?_set_ne hj] at h ⊢
    exact r.at_ j e h
/-- a new object of ours -/
theorem Rl.new {T : Tx} {ι : List Addr} {H : Hp} {h : Hm} {p : Addr} {u : HO} {o : O} (r : Rl T ι H h) (hp : H p = none) (q : Up T ι H (ι ++ [p]) (upd H p u) → OR T (ι ++ [p]) (upd H p u) p o) : Ex ι H (ι ++ [p]) (upd H p u) ∧ Rl T (ι ++ [p]) (upd H p u) (h ++ [o]) := by
  have x : Ex ι H (ι ++ [p]) (upd H p u) := ⟨⟨[p], rfl, fun a m => by rw [List.mem_singleton.mp m]; exact hp⟩, fun b o' e _ => by rw [upd_ne (ne_of_none e hp)]; exact e, fun b o' u' e => by rw [upd_ne (ne_of_none e hp)]; exact e⟩
  have up := x.up r
  have np : p ∉ ι := fun m => by
    obtain ⟨u', e, _⟩ := r.at m
    rw [hp] at e; cases e
  refine ⟨x, ⟨by rw [List.length_append, List.length_append, r.len]; rfl, ?_, fun i a o' e1 e2 => ?_⟩⟩
  · rw [List.nodup_append]
    exact ⟨r.nd, by simp, fun a m b m' => by rw [List.mem_singleton.mp m']; exact fun z => np (z ▸ m)⟩
  · by_cases hi : i < ι.length
    · rw [List.getElem?_append_left hi] at e1
      rw [List.getElem?_append_left (by rw [← r.len]; exact hi)] at e2
      have ne : a ≠ p := fun z => np (z ▸ List.mem_of_getElem? e1)
      exact (r.obj i a o' e1 e2).up up (upd_ne ne)
    · have hl := (List.getElem?_eq_some_iff.mp e1).1
      rw [List.length_append, List.length_singleton] at hl
      have ei : i = ι.length := by omega
      subst ei
      rw [List.getElem?_append_right (Nat.le_refl _), Nat.sub_self] at e1
      rw [r.len, List.getElem?_append_right (Nat.le_refl _), Nat.sub_self] at e2
      cases e1; cases e2
      exact q up
/-- an object of ours written -/
theorem Rl.put {T : Tx} {ι : List Addr} {H : Hp} {h : Hm} {i : Nat} {a : Addr} {u : HO} {o : O} (r : Rl T ι H h) (ha : ι[i]? = some a) {u0 : HO} (h0 : H a = some u0) (hm : Mut (some u0)) (q : Up T ι H ι (upd H a u) → OR T ι (upd H a u) a o) : Ex ι H ι (upd H a u) ∧ Rl T ι (upd H a u) (h.set i o) := by
  have m : a ∈ ι := List.mem_of_getElem? ha
  have x : Ex ι H ι (upd H a u) := ⟨⟨[], by simp, fun _ z => by simp at z⟩, fun b o' e n => by rw [upd_ne (fun z => n (by rw [z]; exact m))]; exact e, fun b o' u' e => by
    rw [upd_ne (fun z => by rw [z, h0] at e; injection e with e; rw [e] at hm; exact hm)]; exact e⟩
  have up := x.up r
  refine ⟨x, ⟨by rw [List.length_set, r.len], r.nd, fun j b o' e1 e2 => ?_⟩⟩
  by_cases hj : i = j
  · subst hj
    rw [ha] at e1; cases e1
    have hl : i < h.length := by rw [← r.len]; exact (List.getElem?_eq_some_iff.mp ha).1
    rw [List.getElem?_set_self hl] at e2
    cases e2
    exact q up
  · rw [List.getElem?_set_ne hj] at e2
    have ne : b ≠ a := fun z => by
      subst z
      exact hj (nd_ix r.nd ha e1)
    exact (r.obj j b o' e1 e2).up up (upd_ne ne)
/-- an object that is none of ours -/
theorem Rl.other {T : Tx} {ι : List Addr} {H : Hp} {h : Hm} {p : Addr} {u : HO} (r : Rl T ι H h) (hp : H p = none) : Ex ι H ι (upd H p u) ∧ Rl T ι (upd H p u) h := by
  have x : Ex ι H ι (upd H p u) := ⟨⟨[], by simp, fun _ z => by simp at z⟩, fun b o' e _ => by rw [upd_ne (ne_of_none e hp)]; exact e, fun b o' u' e => by rw [upd_ne (ne_of_none e hp)]; exact e⟩
  have up := x.up r
  refine ⟨x, ⟨r.len, r.nd, fun i a o e1 e2 => ?_⟩⟩
  have ne : a ≠ p := fun z => by
    obtain ⟨u', e, _⟩ := r.at (List.mem_of_getElem? e1)
    rw [z, hp] at e; cases e
  exact (r.obj i a o e1 e2).up up (upd_ne ne)
end ML

set_option Elab.async false
set_option linter.all false
set_option maxRecDepth 100000
namespace ML
open PySem L2

/-! ### readings by functions -/
def lf (T : Tx) (m : Sm → M D) : TE := fun σ H Q => ∃ ι σm h d h1, Rl T ι H h ∧ RS T ι H σm σ ∧ m σm h = some (d, h1) ∧
  ∀ ι1 H1 v, Ex ι H ι1 H1 → Rl T ι1 H1 h1 → RV T ι1 H1 d v → Q v H1
def lfT (T : Tx) (m : Sm → M Bool) : TT := fun σ H Q => ∃ ι σm h b h1, Rl T ι H h ∧ RS T ι H σm σ ∧ m σm h = some (b, h1) ∧
  ∀ ι1 H1, Ex ι H ι1 H1 → Rl T ι1 H1 h1 → Q b H1
def lfA (T : Tx) (m : Sm → M (List D)) : TA := fun σ H Q => ∃ ι σm h ds h1, Rl T ι H h ∧ RS T ι H σm σ ∧ m σm h = some (ds, h1) ∧
  ∀ ι1 H1 vs, Ex ι H ι1 H1 → Rl T ι1 H1 h1 → RVs T ι1 H1 ds vs → Q vs H1
/-- a new list that is none of ours yet -/
def lfL (T : Tx) (m : Sm → M (List D)) : TE := fun σ H Q => ∃ ι σm h ds h1, Rl T ι H h ∧ RS T ι H σm σ ∧ m σm h = some (ds, h1) ∧
  ∀ ι1 H1 a xs, Ex ι H ι1 H1 → Rl T ι1 H1 h1 → H a = none → a ∉ ι1 → H1 a = some (.lst xs) → RVs T ι1 H1 ds xs → Q (.ref a) H1
def EndF (T : Tx) (ι : List Addr) (H : Hp) (D : Ends) : Fl → Prop
  | .nx σm => ∀ σ, RS T ι H σm σ → D.nx σ H
  | .rt d => ∀ v, RV T ι H d v → D.rt v H
  | .bk σm => ∀ σ, RS T ι H σm σ → D.bk σ H
  | .ct σm => ∀ σ, RS T ι H σm σ → D.ct σ H
def lfS (T : Tx) (m : Sm → M Fl) : TS := fun D σ H => ∃ ι σm h f h1, Rl T ι H h ∧ RS T ι H σm σ ∧ m σm h = some (f, h1) ∧
  ∀ ι1 H1, Ex ι H ι1 H1 → Rl T ι1 H1 h1 → EndF T ι1 H1 D f

theorem _root_.L2.PE.imp {X : Cx} {e : Expr} {t t' : TE} (h : PE X e t) (i : ∀ σ H Q, t' σ H Q → t σ H Q) : PE X e t' := ⟨fun pins s σ H Q I q => h.run pins s σ H Q I (i _ _ _ q)⟩
theorem _root_.L2.PT.imp {X : Cx} {e : Expr} {t t' : TT} (h : PT X e t) (i : ∀ σ H Q, t' σ H Q → t σ H Q) : PT X e t' := ⟨fun pins s σ H Q I q => h.run pins s σ H Q I (i _ _ _ q)⟩
theorem _root_.L2.PW.imp {X : Cx} {e : Expr} {t t' : TT} (h : PW X e t) (i : ∀ σ H Q, t' σ H Q → t σ H Q) : PW X e t' := ⟨fun wh pins s σ H Q I q => h.run wh pins s σ H Q I (i _ _ _ q)⟩
theorem _root_.L2.PA.imp {X : Cx} {e : List Expr} {t t' : TA} (h : PA X e t) (i : ∀ σ H Q, t' σ H Q → t σ H Q) : PA X e t' := ⟨fun pos pins s σ H Q I q => h.run pos pins s σ H Q I (i _ _ _ q)⟩
theorem _root_.L2.PS.imp {X : Cx} {e : Stmt} {t t' : TS} (h : PS X e t) (i : ∀ D σ H, t' D σ H → t D σ H) : PS X e t' := ⟨fun pins s σ H D I q => h.run pins s σ H D I (i _ _ _ q)⟩
theorem _root_.L2.PSs.imp {X : Cx} {e : List Stmt} {t t' : TS} (h : PSs X e t) (i : ∀ D σ H, t' D σ H → t D σ H) : PSs X e t' := ⟨fun pins s σ H D I q => h.run pins s σ H D I (i _ _ _ q)⟩

section
variable {T : Tx} {ι : List Addr} {H : Hp} {h h1 : Hm} {σm : Sm} {σ : St} {β : Type} {b : β} {P : List Addr → Hp → Prop}
/-- one expression, then the rest -/
theorem lf_then {ma : Sm → M D} {k : D → M β} {R : VK} (r : Rl T ι H h) (rs : RS T ι H σm σ) (e : (ma σm >>= k) h = some (b, h1)) (fin : ∀ ι2 H2, Ex ι H ι2 H2 → P ι2 H2)
    (next : ∀ ι1 H1 x d h', Ex ι H ι1 H1 → Rl T ι1 H1 h' → RS T ι1 H1 σm σ → RV T ι1 H1 d x → k d h' = some (b, h1) → (∀ ι2 H2, Ex ι1 H1 ι2 H2 → P ι2 H2) → R x H1) : lf T ma σ H R := by
  obtain ⟨d, h', e1, e2⟩ := bind_some e
  exact ⟨ι, σm, h, d, h', r, rs, e1, fun ι1 H1 v x r1 q => next ι1 H1 v d h' x r1 (rs.up (x.up r)) q e2 fun ι2 H2 y => fin ι2 H2 (x.trans r1 y)⟩
theorem lfT_then {ma : Sm → M Bool} {k : Bool → M β} {R : Bool → Hp → Prop} (r : Rl T ι H h) (rs : RS T ι H σm σ) (e : (ma σm >>= k) h = some (b, h1)) (fin : ∀ ι2 H2, Ex ι H ι2 H2 → P ι2 H2)
    (next : ∀ ι1 H1 d h', Ex ι H ι1 H1 → Rl T ι1 H1 h' → RS T ι1 H1 σm σ → k d h' = some (b, h1) → (∀ ι2 H2, Ex ι1 H1 ι2 H2 → P ι2 H2) → R d H1) : lfT T ma σ H R := by
  obtain ⟨d, h', e1, e2⟩ := bind_some e
  exact ⟨ι, σm, h, d, h', r, rs, e1, fun ι1 H1 x r1 => next ι1 H1 d h' x r1 (rs.up (x.up r)) e2 fun ι2 H2 y => fin ι2 H2 (x.trans r1 y)⟩
theorem lfA_then {ma : Sm → M (List D)} {k : List D → M β} {R : List V → Hp → Prop} (r : Rl T ι H h) (rs : RS T ι H σm σ) (e : (ma σm >>= k) h = some (b, h1)) (fin : ∀ ι2 H2, Ex ι H ι2 H2 → P ι2 H2)
    (next : ∀ ι1 H1 x d h', Ex ι H ι1 H1 → Rl T ι1 H1 h' → RS T ι1 H1 σm σ → RVs T ι1 H1 d x → k d h' = some (b, h1) → (∀ ι2 H2, Ex ι1 H1 ι2 H2 → P ι2 H2) → R x H1) : lfA T ma σ H R := by
  obtain ⟨d, h', e1, e2⟩ := bind_some e
  exact ⟨ι, σm, h, d, h', r, rs, e1, fun ι1 H1 v x r1 q => next ι1 H1 v d h' x r1 (rs.up (x.up r)) q e2 fun ι2 H2 y => fin ι2 H2 (x.trans r1 y)⟩
theorem lfL_then {ma : Sm → M (List D)} {k : List D → M β} {R : VK} (r : Rl T ι H h) (rs : RS T ι H σm σ) (e : (ma σm >>= k) h = some (b, h1)) (fin : ∀ ι2 H2, Ex ι H ι2 H2 → P ι2 H2)
    (next : ∀ ι1 H1 a xs d h', Ex ι H ι1 H1 → Rl T ι1 H1 h' → RS T ι1 H1 σm σ → H a = none → a ∉ ι1 → H1 a = some (.lst xs) → RVs T ι1 H1 d xs → k d h' = some (b, h1) → (∀ ι2 H2, Ex ι1 H1 ι2 H2 → P ι2 H2) → R (.ref a) H1) : lfL T ma σ H R := by
  obtain ⟨d, h', e1, e2⟩ := bind_some e
  exact ⟨ι, σm, h, d, h', r, rs, e1, fun ι1 H1 a xs x r1 ha na ea q => next ι1 H1 a xs d h' x r1 (rs.up (x.up r)) ha na ea q e2 fun ι2 H2 y => fin ι2 H2 (x.trans r1 y)⟩
end
theorem fin_of {T : Tx} {ι : List Addr} {H : Hp} {h1 : Hm} {d : D} {Q : VK} {ι1 : List Addr} {H1 : Hp} {v : V} (k : ∀ ι2 H2, Ex ι H ι2 H2 → ∀ v, Rl T ι2 H2 h1 → RV T ι2 H2 d v → Q v H2) (x : Ex ι H ι1 H1) (r : Rl T ι1 H1 h1) (q : RV T ι1 H1 d v) : Q v H1 := k _ _ x v r q

/-! ### names and constants -/
def gv (i : Nat) : Sm → M D := fun σ => match σ[i]? with
  | some (some d) => pure d
  | _ => M.bad
def cM (d : D) : Sm → M D := fun _ => pure d
section
variable {X : Cx}
theorem m_var (i : Nat) {x : Str} {pos : Pos} (hN : X.N[i]? = some x := by rfl) (hv : Vis X.env.scope x := by first | exact Or.inl rfl | exact Or.inr (Or.inl rfl) | exact Or.inr (Or.inr rfl)) (hd : (x == ("__debug__" : Str)) = false := by decide)
    (hcd : (x == ("__classdict__" : Str)) = false := by decide) : PE X (.Name x pos) (lf (tx X) (gv i)) := (pe_var hN hv hd hcd).imp fun σ H Q q => by
  obtain ⟨ι, σm, h, d, h1, r, rs, e, k⟩ := q
  unfold gv at e
  cases q1 : σm[i]? with
  | none => rw [q1] at e; cases e
  | some o =>
    cases o with
    | none => rw [q1] at e; cases e
    | some d' =>
      rw [q1] at e
      obtain ⟨e1, e2⟩ := pure_some e
      subst e1 e2
      obtain ⟨v, e3, q3⟩ := rs.at_ i d' q1
      exact ⟨v, e3, k ι H v (Ex.refl ι H) r q3⟩
theorem m_c {e : Expr} {v : V} {d : D} (p : PE X e (tC v)) (hd : ∀ ι H, RV (tx X) ι H d v) : PE X e (lf (tx X) (cM d)) := p.imp fun σ H Q q => by
  obtain ⟨ι, σm, h, d, h1, r, rs, e, k⟩ := q
  obtain ⟨e1, e2⟩ := pure_some e
  subst e1 e2
  exact k ι H v (Ex.refl ι H) r (hd ι H)
theorem m_int {i j pos} : PE X (.Constant (.int i) j pos) (lf (tx X) (cM (.int i))) := m_c pe_int fun _ _ => by rw [RV]
theorem m_bl {b j pos} : PE X (.Constant (.bool b) j pos) (lf (tx X) (cM (.bl b))) := m_c pe_bl fun _ _ => by rw [RV]
theorem m_non {j pos} : PE X (.Constant .none j pos) (lf (tx X) (cM .non)) := m_c pe_non fun _ _ => by rw [RV]
theorem m_str {x j pos} : PE X (.Constant (.str x) j pos) (lf (tx X) (cM (.str x))) := m_c pe_str fun _ _ => by rw [RV]

/-! ### operators -/
def Op2 (T : Tx) (r : R2) (g : D → D → M D) : Prop := ∀ (ι : List Addr) (H : Hp) (h : Hm) (x y : V) (a b d : D) (h1 : Hm) (Q : VK), Rl T ι H h → RV T ι H a x → RV T ι H b y → g a b h = some (d, h1) →
  (∀ ι1 H1 v, Ex ι H ι1 H1 → Rl T ι1 H1 h1 → RV T ι1 H1 d v → Q v H1) → r x y H Q
def op2M (g : D → D → M D) (ma mb : Sm → M D) : Sm → M D := fun σ => ma σ >>= fun a => mb σ >>= fun b => g a b
variable {a b : Expr} {ma mb : Sm → M D} {pos : Pos}
theorem op2_of {r : R2} {g : D → D → M D} (hg : Op2 (tx X) r g) {σ : St} {H : Hp} {Q : VK} (q : lf (tx X) (op2M g ma mb) σ H Q) : tOp r (lf (tx X) ma) (lf (tx X) mb) σ H Q := by
  obtain ⟨ι, σm, h, d, h1, r, rs, e, k⟩ := q
  refine lf_then r rs e (P := fun ι2 H2 => ∀ v, Rl (tx X) ι2 H2 h1 → RV (tx X) ι2 H2 d v → Q v H2) (fun ι2 H2 y v => k ι2 H2 v y) fun ι1 H1 x da h' x1 r1 rs1 q1 e1 k1 => ?_
  refine lf_then r1 rs1 e1 k1 fun ι2 H2 y db h'' x2 r2 rs2 q2 e2 k2 => ?_
  exact hg ι2 H2 h'' x y da db d h1 Q r2 (q1.up (x2.up r1) da x) q2 e2 fun ι3 H3 v x3 r3 q3 => k2 ι3 H3 x3 v r3 q3
theorem m_op {op : Operator} {r : R2} {g : D → D → M D} (ho : OpR X (binaryOp op) r) (hg : Op2 (tx X) r g) (ha : PE X a (lf (tx X) ma)) (hb : PE X b (lf (tx X) mb)) : PE X (.BinOp a op b pos) (lf (tx X) (op2M g ma mb)) :=
  (pe_op ho ha hb).imp fun _ _ _ q => op2_of hg q
theorem m_cmp {op : CmpOp} {r : R2} {g : D → D → M D} (ho : OpR X (compareOp op) r) (hg : Op2 (tx X) r g) (ha : PE X a (lf (tx X) ma)) (hb : PE X b (lf (tx X) mb)) (hm : behindInMarks op b = false) : PE X (.Compare a [op] [b] pos) (lf (tx X) (op2M g ma mb)) :=
  (pe_cmpR ho ha hb hm).imp fun _ _ _ q => op2_of hg q
theorem m_ix {r : R2} {g : D → D → M D} (hr : IxR X r) (hg : Op2 (tx X) r g) (ha : PE X a (lf (tx X) ma)) (hb : PE X b (lf (tx X) mb)) (hs : PlainIx b) : PE X (.Subscript a b pos) (lf (tx X) (op2M g ma mb)) :=
  (pe_ix hr ha hb hs).imp fun _ _ _ q => op2_of hg q
def Op1 (T : Tx) (r : V → Hp → VK → Prop) (g : D → M D) : Prop := ∀ (ι : List Addr) (H : Hp) (h : Hm) (x : V) (a d : D) (h1 : Hm) (Q : VK), Rl T ι H h → RV T ι H a x → g a h = some (d, h1) →
  (∀ ι1 H1 v, Ex ι H ι1 H1 → Rl T ι1 H1 h1 → RV T ι1 H1 d v → Q v H1) → r x H Q
def op1M (g : D → M D) (ma : Sm → M D) : Sm → M D := fun σ => ma σ >>= g
theorem m_un {op : UnaryOp} {r : V → Hp → VK → Prop} {g : D → M D} (ho : UnR X (unaryOp op) r) (hg : Op1 (tx X) r g) (ha : PE X a (lf (tx X) ma)) : PE X (.UnaryOp op a pos) (lf (tx X) (op1M g ma)) := (pe_un ho ha).imp fun σ H Q q => by
  obtain ⟨ι, σm, h, d, h1, r, rs, e, k⟩ := q
  refine lf_then r rs e (P := fun ι2 H2 => ∀ v, Rl (tx X) ι2 H2 h1 → RV (tx X) ι2 H2 d v → Q v H2) (fun ι2 H2 y v => k ι2 H2 v y) fun ι1 H1 x da h' x1 r1 rs1 q1 e1 k1 => ?_
  exact hg ι1 H1 h' x da d h1 Q r1 q1 e1 fun ι3 H3 v x3 r3 q3 => k1 ι3 H3 x3 v r3 q3

/-! ### tests -/
def tvM (ma : Sm → M D) : Sm → M Bool := fun σ => ma σ >>= fun d => match d with
  | .bl c => pure c
  | _ => M.bad
theorem tv_of {σ : St} {H : Hp} {Q : Bool → Hp → Prop} {T : Tx} (q : lfT T (tvM ma) σ H Q) : lf T ma σ H fun x H' => ∃ k, x = .bl k ∧ Q k H' := by
  obtain ⟨ι, σm, h, d, h1, r, rs, e, k⟩ := q
  refine lf_then r rs e (P := fun ι2 H2 => Rl T ι2 H2 h1 → Q d H2) (fun ι2 H2 y => k ι2 H2 y) fun ι1 H1 x da h' x1 r1 rs1 q1 e1 k1 => ?_
  cases da with
  | bl c =>
    obtain ⟨e2, e3⟩ := pure_some e1
    subst e2 e3
    rw [RV] at q1
    exact ⟨c, q1, k1 _ _ (Ex.refl _ _) r1⟩
  | _ => cases e1
theorem m_tv (h : PE X a (lf (tx X) ma)) (he : ∀ whole, isTrue a X.env whole = (do let v ← whole; standAt a.pos; holding [v] (truthy v)) := by intro _; rfl) : PT X a (lfT (tx X) (tvM ma)) :=
  (pt_val h he).imp fun _ _ _ q => tv_of q
theorem m_tcmp {op : CmpOp} {r : R2} {g : D → D → M D} (ho : OpR X (compareOp op) r) (hg : Op2 (tx X) r g) (ha : PE X a (lf (tx X) ma)) (hb : PE X b (lf (tx X) mb)) (hm : behindInMarks op b = false) : PT X (.Compare a [op] [b] pos) (lfT (tx X) (tvM (op2M g ma mb))) :=
  (pt_cmpR ho ha hb hm).imp fun σ H Q q => op2_of hg (tv_of q)
def andT (ma mb : Sm → M Bool) : Sm → M Bool := fun σ => ma σ >>= fun c => if c = true then mb σ else pure false
def orT (ma mb : Sm → M Bool) : Sm → M Bool := fun σ => ma σ >>= fun c => if c = true then pure true else mb σ
def notT (ma : Sm → M Bool) : Sm → M Bool := fun σ => ma σ >>= fun c => pure (!c)
variable {ta tb : Sm → M Bool} {rest : List Expr}
theorem lfT_up {T : Tx} {ι : List Addr} {σm : Sm} {σ : St} {H : Hp} {h h1 : Hm} {m : Sm → M Bool} {d : Bool} {Q : Bool → Hp → Prop} (r : Rl T ι H h) (rs : RS T ι H σm σ) (e : m σm h = some (d, h1)) (k : ∀ ι2 H2, Ex ι H ι2 H2 → Rl T ι2 H2 h1 → Q d H2) : lfT T m σ H Q :=
  ⟨ι, σm, h, d, h1, r, rs, e, k⟩
theorem mw_and1 (ha : PT X a (lfT (tx X) ta)) : PW X (.BoolOp .And [a] pos) (lfT (tx X) ta) := pw_and1 ha
theorem mw_or1 (ha : PT X a (lfT (tx X) ta)) : PW X (.BoolOp .Or [a] pos) (lfT (tx X) ta) := pw_or1 ha
theorem mw_and (ha : PT X a (lfT (tx X) ta)) (hb : PW X (.BoolOp .And (b :: rest) pos) (lfT (tx X) tb)) : PW X (.BoolOp .And (a :: b :: rest) pos) (lfT (tx X) (andT ta tb)) := (pw_and ha hb).imp fun σ H Q q => by
  obtain ⟨ι, σm, h, d, h1, r, rs, e, k⟩ := q
  refine lfT_then r rs e (P := fun ι2 H2 => Rl (tx X) ι2 H2 h1 → Q d H2) k fun ι1 H1 c h' x1 r1 rs1 e1 k1 => ?_
  cases c with
  | true => rw [if_pos rfl] at e1 ⊢; exact lfT_up r1 rs1 e1 k1
  | false =>
    rw [if_neg Bool.false_ne_true] at e1 ⊢
    obtain ⟨e2, e3⟩ := pure_some e1
    subst e2 e3
    exact k1 _ _ (Ex.refl _ _) r1
theorem mw_or (ha : PT X a (lfT (tx X) ta)) (hb : PW X (.BoolOp .Or (b :: rest) pos) (lfT (tx X) tb)) : PW X (.BoolOp .Or (a :: b :: rest) pos) (lfT (tx X) (orT ta tb)) := (pw_or ha hb).imp fun σ H Q q => by
  obtain ⟨ι, σm, h, d, h1, r, rs, e, k⟩ := q
  refine lfT_then r rs e (P := fun ι2 H2 => Rl (tx X) ι2 H2 h1 → Q d H2) k fun ι1 H1 c h' x1 r1 rs1 e1 k1 => ?_
  cases c with
  | false => rw [if_neg Bool.false_ne_true] at e1 ⊢; exact lfT_up r1 rs1 e1 k1
  | true =>
    rw [if_pos rfl] at e1 ⊢
    obtain ⟨e2, e3⟩ := pure_some e1
    subst e2 e3
    exact k1 _ _ (Ex.refl _ _) r1
theorem mt_not' (ha : PT X a (lfT (tx X) ta)) : PT X (.UnaryOp .Not a pos) (lfT (tx X) (notT ta)) := (pt_not ha).imp fun σ H Q q => by
  obtain ⟨ι, σm, h, d, h1, r, rs, e, k⟩ := q
  refine lfT_then r rs e (P := fun ι2 H2 => Rl (tx X) ι2 H2 h1 → Q d H2) k fun ι1 H1 c h' x1 r1 rs1 e1 k1 => ?_
  obtain ⟨e2, e3⟩ := pure_some e1
  subst e2 e3
  exact k1 _ _ (Ex.refl _ _) r1
/-- as values: all but the last bools -/
def andV (ma mb : Sm → M D) : Sm → M D := fun σ => tvM ma σ >>= fun c => if c = true then mb σ else pure (.bl false)
def orV (ma mb : Sm → M D) : Sm → M D := fun σ => tvM ma σ >>= fun c => if c = true then pure (.bl true) else mb σ
def notV (ma : Sm → M D) : Sm → M D := fun σ => tvM ma σ >>= fun c => pure (.bl (!c))
theorem lf_up {T : Tx} {ι : List Addr} {σm : Sm} {σ : St} {H : Hp} {h h1 : Hm} {m : Sm → M D} {d : D} {Q : VK} (r : Rl T ι H h) (rs : RS T ι H σm σ) (e : m σm h = some (d, h1)) (k : ∀ ι2 H2, Ex ι H ι2 H2 → ∀ v, Rl T ι2 H2 h1 → RV T ι2 H2 d v → Q v H2) : lf T m σ H Q :=
  ⟨ι, σm, h, d, h1, r, rs, e, fun ι1 H1 v x => k ι1 H1 x v⟩
/-- a bool value, then the rest -/
theorem tv_then {T : Tx} {ι : List Addr} {H : Hp} {h h1 : Hm} {σm : Sm} {σ : St} {d : D} {P : List Addr → Hp → Prop} {k : Bool → M D} {R : Bool → Hp → Prop} (r : Rl T ι H h) (rs : RS T ι H σm σ) (e : (tvM ma σm >>= k) h = some (d, h1)) (fin : ∀ ι2 H2, Ex ι H ι2 H2 → P ι2 H2)
    (next : ∀ ι1 H1 c h', Ex ι H ι1 H1 → Rl T ι1 H1 h' → RS T ι1 H1 σm σ → k c h' = some (d, h1) → (∀ ι2 H2, Ex ι1 H1 ι2 H2 → P ι2 H2) → R c H1) : lf T ma σ H fun x H1 => ∃ c, x = .bl c ∧ R c H1 := by
  obtain ⟨c, h', e1, e2⟩ := bind_some e
  exact tv_of ⟨ι, σm, h, c, h', r, rs, e1, fun ι1 H1 x r1 => next ι1 H1 c h' x r1 (rs.up (x.up r)) e2 fun ι2 H2 y => fin ι2 H2 (x.trans r1 y)⟩
theorem m_one {op} (h : PE X a (lf (tx X) ma)) : PE X (.BoolOp op [a] pos) (lf (tx X) ma) := pe_one h
theorem m_and (ha : PE X a (lf (tx X) ma)) (hb : PE X (.BoolOp .And (b :: rest) pos) (lf (tx X) mb)) : PE X (.BoolOp .And (a :: b :: rest) pos) (lf (tx X) (andV ma mb)) := (pe_and ha hb).imp fun σ H Q q => by
  obtain ⟨ι, σm, h, d, h1, r, rs, e, k⟩ := q
  refine tv_then r rs e (P := fun ι2 H2 => ∀ v, Rl (tx X) ι2 H2 h1 → RV (tx X) ι2 H2 d v → Q v H2) (fun ι2 H2 y v => k ι2 H2 v y) fun ι1 H1 c h' x1 r1 rs1 e1 k1 => ?_
  cases c with
  | true => rw [if_pos rfl] at e1 ⊢; exact lf_up r1 rs1 e1 k1
  | false =>
    rw [if_neg Bool.false_ne_true] at e1 ⊢
    obtain ⟨e2, e3⟩ := pure_some e1
    subst e2 e3
    exact k1 _ _ (Ex.refl _ _) _ r1 (by rw [RV])
theorem m_or (ha : PE X a (lf (tx X) ma)) (hb : PE X (.BoolOp .Or (b :: rest) pos) (lf (tx X) mb)) : PE X (.BoolOp .Or (a :: b :: rest) pos) (lf (tx X) (orV ma mb)) := (pe_or ha hb).imp fun σ H Q q => by
  obtain ⟨ι, σm, h, d, h1, r, rs, e, k⟩ := q
  refine tv_then r rs e (P := fun ι2 H2 => ∀ v, Rl (tx X) ι2 H2 h1 → RV (tx X) ι2 H2 d v → Q v H2) (fun ι2 H2 y v => k ι2 H2 v y) fun ι1 H1 c h' x1 r1 rs1 e1 k1 => ?_
  cases c with
  | false => rw [if_neg Bool.false_ne_true] at e1 ⊢; exact lf_up r1 rs1 e1 k1
  | true =>
    rw [if_pos rfl] at e1 ⊢
    obtain ⟨e2, e3⟩ := pure_some e1
    subst e2 e3
    exact k1 _ _ (Ex.refl _ _) _ r1 (by rw [RV])
theorem m_not (ha : PE X a (lf (tx X) ma)) : PE X (.UnaryOp .Not a pos) (lf (tx X) (notV ma)) := (pe_not ha).imp fun σ H Q q => by
  obtain ⟨ι, σm, h, d, h1, r, rs, e, k⟩ := q
  refine tv_then r rs e (P := fun ι2 H2 => ∀ v, Rl (tx X) ι2 H2 h1 → RV (tx X) ι2 H2 d v → Q v H2) (fun ι2 H2 y v => k ι2 H2 v y) fun ι1 H1 c h' x1 r1 rs1 e1 k1 => ?_
  obtain ⟨e2, e3⟩ := pure_some e1
  subst e2 e3
  exact k1 _ _ (Ex.refl _ _) _ r1 (by rw [RV])
def ifE (t : Sm → M Bool) (ma mb : Sm → M D) : Sm → M D := fun σ => t σ >>= fun c => if c = true then ma σ else mb σ
theorem m_ifExp {c : Expr} (hc : PT X c (lfT (tx X) ta)) (ha : PE X a (lf (tx X) ma)) (hb : PE X b (lf (tx X) mb)) : PE X (.IfExp c a b pos) (lf (tx X) (ifE ta ma mb)) := (pe_ifExp hc ha hb).imp fun σ H Q q => by
  obtain ⟨ι, σm, h, d, h1, r, rs, e, k⟩ := q
  refine lfT_then r rs e (P := fun ι2 H2 => ∀ v, Rl (tx X) ι2 H2 h1 → RV (tx X) ι2 H2 d v → Q v H2) (fun ι2 H2 y v => k ι2 H2 v y) fun ι1 H1 c h' x1 r1 rs1 e1 k1 => ?_
  cases c with
  | true => rw [if_pos rfl] at e1 ⊢; exact lf_up r1 rs1 e1 k1
  | false => rw [if_neg Bool.false_ne_true] at e1 ⊢; exact lf_up r1 rs1 e1 k1
end
end ML

set_option Elab.async false
set_option linter.all false
set_option maxRecDepth 100000
namespace ML
open PySem L2
section
variable {X : Cx}
/-! ### arguments and displays -/
def nilA : Sm → M (List D) := fun _ => pure []
def consA (m : Sm → M D) (ms : Sm → M (List D)) : Sm → M (List D) := fun σ => m σ >>= fun d => ms σ >>= fun ds => pure (d :: ds)
theorem a_nil : PA X [] (lfA (tx X) nilA) := pa_nil.imp fun σ H Q q => by
  obtain ⟨ι, σm, h, ds, h1, r, rs, e, k⟩ := q
  obtain ⟨e1, e2⟩ := pure_some e
  subst e1 e2
  exact k ι H [] (Ex.refl _ _) r (by rw [RVs])
variable {e : Expr} {es : List Expr} {m ma mb : Sm → M D} {ms : Sm → M (List D)} {pos : Pos}
theorem a_cons (he : PE X e (lf (tx X) m)) (hr : PA X es (lfA (tx X) ms)) (hs : starEach (e :: es) X.env = (false, eval e X.env) :: starEach es X.env := by rfl) : PA X (e :: es) (lfA (tx X) (consA m ms)) := (pa_cons he hr hs).imp fun σ H Q q => by
  obtain ⟨ι, σm, h, ds, h1, r, rs, e, k⟩ := q
  refine lf_then r rs e (P := fun ι2 H2 => ∀ v, Rl (tx X) ι2 H2 h1 → RVs (tx X) ι2 H2 ds v → Q v H2) (fun ι2 H2 y v => k ι2 H2 v y) fun ι1 H1 x d h' x1 r1 rs1 q1 e1 k1 => ?_
  refine lfA_then r1 rs1 e1 k1 fun ι2 H2 xs ds' h'' x2 r2 rs2 q2 e2 k2 => ?_
  obtain ⟨e3, e4⟩ := pure_some e2
  subst e3 e4
  exact k2 _ _ (Ex.refl _ _) _ r2 (by rw [RVs]; exact ⟨x, xs, rfl, q1.up (x2.up r1) d x, q2⟩)
theorem RVs.length {T : Tx} {ι : List Addr} {H : Hp} : ∀ {ds : List D} {xs : List V}, RVs T ι H ds xs → xs.length = ds.length
  | [], xs, r => by rw [RVs] at r; rw [r]; rfl
  | d :: ds, xs, r => by
    rw [RVs] at r
    obtain ⟨x, s, e, _, q⟩ := r
    rw [e, List.length_cons, List.length_cons, RVs.length q]
def tupM (ms : Sm → M (List D)) : Sm → M D := fun σ => ms σ >>= fun ds => if ds.length ≤ sizeLine then pure (.tup ds) else M.bad
theorem m_tup {x1} (hs : PA X es (lfA (tx X) ms)) : PE X (.Tuple es x1 pos) (lf (tx X) (tupM ms)) := (pe_tup hs).imp fun σ H Q q => by
  obtain ⟨ι, σm, h, d, h1, r, rs, e, k⟩ := q
  refine lfA_then r rs e (P := fun ι2 H2 => ∀ v, Rl (tx X) ι2 H2 h1 → RV (tx X) ι2 H2 d v → Q v H2) (fun ι2 H2 y v => k ι2 H2 v y) fun ι1 H1 xs ds h' x1 r1 rs1 q1 e1 k1 => ?_
  by_cases hl : ds.length ≤ sizeLine
  · rw [if_pos hl] at e1
    obtain ⟨e2, e3⟩ := pure_some e1
    subst e2 e3
    refine ⟨by rw [q1.length]; exact hl, fun p hp => ?_⟩
    obtain ⟨x2, r2⟩ := r1.other (u := .tup xs) hp
    exact k1 _ _ x2 _ r2 (by rw [RV]; exact ⟨p, xs, rfl, SqT.of upd_same, RVs.up (x2.up r1) ds xs q1⟩)
  · rw [if_neg hl] at e1; cases e1
/-- a display of a list: a new list that is none of ours -/
def lstM (ms : Sm → M (List D)) : Sm → M (List D) := fun σ => ms σ >>= fun ds => if ds.length ≤ sizeLine then pure ds else M.bad
theorem l_lst (hs : PA X es (lfA (tx X) ms)) : PE X (.List es pos) (lfL (tx X) (lstM ms)) := (pe_lst hs).imp fun σ H Q q => by
  obtain ⟨ι, σm, h, d, h1, r, rs, e, k⟩ := q
  refine lfA_then r rs e (P := fun ι2 H2 => ∀ a xs, Rl (tx X) ι2 H2 h1 → H a = none → a ∉ ι2 → H2 a = some (.lst xs) → RVs (tx X) ι2 H2 d xs → Q (.ref a) H2) (fun ι2 H2 y a xs => k ι2 H2 a xs y) fun ι1 H1 xs ds h' x1 r1 rs1 q1 e1 k1 => ?_
  by_cases hl : ds.length ≤ sizeLine
  · rw [if_pos hl] at e1
    obtain ⟨e2, e3⟩ := pure_some e1
    subst e2 e3
    refine ⟨by rw [q1.length]; exact hl, fun p hp => ?_⟩
    obtain ⟨x2, r2⟩ := r1.other (u := .lst xs) hp
    have np : p ∉ ι1 := fun mm => by
      obtain ⟨u', e', _⟩ := r1.at mm
      rw [hp] at e'; cases e'
    have hH : H p = none := by
      cases q5 : H p with
      | none => rfl
      | some o =>
        by_cases hi : p ∈ ι
        · obtain ⟨s, es', _⟩ := x1.pre
          exact absurd (by rw [es']; exact List.mem_append_left _ hi) np
        · have := x1.fr p o q5 hi
          rw [hp] at this; cases this
    exact k1 _ _ x2 _ _ r2 hH np upd_same (RVs.up (x2.up r1) ds xs q1)
  · rw [if_neg hl] at e1; cases e1
/-- a new list becomes ours -/
def newM (ms : Sm → M (List D)) : Sm → M D := fun σ => ms σ >>= fun ds => fun h => some (.ref h.length, h ++ [.lst ds])
theorem Rl.own {T : Tx} {ι : List Addr} {H : Hp} {h : Hm} {a : Addr} {o : O} (r : Rl T ι H h) (ha : a ∉ ι) (u : HO) (hu : H a = some u) (hn : NoT u) (q : Up T ι H (ι ++ [a]) H → OR T (ι ++ [a]) H a o) : Rl T (ι ++ [a]) H (h ++ [o]) := by
  have up : Up T ι H (ι ++ [a]) H := ⟨fun i b e => by rw [List.getElem?_append_left (List.getElem?_eq_some_iff.mp e).1]; exact e, fun _ _ s => s, fun _ _ s => s⟩
  refine ⟨by rw [List.length_append, List.length_append, r.len]; rfl, ?_, fun i b o' e1 e2 => ?_⟩
  · rw [List.nodup_append]
    exact ⟨r.nd, by simp, fun b m b' m' => by rw [List.mem_singleton.mp m']; exact fun z => ha (z ▸ m)⟩
  · by_cases hi : i < ι.length
    · rw [List.getElem?_append_left hi] at e1
      rw [List.getElem?_append_left (by rw [← r.len]; exact hi)] at e2
      exact (r.obj i b o' e1 e2).up up rfl
    · have hl := (List.getElem?_eq_some_iff.mp e1).1
      rw [List.length_append, List.length_singleton] at hl
      have ei : i = ι.length := by omega
      subst ei
      rw [List.getElem?_append_right (Nat.le_refl _), Nat.sub_self] at e1
      rw [r.len, List.getElem?_append_right (Nat.le_refl _), Nat.sub_self] at e2
      cases e1; cases e2
      exact q up
theorem Ex.own {ι ι1 : List Addr} {H H1 : Hp} {a : Addr} (x : Ex ι H ι1 H1) (ha : H a = none) : Ex ι H (ι1 ++ [a]) H1 := by
  obtain ⟨s, e, n⟩ := x.pre
  exact ⟨⟨s ++ [a], by rw [e, List.append_assoc], fun b m => (List.mem_append.mp m).elim (n b) fun z => by rw [List.mem_singleton.mp z]; exact ha⟩, x.fr, x.fz⟩
theorem m_new (hs : PE X e (lfL (tx X) ms)) : PE X e (lf (tx X) (newM ms)) := hs.imp fun σ H Q q => by
  obtain ⟨ι, σm, h, d, h1, r, rs, e, k⟩ := q
  obtain ⟨ds, h', e1, e2⟩ := bind_some e
  have e3 : some (D.ref h'.length, h' ++ [O.lst ds]) = some (d, h1) := e2
  injection e3 with e3
  injection e3 with e4 e5
  subst e4 e5
  refine ⟨ι, σm, h, ds, h', r, rs, e1, fun ι1 H1 a xs x1 r1 ha na ea q1 => ?_⟩
  have r2 := r1.own na _ ea trivial (o := .lst ds) fun up => ⟨xs, ea, RVs.up up ds xs q1⟩
  refine k (ι1 ++ [a]) H1 (.ref a) (x1.own ha) r2 ?_
  rw [RV]
  exact ⟨a, by rw [← r1.len, List.getElem?_append_right (Nat.le_refl _), Nat.sub_self]; rfl, rfl⟩

/-! ### calls of own functions -/
/-- what a function keeps -/
def spM (T : Tx) (n : Nat) (F : List D → M D) : Sp := fun vs H Q _ => ∃ ι h ds d h1, vs.length = n ∧ Rl T ι H h ∧ RVs T ι H ds vs ∧ F ds h = some (d, h1) ∧
  ∀ ι1 H1 v, Ex ι H ι1 H1 → Rl T ι1 H1 h1 → RV T ι1 H1 d v → Q v H1
theorem spM_len {T : Tx} {n : Nat} {F : List D → M D} : ∀ vs H Q E, spM T n F vs H Q E → vs.length = n := fun vs H Q E h => by
  obtain ⟨_, _, _, _, _, e, _⟩ := h
  exact e
def callM (F : List D → M D) (n : Nat) (ms : Sm → M (List D)) : Sm → M D := fun σ => ms σ >>= fun ds => if ds.length = n then F ds else M.bad
variable {k : Nat} {f : Addr} {fd : FuncData} {ps : List Str} {F : List D → M D} {x : Str} {p : Pos}
theorem call_of {n : Nat} {σ : St} {H : Hp} {Q : VK} {T : Tx} {E : XK} (q : lf T (callM F n ms) σ H Q) : tCall (spM T n F) [] E (lfA T ms) σ H Q := by
  obtain ⟨ι, σm, h, d, h1, r, rs, e, k⟩ := q
  refine lfA_then r rs e (P := fun ι2 H2 => ∀ v, Rl T ι2 H2 h1 → RV T ι2 H2 d v → Q v H2) (fun ι2 H2 y v => k ι2 H2 v y) fun ι1 H1 xs ds h' x1 r1 rs1 q1 e1 k1 => ?_
  by_cases hl : ds.length = n
  · rw [if_pos hl] at e1
    rw [List.append_nil]
    exact ⟨ι1, h', ds, d, h1, by rw [q1.length, hl], r1, q1, e1, fun ι2 H2 v y => k1 ι2 H2 y v⟩
  · rw [if_neg hl] at e1; cases e1
theorem m_call {n : Nat} (G : FnOk X.prog X.w X.K X.mg X.base CX0 k f fd ps (spM (tx X) n F)) (hr : Room k X.A) (hg : Gl X x) (hm : X.mg x = some (.ref f)) (hk : PySem.W.keepIn X.K (.ref f) = true) (hb : Binds X.K fd ps [])
    (ha : PA X (e :: es) (lfA (tx X) ms)) (hdb : (x == ("__debug__" : Str)) = false := by decide) (he : starEach (e :: es) X.env = (false, eval e X.env) :: starEach es X.env := by rfl) (hpl : (backTo pos (starEach es X.env)).any (·.1) = false := by rfl) :
    PE X (.Call (.Name x p) (e :: es) [] pos) (lf (tx X) (callM F n ms)) := (pe_call G hr hg hm hk hb .nil pass0 ha hdb he hpl).imp fun _ _ _ q => call_of q
theorem m_call0 {n : Nat} (G : FnOk X.prog X.w X.K X.mg X.base CX0 k f fd ps (spM (tx X) n F)) (hr : Room k X.A) (hg : Gl X x) (hm : X.mg x = some (.ref f)) (hk : PySem.W.keepIn X.K (.ref f) = true) (hb : Binds X.K fd ps [])
    (hdb : (x == ("__debug__" : Str)) = false := by decide) : PE X (.Call (.Name x p) [] [] pos) (lf (tx X) (callM F n nilA)) := (pe_call0 G hr hg hm hk hb .nil pass0 hdb).imp fun σ H Q q => by
  obtain ⟨ι, σm, h, d, h1, r, rs, e, k⟩ := q
  obtain ⟨ds, h', e1, e2⟩ := bind_some e
  obtain ⟨e3, e4⟩ := pure_some e1
  subst e3 e4
  by_cases hl : ([] : List D).length = n
  · rw [if_pos hl] at e2
    exact ⟨ι, h, [], d, h1, hl, r, by rw [RVs]; rfl, e2, k⟩
  · rw [if_neg hl] at e2; cases e2

/-! ### blocks and statements -/
def skipS : Sm → M Fl := fun σ => pure (.nx σ)
def seqS (s t : Sm → M Fl) : Sm → M Fl := fun σ => s σ >>= fun f => match f with
  | .nx σ1 => t σ1
  | f => pure f
def brkS : Sm → M Fl := fun σ => pure (.bk σ)
def ctS : Sm → M Fl := fun σ => pure (.ct σ)
def retS (m : Sm → M D) : Sm → M Fl := fun σ => m σ >>= fun d => pure (.rt d)
def retN : Sm → M Fl := fun _ => pure (.rt .non)
def exprS (m : Sm → M D) : Sm → M Fl := fun σ => m σ >>= fun _ => pure (.nx σ)
def ifS (t : Sm → M Bool) (a b : Sm → M Fl) : Sm → M Fl := fun σ => t σ >>= fun c => if c = true then a σ else b σ
def setS (i : Nat) (m : Sm → M D) : Sm → M Fl := fun σ => m σ >>= fun d => pure (.nx (σ.set i (some d)))
theorem lfS_up {T : Tx} {ι : List Addr} {σm : Sm} {σ : St} {H : Hp} {h h1 : Hm} {m : Sm → M Fl} {f : Fl} {D : Ends} (r : Rl T ι H h) (rs : RS T ι H σm σ) (e : m σm h = some (f, h1)) (k : ∀ ι2 H2, Ex ι H ι2 H2 → Rl T ι2 H2 h1 → EndF T ι2 H2 D f) : lfS T m D σ H :=
  ⟨ι, σm, h, f, h1, r, rs, e, k⟩
variable {st : Stmt} {rest : List Stmt} {s t : Sm → M Fl}
theorem s_skip {st : Stmt} (h0 : PS X st tNext) : PS X st (lfS (tx X) skipS) := h0.imp fun D σ H q => by
  obtain ⟨ι, σm, h, f, h1, r, rs, e, k⟩ := q
  obtain ⟨e1, e2⟩ := pure_some e
  subst e1 e2
  exact k ι H (Ex.refl _ _) r σ rs
theorem s_pass : PS X (.Pass pos) (lfS (tx X) skipS) := s_skip ps_pass
theorem s_doc {x j pos pos'} : PS X (.Expr (.Constant (.str x) j pos) pos') (lfS (tx X) skipS) := s_skip ps_doc
theorem b_nil : PSs X [] (lfS (tx X) skipS) := pss_nil.imp fun D σ H q => by
  obtain ⟨ι, σm, h, f, h1, r, rs, e, k⟩ := q
  obtain ⟨e1, e2⟩ := pure_some e
  subst e1 e2
  exact k ι H (Ex.refl _ _) r σ rs
theorem b_one (hs : PS X st (lfS (tx X) s)) : PSs X [st] (lfS (tx X) s) := pss_one hs
theorem b_cons (hs : PS X st (lfS (tx X) s)) (ht : PSs X rest (lfS (tx X) t)) : PSs X (st :: rest) (lfS (tx X) (seqS s t)) := (pss_cons hs ht).imp fun D σ H q => by
  obtain ⟨ι, σm, h, f, h1, r, rs, e, k⟩ := q
  obtain ⟨f', h', e1, e2⟩ := bind_some e
  refine ⟨ι, σm, h, f', h', r, rs, e1, fun ι1 H1 x1 r1 => ?_⟩
  cases f' with
  | nx σ1 => exact fun σ' rs' => lfS_up r1 rs' e2 fun ι2 H2 y r2 => k ι2 H2 (x1.trans r1 y) r2
  | rt d =>
    obtain ⟨e3, e4⟩ := pure_some e2
    subst e3 e4
    exact k ι1 H1 x1 r1
  | bk σ1 =>
    obtain ⟨e3, e4⟩ := pure_some e2
    subst e3 e4
    exact k ι1 H1 x1 r1
  | ct σ1 =>
    obtain ⟨e3, e4⟩ := pure_some e2
    subst e3 e4
    exact k ι1 H1 x1 r1
theorem s_brk : PS X (.Break pos) (lfS (tx X) brkS) := ps_break.imp fun D σ H q => by
  obtain ⟨ι, σm, h, f, h1, r, rs, e, k⟩ := q
  obtain ⟨e1, e2⟩ := pure_some e
  subst e1 e2
  exact k ι H (Ex.refl _ _) r σ rs
theorem s_ct : PS X (.Continue pos) (lfS (tx X) ctS) := ps_continue.imp fun D σ H q => by
  obtain ⟨ι, σm, h, f, h1, r, rs, e, k⟩ := q
  obtain ⟨e1, e2⟩ := pure_some e
  subst e1 e2
  exact k ι H (Ex.refl _ _) r σ rs
theorem s_expr (he : PE X e (lf (tx X) m)) (hs : swapsWith e none pos.line X.env = pure false := by rfl) : PS X (.Expr e pos) (lfS (tx X) (exprS m)) := (ps_expr he hs).imp fun D σ H q => by
  obtain ⟨ι, σm, h, f, h1, r, rs, e, k⟩ := q
  refine lf_then r rs e (P := fun ι2 H2 => Rl (tx X) ι2 H2 h1 → EndF (tx X) ι2 H2 D f) k fun ι1 H1 x d h' x1 r1 rs1 q1 e1 k1 => ?_
  obtain ⟨e2, e3⟩ := pure_some e1
  subst e2 e3
  exact k1 _ _ (Ex.refl _ _) r1 σ rs1
theorem s_ret (he : PE X e (lf (tx X) m)) : PS X (.Return (some e) pos) (lfS (tx X) (retS m)) := (ps_ret he).imp fun D σ H q => by
  obtain ⟨ι, σm, h, f, h1, r, rs, e, k⟩ := q
  refine lf_then r rs e (P := fun ι2 H2 => Rl (tx X) ι2 H2 h1 → EndF (tx X) ι2 H2 D f) k fun ι1 H1 x d h' x1 r1 rs1 q1 e1 k1 => ?_
  obtain ⟨e2, e3⟩ := pure_some e1
  subst e2 e3
  exact k1 _ _ (Ex.refl _ _) r1 x q1
theorem s_retN : PS X (.Return none pos) (lfS (tx X) retN) := ps_retN.imp fun D σ H q => by
  obtain ⟨ι, σm, h, f, h1, r, rs, e, k⟩ := q
  obtain ⟨e1, e2⟩ := pure_some e
  subst e1 e2
  exact k ι H (Ex.refl _ _) r .non (by rw [RV])
theorem s_if {c : Expr} {a b : List Stmt} {tc : Sm → M Bool} (hc : PT X c (lfT (tx X) tc)) (ha : PSs X a (lfS (tx X) s)) (hb : PSs X b (lfS (tx X) t)) : PS X (.If c a b pos) (lfS (tx X) (ifS tc s t)) := (ps_if hc ha hb).imp fun D σ H q => by
  obtain ⟨ι, σm, h, f, h1, r, rs, e, k⟩ := q
  refine lfT_then r rs e (P := fun ι2 H2 => Rl (tx X) ι2 H2 h1 → EndF (tx X) ι2 H2 D f) k fun ι1 H1 c h' x1 r1 rs1 e1 k1 => ?_
  cases c with
  | true => rw [if_pos rfl] at e1 ⊢; exact lfS_up r1 rs1 e1 k1
  | false => rw [if_neg Bool.false_ne_true] at e1 ⊢; exact lfS_up r1 rs1 e1 k1
theorem s_set (i : Nat) {x : Str} {pos' : Pos} (hN : X.N.Nodup) (hi : X.N[i]? = some x) (hx : Loc X.env.scope x) (he : PE X e (lf (tx X) m)) (hs : swapsWith e (some (.Name x pos')) pos.line X.env = pure false := by rfl) (hf : X.fn x = true ∨ X.env.scope.names.lookup x = some .local := by first | exact .inl rfl | exact .inr rfl | assumption) :
    PS X (.Assign [.Name x pos'] e pos) (lfS (tx X) (setS i m)) := (ps_set hN hi hx he hs hf).imp fun D σ H q => by
  obtain ⟨ι, σm, h, f, h1, r, rs, e, k⟩ := q
  refine lf_then r rs e (P := fun ι2 H2 => Rl (tx X) ι2 H2 h1 → EndF (tx X) ι2 H2 D f) k fun ι1 H1 x d h' x1 r1 rs1 q1 e1 k1 => ?_
  obtain ⟨e2, e3⟩ := pure_some e1
  subst e2 e3
  exact k1 _ _ (Ex.refl _ _) r1 _ (rs1.set i q1)
end

/-! ### a def by its body -/
def startM (n : Nat) (ds : List D) : Sm := ds.map some ++ List.replicate (n - ds.length) none
/-- what the body's end is worth -/
def runB (n : Nat) (b : Sm → M Fl) : List D → M D := fun ds => b (startM n ds) >>= fun f => match f with
  | .nx _ => pure .non
  | .rt d => pure d
  | _ => M.bad
theorem RVs.get {T : Tx} {ι : List Addr} {H : Hp} : ∀ {ds : List D} {xs : List V} {i : Nat} {d : D}, RVs T ι H ds xs → ds[i]? = some d → ∃ x, xs[i]? = some x ∧ RV T ι H d x
  | [], _, _, _, _, h => by simp at h
  | a :: ds, xs, 0, d, r, h => by
    rw [RVs] at r
    obtain ⟨x, s, e, q, _⟩ := r
    simp only [List.getElem?_cons_zero, Option.some.injEq] at h
    subst h e
    exact ⟨x, rfl, q⟩
  | a :: ds, xs, i + 1, d, r, h => by
    rw [RVs] at r
    obtain ⟨x, s, e, _, q⟩ := r
    subst e
    exact RVs.get (i := i) q h
theorem start_RS {T : Tx} {ι : List Addr} {H : Hp} {N : List Str} {ds : List D} {vs : List V} (r : RVs T ι H ds vs) : RS T ι H (startM N.length ds) (start N vs) := by
  have hl := r.length
  refine ⟨?_, fun i d e => ?_⟩
  · unfold startM L2.start
    rw [List.length_append, List.length_append, List.length_map, List.length_map, List.length_replicate, List.length_replicate, hl]
  · unfold startM at e
    by_cases hi : i < ds.length
    · rw [List.getElem?_append_left (by rw [List.length_map]; exact hi), List.getElem?_map] at e
      cases q : ds[i]? with
      | none => rw [q] at e; cases e
      | some d' =>
        rw [q] at e
        cases e
        obtain ⟨x, e1, q1⟩ := r.get q
        refine ⟨x, ?_, q1⟩
        unfold L2.start
        rw [List.getElem?_append_left (by rw [List.length_map, hl]; exact hi), List.getElem?_map, e1]
        rfl
    · rw [List.getElem?_append_right (by rw [List.length_map]; omega), List.getElem?_replicate] at e
      split at e <;> cases e
theorem fn_ok {P : Program} {w : World} {K : PySem.W.Frag} {mg : Str → Option Value} {base : Heap} {x qual : Str} {st : Stmt} {f : Addr} {fd : FuncData} {N ps : List Str} {k : Nat} {b : Sm → M Fl} (F : Fun K x qual st f fd) (S : FnScope N ps (defScope st))
    (hbody : ∀ (cdv : Value) (A : Around) (outer : List Env) (s : Shared) (H : Hp) (E : XK), Room k (A.deeper (PyProof.Rows.envOfC qual (defScope st) s.heap.objs.size f cdv)) →
      PSs (cxOf CX0 P w K mg base N qual (defScope st) f cdv A outer s H E).nox (defBody st) (lfS ⟨K, mg, P, w⟩ b)) : FnOk P w K mg base CX0 (k + 1) f fd ps (spM ⟨K, mg, P, w⟩ ps.length (runB N.length b)) := by
  refine F.ok S (fun vs H Q E h => spM_len _ _ _ _ h) (fun cdv A outer s H vs Q E hr h => ⟨_, hbody cdv A outer s H E hr, ?_⟩)
  obtain ⟨ι, h, ds, d, h1, hn, r, rv, e, kk⟩ := h
  obtain ⟨fl, h', e1, e2⟩ := bind_some e
  refine ⟨ι, _, h, fl, h', r, start_RS rv, e1, fun ι1 H1 x1 r1 => ?_⟩
  cases fl with
  | nx σ1 =>
    obtain ⟨e3, e4⟩ := pure_some e2
    subst e3 e4
    exact fun σ' _ => kk ι1 H1 .non x1 r1 (by rw [RV])
  | rt d' =>
    obtain ⟨e3, e4⟩ := pure_some e2
    subst e3 e4
    exact fun v q => kk ι1 H1 v x1 r1 q
  | bk σ1 => cases e2
  | ct σ1 => cases e2
end ML

set_option Elab.async false
set_option linter.all false
set_option maxRecDepth 100000
namespace ML
open PySem L2
/-! ### targets -/
/-- vs: the places that it sets -/
def lfG (T : Tx) (vs : List Nat) (g : D → Sm → Option Sm) : TG := fun v σ H Q => ∃ ι σm h d σm1, Rl T ι H h ∧ RS T ι H σm σ ∧ RV T ι H d v ∧ g d σm = some σm1 ∧
  ∀ σ1, RS T ι H σm1 σ1 → σ1.length = σ.length → (∀ j, j ∉ vs → σ1[j]? = σ[j]?) → Q σ1 H
def lfGs (T : Tx) (vs : List Nat) (g : List D → Sm → Option Sm) : TGs := fun xs σ H Q => ∃ ι σm h ds σm1, Rl T ι H h ∧ RS T ι H σm σ ∧ RVs T ι H ds xs ∧ g ds σm = some σm1 ∧
  ∀ σ1, RS T ι H σm1 σ1 → σ1.length = σ.length → (∀ j, j ∉ vs → σ1[j]? = σ[j]?) → Q σ1 H
theorem _root_.L2.PG.imp {X : Cx} {e : Expr} {t t' : TG} (h : PG X e t) (i : ∀ v σ H Q, t' v σ H Q → t v σ H Q) : PG X e t' := ⟨fun pins s σ H v u Q I r q => h.run pins s σ H v u Q I r (i _ _ _ _ q)⟩
theorem _root_.L2.PGs.imp {X : Cx} {e : List Expr} {t t' : TGs} (h : PGs X e t) (i : ∀ v σ H Q, t' v σ H Q → t v σ H Q) : PGs X e t' := ⟨fun pins s σ H v u Q I r q => h.run pins s σ H v u Q I r (i _ _ _ _ q)⟩
theorem _root_.L2.PI.imp {X : Cx} {tg e : Expr} {t t' : TI} (h : PI X tg e t) (i : ∀ σ H R, t' σ H R → t σ H R) : PI X tg e t' := ⟨fun pins s σ H R I q => h.run pins s σ H R I (i _ _ _ q)⟩
def nameG (i : Nat) : D → Sm → Option Sm := fun d σ => some (σ.set i (some d))
def nilG : List D → Sm → Option Sm := fun ds σ => match ds with
  | [] => some σ
  | _ => none
def consG (g : D → Sm → Option Sm) (gs : List D → Sm → Option Sm) : List D → Sm → Option Sm := fun ds σ => match ds with
  | [] => none
  | d :: r => (g d σ).bind (gs r)
def tupG (n : Nat) (gs : List D → Sm → Option Sm) : D → Sm → Option Sm := fun d σ => match d with
  | .tup ds => if ds.length = n then gs ds σ else none
  | _ => none
section
variable {X : Cx} {pos : Pos}
theorem g_name (i : Nat) {x : Str} (hN : X.N.Nodup) (hi : X.N[i]? = some x) (hx : Loc X.env.scope x) (hf : X.fn x = true ∨ X.env.scope.names.lookup x = some .local := by first | exact .inl rfl | exact .inr rfl | assumption) : PG X (.Name x pos) (lfG (tx X) [i] (nameG i)) := (pg_name hN hi hx hf).imp fun v σ H Q q => by
  obtain ⟨ι, σm, h, d, σm1, r, rs, rv, e, k⟩ := q
  have e' : σm.set i (some d) = σm1 := Option.some.inj e
  subst e'
  exact k _ (rs.set i rv) (by rw [List.length_set]) fun j hj => by rw [List.getElem?_set_ne (fun z => hj (by rw [z]; exact List.mem_singleton_self _))]
theorem gs_nil : PGs X [] (lfGs (tx X) [] nilG) := pgs_nil.imp fun vs σ H Q q => by
  obtain ⟨ι, σm, h, ds, σm1, r, rs, rv, e, k⟩ := q
  cases ds with
  | nil =>
    have e' : σm = σm1 := Option.some.inj e
    subst e'
    rw [RVs] at rv
    exact ⟨rv, k σ rs rfl fun _ _ => rfl⟩
  | cons d r => cases e
theorem gs_cons {e : Expr} {es : List Expr} {v1 v2 : List Nat} {g : D → Sm → Option Sm} {gs : List D → Sm → Option Sm} (h1 : PG X e (lfG (tx X) v1 g)) (h2 : PGs X es (lfGs (tx X) v2 gs))
    (hs : (assignEach (e :: es) X.env).map (·.2) = assign e X.env :: (assignEach es X.env).map (·.2) := by rfl) : PGs X (e :: es) (lfGs (tx X) (v1 ++ v2) (consG g gs)) := (pgs_cons h1 h2 hs).imp fun vs σ H Q q => by
  obtain ⟨ι, σm, h, ds, σm1, r, rs, rv, e, k⟩ := q
  cases ds with
  | nil => cases e
  | cons d ds =>
    rw [RVs] at rv
    obtain ⟨x, s, ex, q1, q2⟩ := rv
    obtain ⟨σ2, e1, e2⟩ := Option.bind_eq_some_iff.mp e
    refine ⟨x, s, ex, ι, σm, h, d, σ2, r, rs, q1, e1, fun σ1 rs1 l1 o1 => ⟨ι, σ2, h, ds, σm1, r, rs1, q2, e2, fun σ3 rs3 l3 o3 => k σ3 rs3 (l3.trans l1) fun j hj => ?_⟩⟩
    rw [o3 j (fun z => hj (List.mem_append_right _ z)), o1 j (fun z => hj (List.mem_append_left _ z))]
theorem sqT_len {K : PySem.W.Frag} {T : Tx} {ι : List Addr} {H : Hp} {ds : List D} {xs : List V} (r : RVs T ι H ds xs) : xs.length = ds.length := r.length
theorem g_tup {es : List Expr} {kk : Nat} {n : Nat} {vs : List Nat} {gs : List D → Sm → Option Sm} (hc : X.calm = true) (h : PGs X es (lfGs (tx X) vs gs))
    (hn : (assignEach es X.env).length = n := by rfl) (hst : (assignEach es X.env).findIdx? (·.1) = none := by rfl) : PG X (.Tuple es kk pos) (lfG (tx X) vs (tupG n gs)) := (pg_tup hc h hn hst).imp fun v σ H Q q => by
  obtain ⟨ι, σm, h, d, σm1, r, rs, rv, e, k⟩ := q
  cases d with
  | tup ds =>
    rw [RV] at rv
    obtain ⟨a, xs, e1, sq, q1⟩ := rv
    have e : (if ds.length = n then gs ds σm else none) = some σm1 := e
    by_cases hl : ds.length = n
    · rw [if_pos hl] at e
      exact ⟨a, xs, e1, sq, by rw [q1.length, hl], ι, σm, h, ds, σm1, r, rs, q1, e, k⟩
    · rw [if_neg hl] at e; cases e
  | _ => cases e
end

/-! ### what is walked -/
abbrev Src := List (Nat × List D)
/-- the lists that are walked are as they were -/
def Chk (_items : List D) (src : Src) (h : Hm) : Prop := ∀ p ∈ src, h[p.1]? = some (.lst p.2)
theorem Chk.nil {items : List D} {h : Hm} : Chk items [] h := fun p m => absurd m List.not_mem_nil
theorem Chk.one {items xs : List D} {k : Nat} {h : Hm} (e : h[k]? = some (.lst xs)) : Chk items [(k, xs)] h := fun p m => by rw [List.mem_singleton.mp m]; exact e
theorem Chk.get {items xs : List D} {k : Nat} {h : Hm} (c : Chk items [(k, xs)] h) : h[k]? = some (.lst xs) := c (k, xs) (List.mem_singleton.mpr rfl)
structure Wk (T : Tx) (ι : List Addr) (H : Hp) (J : It) (items : List D) (src : Src) : Prop where
  go : ∀ (ι1 : List Addr) (H1 : Hp) (h1 : Hm) (i : Nat), Ex ι H ι1 H1 → Rl T ι1 H1 h1 → Chk items src h1 → i < items.length → J.go i H1 ∧ ∀ x H', J.yld i H1 x H' → Ex ι1 H1 ι1 H' ∧ Rl T ι1 H' h1 ∧ ∃ d, items[i]? = some d ∧ RV T ι1 H' d x
  stop : ∀ (ι1 : List Addr) (H1 : Hp) (h1 : Hm), Ex ι H ι1 H1 → Rl T ι1 H1 h1 → Chk items src h1 → J.stop items.length H1
def lfI (T : Tx) (m : Sm → M (List D × Src)) : TI := fun σ H R => ∃ ι σm h p h1, Rl T ι H h ∧ RS T ι H σm σ ∧ m σm h = some (p, h1) ∧
  ∀ ι1 H1 J, Ex ι H ι1 H1 → Rl T ι1 H1 h1 → Wk T ι1 H1 J p.1 p.2 → R J H1
theorem Up.of {T : Tx} {ι : List Addr} {H H' : Hp} (t : ∀ a xs, SqT T.K H a xs → SqT T.K H' a xs) (f : ∀ a xs, FzL T.K H a xs → FzL T.K H' a xs) : Up T ι H ι H' := ⟨fun _ _ e => e, t, f⟩
/-- a list whose reading stands whatever else happens -/
theorem wk_list {T : Tx} {ι : List Addr} {H : Hp} {a : Addr} {ds : List D} {xs : List V} {src : Src} (q : RVs T ι H ds xs) (r0 : ∃ h, Rl T ι H h)
    (st : ∀ ι1 H1 h1, Ex ι H ι1 H1 → Rl T ι1 H1 h1 → Chk ds src h1 → SqL T.K H1 a xs) (one : ∀ H1 ys, SqL T.K H1 a xs → SqL T.K H1 a ys → (∃ ι1 h1, Ex ι H ι1 H1 ∧ Rl T ι1 H1 h1 ∧ Chk ds src h1) → True) : Wk T ι H (Itl T.K a) ds src := by
  obtain ⟨h0, r0⟩ := r0
  refine ⟨fun ι1 H1 h1 i x1 r1 c hi => ?_, fun ι1 H1 h1 x1 r1 c => ⟨xs, st ι1 H1 h1 x1 r1 c, by rw [q.length]; exact Nat.le_refl _⟩⟩
  have hs := st ι1 H1 h1 x1 r1 c
  obtain ⟨x, ex, qx⟩ := q.get (List.getElem?_eq_getElem hi)
  refine ⟨⟨xs, x, hs, ex⟩, fun y H' hy => ?_⟩
  obtain ⟨e, f⟩ := hy
  subst e
  refine ⟨Ex.refl _ _, r1, ds[i], List.getElem?_eq_getElem hi, ?_⟩
  have e2 := (f xs hs).symm.trans ex
  cases e2
  exact qx.up (x1.up r0) _ _
theorem wk_tup {T : Tx} {ι : List Addr} {H : Hp} {a : Addr} {ds : List D} {xs : List V} (q : RVs T ι H ds xs) (r0 : ∃ h, Rl T ι H h) (sq : SqT T.K H a xs) : Wk T ι H (Itt T.K a) ds [] := by
  obtain ⟨h0, r0⟩ := r0
  refine ⟨fun ι1 H1 h1 i x1 r1 c hi => ?_, fun ι1 H1 h1 x1 r1 c => ⟨xs, (x1.up r0).tp a xs sq, by rw [q.length]; exact Nat.le_refl _⟩⟩
  have hs := (x1.up r0).tp a xs sq
  obtain ⟨x, ex, qx⟩ := q.get (List.getElem?_eq_getElem hi)
  refine ⟨⟨xs, x, hs, ex⟩, fun y H' hy => ?_⟩
  obtain ⟨e, f⟩ := hy
  subst e
  refine ⟨Ex.refl _ _, r1, ds[i], List.getElem?_eq_getElem hi, ?_⟩
  have e2 := (f xs hs).symm.trans ex
  cases e2
  exact qx.up (x1.up r0) _ _
theorem wk_rng {T : Tx} {ι : List Addr} {H : Hp} {lo : Int} {n : Nat} : Wk T ι H (Itr lo n) ((List.range n).map fun (i : Nat) => D.int (lo + i)) [] := by
  refine ⟨fun ι1 H1 h1 i x1 r1 c hi => ?_, fun ι1 H1 h1 x1 r1 c => by rw [List.length_map, List.length_range]; exact Nat.le_refl _⟩
  rw [List.length_map, List.length_range] at hi
  refine ⟨hi, fun y H' hy => ?_⟩
  obtain ⟨e, f⟩ := hy
  subst e f
  exact ⟨Ex.refl _ _, r1, .int (lo + i), by rw [List.getElem?_map, List.getElem?_range hi]; rfl, by rw [RV]⟩
/-- a value that is walked: a tuple, a list of ours, a list that nobody writes -/
def walkD (d : D) : M (List D × Src) := fun h => match d with
  | .tup ds => some ((ds, []), h)
  | .fro ds => some ((ds, []), h)
  | .ref k => match h[k]? with
    | some (.lst ds) => some ((ds, [(k, ds)]), h)
    | _ => none
  | _ => none
def itV (m : Sm → M D) : Sm → M (List D × Src) := fun σ => m σ >>= walkD
def itL (m : Sm → M (List D)) : Sm → M (List D × Src) := fun σ => m σ >>= fun ds => pure (ds, [])
def rngD (lo : Int) (hi : Int) : M (List D × Src) := if -(2 ^ 62) ≤ lo ∧ lo < 2 ^ 62 ∧ -(2 ^ 62) ≤ hi ∧ hi < 2 ^ 62 then pure (((List.range (hi - lo).toNat).map fun (i : Nat) => D.int (lo + i)), []) else M.bad
def itR1 (ms : Sm → M (List D)) : Sm → M (List D × Src) := fun σ => ms σ >>= fun ds => match ds with
  | [.int j] => rngD 0 j
  | _ => M.bad
def itR2 (ms : Sm → M (List D)) : Sm → M (List D × Src) := fun σ => ms σ >>= fun ds => match ds with
  | [.int i, .int j] => rngD i j
  | _ => M.bad
section
variable {X : Cx} {tg : Expr} {pos : Pos}
def iAny (K : PySem.W.Frag) (tl : TE) : TI := fun σ H R => tl σ H fun x H1 => ∃ a, x = .ref a ∧ (((∃ xs, SqL K H1 a xs) ∧ R (Itl K a) H1) ∨ ((∃ xs, SqT K H1 a xs) ∧ R (Itt K a) H1))
theorem pi_any {l : Expr} {tl : TE} (hl : PE X l tl) : PI X tg l (iAny X.K tl) := by
  refine ⟨fun pins s σ H R I h => ?_⟩
  refine thn (hl.run pins s σ H _ I h) fun v s1 ⟨x, H1, I1, r1, q1⟩ => ?_
  obtain ⟨a, e, q⟩ := q1
  subst e
  cases r1
  rcases q with ⟨⟨xs, hq⟩, q⟩ | ⟨⟨xs, hq⟩, q⟩
  · obtain ⟨its, rv, p, hz⟩ := I1.list hq
    refine wpAny_pyIter_list p.isList ?_
    refine ⟨s1.heap.objs.size, [s1.heap.objs.size], _, _, H1, rfl, I1.kept (t' := s1.toks) fun b o e => Heap.get?_push_of_some _ e, turn_list a _, ⟨_, Heap.get?_push_size _ rfl, rfl, rfl⟩, fun b hb => ?_, q⟩
    have e : b = s1.heap.objs.size := by simpa using hb
    subst e
    exact I1.fpOk (Nat.le_refl _) (I1.hok.fresh (Nat.le_refl _))
  · obtain ⟨its, rv, p, hz⟩ := I1.tuple hq
    refine wpAny_pyIter_tuple (show s1.heap.IsTuple a its.toArray from p) ?_
    refine ⟨s1.heap.objs.size, [s1.heap.objs.size], _, _, H1, rfl, I1.kept (t' := s1.toks) fun b o e => Heap.get?_push_of_some _ e, turn_tuple a _, ⟨_, Heap.get?_push_size _ rfl, rfl, rfl⟩, fun b hb => ?_, q⟩
    have e : b = s1.heap.objs.size := by simpa using hb
    subst e
    exact I1.fpOk (Nat.le_refl _) (I1.hok.fresh (Nat.le_refl _))
variable {l : Expr} {m : Sm → M D} {ms : Sm → M (List D)}
theorem i_val (hl : PE X l (lf (tx X) m)) : PI X tg l (lfI (tx X) (itV m)) := (pi_any hl).imp fun σ H R q => by
  obtain ⟨ι, σm, h, p, h1, r, rs, e, k⟩ := q
  refine lf_then r rs e (P := fun ι2 H2 => ∀ J, Rl (tx X) ι2 H2 h1 → Wk (tx X) ι2 H2 J p.1 p.2 → R J H2) (fun ι2 H2 y J => k ι2 H2 J y) fun ι1 H1 x d h' x1 r1 rs1 q1 e1 k1 => ?_
  cases d with
  | tup ds =>
    have e2 : some ((ds, []), h') = some (p, h1) := e1
    injection e2 with e2
    injection e2 with e3 e4
    subst e3 e4
    rw [RV] at q1
    obtain ⟨a, xs, ea, sq, qs⟩ := q1
    exact ⟨a, ea, .inr ⟨⟨xs, sq⟩, k1 _ _ (Ex.refl _ _) _ r1 (wk_tup qs ⟨_, r1⟩ sq)⟩⟩
  | fro ds =>
    have e2 : some ((ds, []), h') = some (p, h1) := e1
    injection e2 with e2
    injection e2 with e3 e4
    subst e3 e4
    rw [RV] at q1
    obtain ⟨a, xs, ea, sq, qs⟩ := q1
    exact ⟨a, ea, .inl ⟨⟨xs, sq.sq⟩, k1 _ _ (Ex.refl _ _) _ r1 (wk_list qs ⟨_, r1⟩ (fun ι2 H2 h2 x2 r2 _ => ((x2.up r1).fz a xs sq).sq) fun _ _ _ _ _ => trivial)⟩⟩
  | ref kk =>
    have e2 : (match h'[kk]? with | some (.lst ds) => some ((ds, [(kk, ds)]), h') | _ => none) = some (p, h1) := e1
    cases q2 : h'[kk]? with
    | none => rw [q2] at e2; cases e2
    | some o =>
      cases o with
      | lst ds =>
        rw [q2] at e2
        injection e2 with e2
        injection e2 with e3 e4
        subst e3 e4
        rw [RV] at q1
        obtain ⟨a, ha, ea⟩ := q1
        obtain ⟨xs, hx, qs⟩ := r1.obj kk a _ ha q2
        refine ⟨a, ea, .inl ⟨⟨xs, SqL.of hx⟩, k1 _ _ (Ex.refl _ _) _ r1 ?_⟩⟩
        refine ⟨fun ι2 H2 h2 i x2 r2 c hi => ?_, fun ι2 H2 h2 x2 r2 c => ?_⟩
        · obtain ⟨ys, hy, qy⟩ := r2.obj kk a _ ((x2.up r1).ix kk a ha) (c.get)
          obtain ⟨z, ez, qz⟩ := qy.get (List.getElem?_eq_getElem hi)
          refine ⟨⟨ys, z, SqL.of hy, ez⟩, fun y H' hyl => ?_⟩
          obtain ⟨e5, f⟩ := hyl
          subst e5
          have e6 := (f ys (SqL.of hy)).symm.trans ez
          cases e6
          exact ⟨Ex.refl _ _, r2, ds[i], List.getElem?_eq_getElem hi, qz⟩
        · obtain ⟨ys, hy, qy⟩ := r2.obj kk a _ ((x2.up r1).ix kk a ha) (c.get)
          exact ⟨ys, SqL.of hy, by rw [qy.length]; exact Nat.le_refl _⟩
      | _ => rw [q2] at e2; cases e2
  | _ => cases e1
theorem i_lst (hl : PE X l (lfL (tx X) ms)) : PI X tg l (lfI (tx X) (itL ms)) := (pi_list hl).imp fun σ H R q => by
  obtain ⟨ι, σm, h, p, h1, r, rs, e, k⟩ := q
  refine lfL_then r rs e (P := fun ι2 H2 => ∀ J, Rl (tx X) ι2 H2 h1 → Wk (tx X) ι2 H2 J p.1 p.2 → R J H2) (fun ι2 H2 y J => k ι2 H2 J y) fun ι1 H1 a xs ds h' x1 r1 rs1 ha na ea q1 e1 k1 => ?_
  obtain ⟨e2, e3⟩ := pure_some e1
  subst e2 e3
  exact ⟨a, rfl, ⟨xs, SqL.of ea⟩, k1 _ _ (Ex.refl _ _) _ r1 (wk_list q1 ⟨_, r1⟩ (fun ι2 H2 h2 x2 r2 _ => SqL.of (x2.fr a _ ea na)) fun _ _ _ _ _ => trivial)⟩
theorem i_rng1 {a : Expr} {p pos : Pos} (hg : Gl X "range") (hm : X.mg "range" = none) (ha : PA X [a] (lfA (tx X) ms)) (hs : starEach [a] X.env = [(false, eval a X.env)] := by rfl) : PI X tg (.Call (.Name "range" p) [a] [] pos) (lfI (tx X) (itR1 ms)) := (pi_range1 hg hm ha hs).imp fun σ H R q => by
  obtain ⟨ι, σm, h, p, h1, r, rs, e, k⟩ := q
  refine lfA_then r rs e (P := fun ι2 H2 => ∀ J, Rl (tx X) ι2 H2 h1 → Wk (tx X) ι2 H2 J p.1 p.2 → R J H2) (fun ι2 H2 y J => k ι2 H2 J y) fun ι1 H1 xs ds h' x1 r1 rs1 q1 e1 k1 => ?_
  split at e1
  · rename_i j
    unfold rngD at e1
    split at e1
    · rename_i hc
      obtain ⟨e2, e3⟩ := pure_some e1
      subst e2 e3
      rw [RVs] at q1
      obtain ⟨y, s, ey, q2, q3⟩ := q1
      rw [RVs] at q3
      rw [RV] at q2
      subst q2 q3 ey
      refine ⟨j, rfl, hc.2.2.1, hc.2.2.2, k1 _ _ (Ex.refl _ _) _ r1 ?_⟩
      rw [show (j - 0).toNat = j.toNat by rw [Int.sub_zero]]
      exact wk_rng
    · cases e1
  · cases e1
theorem i_rng2 {a b : Expr} {p pos : Pos} (hg : Gl X "range") (hm : X.mg "range" = none) (ha : PA X [a, b] (lfA (tx X) ms)) (hs : starEach [a, b] X.env = [(false, eval a X.env), (false, eval b X.env)] := by rfl) (hs2 : starEach [b] X.env = [(false, eval b X.env)] := by rfl) :
    PI X tg (.Call (.Name "range" p) [a, b] [] pos) (lfI (tx X) (itR2 ms)) := (pi_range2 hg hm ha hs hs2).imp fun σ H R q => by
  obtain ⟨ι, σm, h, p, h1, r, rs, e, k⟩ := q
  refine lfA_then r rs e (P := fun ι2 H2 => ∀ J, Rl (tx X) ι2 H2 h1 → Wk (tx X) ι2 H2 J p.1 p.2 → R J H2) (fun ι2 H2 y J => k ι2 H2 J y) fun ι1 H1 xs ds h' x1 r1 rs1 q1 e1 k1 => ?_
  split at e1
  · rename_i i j
    unfold rngD at e1
    split at e1
    · rename_i hc
      obtain ⟨e2, e3⟩ := pure_some e1
      subst e2 e3
      rw [RVs] at q1
      obtain ⟨y, s, ey, q2, q3⟩ := q1
      rw [RVs] at q3
      obtain ⟨y', s', ey', q2', q3'⟩ := q3
      rw [RVs] at q3'
      rw [RV] at q2 q2'
      subst q2 q2' q3' ey' ey
      exact ⟨i, j, rfl, hc, k1 _ _ (Ex.refl _ _) _ r1 wk_rng⟩
    · cases e1
  · cases e1
end

/-! ### for -/
open Classical in
noncomputable def forR (items : List D) (src : Src) (tg : D → Sm → Option Sm) (body : Sm → M Fl) : List D → Sm → M Fl
  | [], σ => fun h => if Chk items src h then some (.nx σ, h) else none
  | d :: r, σ => fun h => if Chk items src h then (match tg d σ with
    | none => none
    | some σ1 => match body σ1 h with
      | none => none
      | some (.nx σ2, h2) => forR items src tg body r σ2 h2
      | some (.ct σ2, h2) => forR items src tg body r σ2 h2
      | some (.bk σ2, h2) => some (.nx σ2, h2)
      | some (.rt d, h2) => some (.rt d, h2)) else none
noncomputable def forS (it : Sm → M (List D × Src)) (tg : D → Sm → Option Sm) (body : Sm → M Fl) : Sm → M Fl := fun σ => it σ >>= fun p => forR p.1 p.2 tg body p.1 σ
section
variable {X : Cx}
theorem s_for {tg iter : Expr} {body : List Stmt} {it : Sm → M (List D × Src)} {g : D → Sm → Option Sm} {tb : Sm → M Fl} {vs : List Nat} {pos : Pos} (hp : PassesOwn (model X.prog X.w) X.A X.env X.xe) (hc : X.calm = true) (hi : PI X tg iter (lfI (tx X) it)) (hg : PG X tg (lfG (tx X) vs g))
    (hb : PSs X body (lfS (tx X) tb)) (hs : ∀ x, foldedSetIterable iter X.env x = pure x := by intro _; rfl) : PS X (.For tg iter body [] pos) (lfS (tx X) (forS it g tb)) := (ps_for hp hc hi hg hb hs).imp fun D σ H q => by
  obtain ⟨ι, σm, h, f, h1, r, rs, e, k⟩ := q
  obtain ⟨p, h', e1, e2⟩ := bind_some e
  refine ⟨ι, σm, h, p, h', r, rs, e1, fun ι0 H0 J x0 r0 wk => ?_⟩
  refine ⟨fun i m σ1 H1 => m = p.1.length - i ∧ i ≤ p.1.length ∧ ∃ ι1 σm1 h2, Ex ι0 H0 ι1 H1 ∧ Rl (tx X) ι1 H1 h2 ∧ RS (tx X) ι1 H1 σm1 σ1 ∧ forR p.1 p.2 g tb (p.1.drop i) σm1 h2 = some (f, h1),
    ⟨p.1.length, by simp, Nat.zero_le _, ι0, σm, h', Ex.refl _ _, r0, rs.up (x0.up r), by simpa using e2⟩, ?_⟩
  rintro i m σ1 H1 ⟨rfl, hi, ι1, σm1, h2, x1, r1, rs1, e3⟩
  by_cases hlt : i < p.1.length
  · rw [List.drop_eq_getElem_cons hlt] at e3
    unfold forR at e3
    by_cases hk : Chk p.1 p.2 h2
    · rw [if_pos hk] at e3
      obtain ⟨go, yl⟩ := wk.go ι1 H1 h2 i x1 r1 hk hlt
      refine .inr ⟨go, fun σ' H' => ∃ ι1 σm1 h2, Ex ι0 H0 ι1 H' ∧ Rl (tx X) ι1 H' h2 ∧ RS (tx X) ι1 H' σm1 σ' ∧ forR p.1 p.2 g tb (p.1.drop (i + 1)) σm1 h2 = some (f, h1),
        fun σ' H' hN => ⟨p.1.length - (i + 1), by omega, rfl, hlt, hN⟩, fun x H' y => ?_⟩
      obtain ⟨x2, r2, d, ed, qd⟩ := yl x H' y
      rw [List.getElem?_eq_getElem hlt] at ed
      cases ed
      cases q5 : g p.1[i] σm1 with
      | none => rw [q5] at e3; cases e3
      | some σm2 =>
        rw [q5] at e3
        refine ⟨ι1, σm1, h2, p.1[i], σm2, r2, rs1.up (x2.up r1), qd, q5, fun σ2 rs2 _ _ => ?_⟩
        cases q6 : tb σm2 h2 with
        | none =>
          have e4 : (match tb σm2 h2 with | none => none | some (.nx σ2, h2) => forR p.1 p.2 g tb (p.1.drop (i + 1)) σ2 h2 | some (.ct σ2, h2) => forR p.1 p.2 g tb (p.1.drop (i + 1)) σ2 h2 | some (.bk σ2, h2) => some (Fl.nx σ2, h2) | some (.rt d, h2) => some (Fl.rt d, h2)) = some (f, h1) := e3
          rw [q6] at e4; cases e4
        | some fp =>
          obtain ⟨f2, h3⟩ := fp
          have e4 : (match tb σm2 h2 with | none => none | some (.nx σ2, h2) => forR p.1 p.2 g tb (p.1.drop (i + 1)) σ2 h2 | some (.ct σ2, h2) => forR p.1 p.2 g tb (p.1.drop (i + 1)) σ2 h2 | some (.bk σ2, h2) => some (Fl.nx σ2, h2) | some (.rt d, h2) => some (Fl.rt d, h2)) = some (f, h1) := e3
          rw [q6] at e4
          refine ⟨ι1, σm2, h2, f2, h3, r2, rs2, q6, fun ι3 H3 x3 r3 => ?_⟩
          have x13 : Ex ι0 H0 ι3 H3 := (x1.trans r1 x2).trans r2 x3
          cases f2 with
          | nx σ5 => exact fun σ6 rs6 => ⟨ι3, σ5, h3, x13, r3, rs6, e4⟩
          | ct σ5 => exact fun σ6 rs6 => ⟨ι3, σ5, h3, x13, r3, rs6, e4⟩
          | bk σ5 =>
            have e5 : some (Fl.nx σ5, h3) = some (f, h1) := e4
            injection e5 with e5
            injection e5 with e6 e7
            subst e6 e7
            exact fun σ6 rs6 => k ι3 H3 (x0.trans r0 x13) r3 σ6 rs6
          | rt d5 =>
            have e5 : some (Fl.rt d5, h3) = some (f, h1) := e4
            injection e5 with e5
            injection e5 with e6 e7
            subst e6 e7
            exact fun v rv => k ι3 H3 (x0.trans r0 x13) r3 v rv
    · rw [if_neg hk] at e3; cases e3
  · have ei : i = p.1.length := by omega
    subst ei
    rw [List.drop_length] at e3
    unfold forR at e3
    by_cases hk : Chk p.1 p.2 h2
    · rw [if_pos hk] at e3
      injection e3 with e3
      injection e3 with e6 e7
      subst e6 e7
      exact .inl ⟨wk.stop ι1 H1 h2 x1 r1 hk, k ι1 H1 (x0.trans r0 x1) r1 σ1 rs1⟩
    · rw [if_neg hk] at e3; cases e3
end
end ML

set_option Elab.async false
set_option linter.all false
set_option maxRecDepth 100000
namespace ML
open PySem L2
/-! ### comprehensions -/
def wipeM (σ : Sm) : List Nat → Sm
  | [] => σ
  | v :: vs => (wipeM σ vs).set v none
theorem wipeM_length (σ : Sm) : ∀ vs : List Nat, (wipeM σ vs).length = σ.length
  | [] => rfl
  | v :: vs => by unfold wipeM; rw [List.length_set, wipeM_length σ vs]
theorem wipeM_some {σ : Sm} {i : Nat} {x : D} : ∀ {vs : List Nat}, (wipeM σ vs)[i]? = some (some x) → σ[i]? = some (some x) ∧ i ∉ vs
  | [], h => ⟨h, by simp⟩
  | v :: vs, h => by
    unfold wipeM at h
    by_cases hi : v = i
    · subst hi
      by_cases hv : v < (wipeM σ vs).length
      · rw [List.getElem?_set_self hv] at h; cases h
      · rw [List.getElem?_eq_none (by simpa using hv)] at h; cases h
    · rw [List.getElem?_set_ne hi] at h
      obtain ⟨h1, h2⟩ := wipeM_some h
      exact ⟨h1, by simp only [List.mem_cons, not_or]; exact ⟨fun e => hi e.symm, h2⟩⟩
theorem RS.wipe {T : Tx} {ι : List Addr} {H : Hp} {σm : Sm} {σ : St} (r : RS T ι H σm σ) (vs : List Nat) : RS T ι H (wipeM σm vs) (wipe σ vs) :=
  ⟨by rw [wipeM_length, wipe_length, r.len], fun i d e => by
    obtain ⟨e1, hn⟩ := wipeM_some e
    obtain ⟨v, e2, q⟩ := r.at_ i d e1
    exact ⟨v, by rw [wipe_out hn]; exact e2, q⟩⟩
theorem wipe_in {i : Nat} : ∀ {vs : List Nat} {σ : St}, i ∈ vs → i < σ.length → (wipe σ vs)[i]? = some none
  | [], _, h, _ => by cases h
  | v :: vs, σ, h, hl => by
    unfold wipe
    by_cases e : v = i
    · subst e
      exact List.getElem?_set_self (by rw [wipe_length]; exact hl)
    · rw [List.getElem?_set_ne e]
      rcases List.mem_cons.mp h with z | z
      · exact absurd z.symm e
      · exact wipe_in z hl
theorem wipe_same {σ σ1 : St} {vs : List Nat} (hl : σ1.length = σ.length) (ho : ∀ j, j ∉ vs → σ1[j]? = σ[j]?) : wipe σ1 vs = wipe σ vs := by
  apply List.ext_getElem?
  intro i
  by_cases hi : i ∈ vs
  · by_cases hl2 : i < σ.length
    · rw [wipe_in hi hl2, wipe_in hi (by rw [hl]; exact hl2)]
    · rw [List.getElem?_eq_none (by rw [wipe_length]; omega), List.getElem?_eq_none (by rw [wipe_length]; omega)]
  · rw [wipe_out hi, wipe_out hi, ho i hi]
theorem wipe_wipe {σ : St} {vs : List Nat} : wipe (wipe σ vs) vs = wipe σ vs := wipe_same (wipe_length σ vs) fun j hj => wipe_out hj
open Classical in
noncomputable def lcR (items : List D) (src : Src) (tg : D → Sm → Option Sm) (tt : Sm → M Bool) (el : Sm → M D) : List D → Sm → M (List D)
  | [], _ => fun h => if Chk items src h then some ([], h) else none
  | d :: r, σ => fun h => if Chk items src h then (match tg d σ with
    | none => none
    | some σ1 => match tt σ1 h with
      | none => none
      | some (false, h2) => lcR items src tg tt el r σ h2
      | some (true, h2) => match el σ1 h2 with
        | none => none
        | some (y, h3) => match lcR items src tg tt el r σ h3 with
          | none => none
          | some (ys, h4) => some (y :: ys, h4)) else none
noncomputable def lcM (it : Sm → M (List D × Src)) (tg : D → Sm → Option Sm) (tt : Sm → M Bool) (el : Sm → M D) (vs : List Nat) : Sm → M (List D) := fun σ => it σ >>= fun p => lcR p.1 p.2 tg tt el p.1 (wipeM σ vs) >>= fun ds =>
  if ds.length ≤ sizeLine then pure ds else M.bad
def yesT : Sm → M Bool := fun _ => pure true
structure PTsM (X : Cx) (ifs : List Expr) (tt : Sm → M Bool) : Prop where
  ok : PTs X ifs (lfT (tx X) tt)
section
variable {X : Cx}
theorem t_yes : PTs X [] (lfT (tx X) yesT) := ⟨fun pins s σ H Q I q => pts_nil.run pins s σ H Q I (by
  obtain ⟨ι, σm, h, b, h1, r, rs, e, k⟩ := q
  obtain ⟨e1, e2⟩ := pure_some e
  subst e1 e2
  exact k ι H (Ex.refl _ _) r)⟩
theorem t_one {c : Expr} {t : Sm → M Bool} (h : PT X c (lfT (tx X) t)) : PTs X [c] (lfT (tx X) t) := pts_one h
/-- an object beside ours is changed -/
theorem Rl.side {T : Tx} {ι : List Addr} {H : Hp} {h : Hm} {p : Addr} {xs : List V} {u : HO} (r : Rl T ι H h) (np : p ∉ ι) (e : H p = some (.lst xs)) : Rl T ι (upd H p u) h ∧ Up T ι H ι (upd H p u) := by
  have up : Up T ι H ι (upd H p u) := by
    refine ⟨fun _ _ z => z, fun a ys s => ?_, fun a ys s => ?_⟩
    · rcases s with (s | ⟨o, s⟩) | s
      · exact .inl (.inl (by rw [upd_ne (fun z => by rw [z, e] at s; cases s)]; exact s))
      · exact .inl (.inr ⟨o, by rw [upd_ne (fun z => by rw [z, e] at s; cases s)]; exact s⟩)
      · exact .inr s
    · rcases s with ⟨o, s⟩ | s
      · exact .inl ⟨o, by rw [upd_ne (fun z => by rw [z, e] at s; cases s)]; exact s⟩
      · exact .inr s
  refine ⟨⟨r.len, r.nd, fun i a o e1 e2 => ?_⟩, up⟩
  have ne : a ≠ p := fun z => np (z ▸ List.mem_of_getElem? e1)
  exact (r.obj i a o e1 e2).up up (upd_ne ne)
theorem Ex.side {ι ι1 : List Addr} {H H1 : Hp} {p : Addr} {u : HO} (x : Ex ι H ι1 H1) (hp : H p = none) : Ex ι H ι1 (upd H1 p u) :=
  ⟨x.pre, fun b o e n => by rw [upd_ne (ne_of_none e hp)]; exact x.fr b o e n, fun b o u e => by rw [upd_ne (ne_of_none e hp)]; exact x.fz b o u e⟩
theorem Ex.not_new {ι ι1 : List Addr} {H H1 : Hp} {p : Addr} {u : HO} (x : Ex ι H ι1 H1) (hp : H p = some u) (n : p ∉ ι) : p ∉ ι1 := fun m => by
  obtain ⟨s, e, ns⟩ := x.pre
  rw [e] at m
  rcases List.mem_append.mp m with m | m
  · exact n m
  · rw [ns p m] at hp; cases hp
theorem RVs.append {T : Tx} {ι : List Addr} {H : Hp} {es : List D} {ys : List V} : ∀ {ds : List D} {xs : List V}, RVs T ι H ds xs → RVs T ι H es ys → RVs T ι H (ds ++ es) (xs ++ ys)
  | [], xs, r, q => by rw [RVs] at r; rw [r]; exact q
  | d :: ds, xs, r, q => by
    rw [RVs] at r
    obtain ⟨x, s, e, q1, q2⟩ := r
    rw [e]
    show RVs T ι H (d :: (ds ++ es)) (x :: (s ++ ys))
    rw [RVs]
    exact ⟨x, s ++ ys, rfl, q1, RVs.append q2 q⟩
theorem lc_of {T : Tx} {it : Sm → M (List D × Src)} {g : D → Sm → Option Sm} {tt : Sm → M Bool} {el : Sm → M D} {vs : List Nat} {σ : St} {H : Hp} {Q : VK} (q : lfL T (lcM it g tt el vs) σ H Q) : tLc (lfI T it) (lfG T vs g) (lfT T tt) (lf T el) vs σ H Q := by
  obtain ⟨ι, σm, h, d, h1, r, rs, e, k⟩ := q
  obtain ⟨p, h', e1, e0⟩ := bind_some e
  obtain ⟨ds, h'', e2, e3⟩ := bind_some e0
  by_cases hz : ds.length ≤ sizeLine
  · rw [if_pos hz] at e3
    obtain ⟨e4, e5⟩ := pure_some e3
    subst e4 e5
    refine ⟨ι, σm, h, p, h', r, rs, e1, fun ι0 H0 J x0 r0 wk Dn hD => ?_⟩
    have nD : Dn ∉ ι0 := fun mm => by
      obtain ⟨u', e', _⟩ := r0.at mm
      rw [hD] at e'; cases e'
    have hDH : H Dn = none := by
      cases q5 : H Dn with
      | none => rfl
      | some o =>
        by_cases hi : Dn ∈ ι
        · obtain ⟨s, es', _⟩ := x0.pre
          exact absurd (by rw [es']; exact List.mem_append_left _ hi) nD
        · have := x0.fr Dn o q5 hi
          rw [hD] at this; cases this
    have rs0 : RS T ι0 H0 (wipeM σm vs) (wipe σ vs) := (rs.up (x0.up r)).wipe _
    refine ⟨fun i m H1 => m = p.1.length - i ∧ i ≤ p.1.length ∧ ∃ ι1 h2 acc xs rest, Ex ι0 H0 ι1 H1 ∧ Rl T ι1 H1 h2 ∧ Dn ∉ ι1 ∧ H1 Dn = some (.lst xs) ∧ RVs T ι1 H1 acc xs ∧ lcR p.1 p.2 g tt el (p.1.drop i) (wipeM σm vs) h2 = some (rest, h'') ∧ ds = acc ++ rest,
      ⟨p.1.length, by simp, Nat.zero_le _, ι0, h', [], [], ds, (Ex.refl _ _).side hD, (r0.other hD).2, nD, upd_same, by rw [RVs], by simpa using e2, rfl⟩, ?_⟩
    rintro i m H1 ⟨rfl, hi, ι1, h2, acc, xs, rest, x1, r1, n1, hx, qa, e6, ed⟩
    have rsw : RS T ι1 H1 (wipeM σm vs) (wipe σ vs) := rs0.up (x1.up r0)
    by_cases hlt : i < p.1.length
    · rw [List.drop_eq_getElem_cons hlt] at e6
      unfold lcR at e6
      by_cases hk : Chk p.1 p.2 h2
      · rw [if_pos hk] at e6
        obtain ⟨go, yl⟩ := wk.go ι1 H1 h2 i x1 r1 hk hlt
        refine .inr ⟨go, fun H' => ∃ ι1 h2 acc xs rest, Ex ι0 H0 ι1 H' ∧ Rl T ι1 H' h2 ∧ Dn ∉ ι1 ∧ H' Dn = some (.lst xs) ∧ RVs T ι1 H' acc xs ∧ lcR p.1 p.2 g tt el (p.1.drop (i + 1)) (wipeM σm vs) h2 = some (rest, h'') ∧ ds = acc ++ rest,
          fun H' hN => ⟨p.1.length - (i + 1), by omega, rfl, hlt, hN⟩, fun x H' y => ?_⟩
        obtain ⟨x2, r2, dd, edd, qd⟩ := yl x H' y
        rw [List.getElem?_eq_getElem hlt] at edd
        cases edd
        have n2 : Dn ∉ ι1 := n1
        have hx2 : H' Dn = some (.lst xs) := x2.fr _ _ hx n1
        have qa2 := RVs.up (x2.up r1) acc xs qa
        cases q5 : g p.1[i] (wipeM σm vs) with
        | none => rw [q5] at e6; cases e6
        | some σm2 =>
          rw [q5] at e6
          have e6 : (match tt σm2 h2 with | none => none | some (false, h2) => lcR p.1 p.2 g tt el (p.1.drop (i + 1)) (wipeM σm vs) h2 | some (true, h2) => match el σm2 h2 with | none => none | some (y, h3) => match lcR p.1 p.2 g tt el (p.1.drop (i + 1)) (wipeM σm vs) h3 with | none => none | some (ys, h4) => some (y :: ys, h4)) = some (rest, h'') := e6
          refine ⟨ι1, wipeM σm vs, h2, p.1[i], σm2, r2, rsw.up (x2.up r1), qd, q5, fun σ2 rs2 l2 o2 => ⟨(wipe_same l2 o2).trans wipe_wipe, ?_⟩⟩
          cases q6 : tt σm2 h2 with
          | none => rw [q6] at e6; cases e6
          | some bp =>
            obtain ⟨b, h3⟩ := bp
            rw [q6] at e6
            refine ⟨ι1, σm2, h2, b, h3, r2, rs2, q6, fun ι3 H3 x3 r3 => ?_⟩
            have n3 : Dn ∉ ι3 := x3.not_new hx2 n2
            have hx3 : H3 Dn = some (.lst xs) := x3.fr _ _ hx2 n2
            have qa3 := RVs.up (x3.up r2) acc xs qa2
            have x03 := (x1.trans r1 x2).trans r2 x3
            cases b with
            | false =>
              refine iteF ?_
              exact ⟨ι3, h3, acc, xs, rest, x03, r3, n3, hx3, qa3, e6, ed⟩
            | true =>
              refine iteT ?_
              have e6 : (match el σm2 h3 with | none => none | some (y, h3) => match lcR p.1 p.2 g tt el (p.1.drop (i + 1)) (wipeM σm vs) h3 with | none => none | some (ys, h4) => some (y :: ys, h4)) = some (rest, h'') := e6
              cases q7 : el σm2 h3 with
              | none => rw [q7] at e6; cases e6
              | some yp =>
                obtain ⟨y', h4⟩ := yp
                rw [q7] at e6
                have e6 : (match lcR p.1 p.2 g tt el (p.1.drop (i + 1)) (wipeM σm vs) h4 with | none => none | some (ys, h4) => some (y' :: ys, h4)) = some (rest, h'') := e6
                cases q8 : lcR p.1 p.2 g tt el (p.1.drop (i + 1)) (wipeM σm vs) h4 with
                | none => rw [q8] at e6; cases e6
                | some zp =>
                  obtain ⟨ys, h5⟩ := zp
                  rw [q8] at e6
                  injection e6 with e6
                  injection e6 with e8 e9
                  subst e8 e9
                  refine ⟨ι3, σm2, h3, y', h4, r3, rs2.up (x3.up r2), q7, fun ι4 H4 v x4 r4 rv => ?_⟩
                  have n4 : Dn ∉ ι4 := x4.not_new hx3 n3
                  have hx4 : H4 Dn = some (.lst xs) := x4.fr _ _ hx3 n3
                  have qa4 := RVs.up (x4.up r3) acc xs qa3
                  have x04 := x03.trans r3 x4
                  refine ⟨xs, hx4, ?_, ?_⟩
                  · rw [qa4.length]
                    have := congrArg List.length ed
                    rw [List.length_append, List.length_cons] at this
                    omega
                  · obtain ⟨r5, up5⟩ := r4.side (u := .lst (xs ++ [v])) n4 hx4
                    refine ⟨ι4, h4, acc ++ [y'], xs ++ [v], ys, x04.side hD, r5, n4, upd_same, ?_, q8, by rw [ed, List.append_assoc]; rfl⟩
                    refine RVs.append (RVs.up up5 acc xs qa4) ?_
                    rw [RVs]
                    exact ⟨v, [], rfl, RV.up up5 _ _ rv, by rw [RVs]⟩
      · rw [if_neg hk] at e6; cases e6
    · have ei : i = p.1.length := by omega
      subst ei
      rw [List.drop_length] at e6
      unfold lcR at e6
      by_cases hk : Chk p.1 p.2 h2
      · rw [if_pos hk] at e6
        injection e6 with e6
        injection e6 with e8 e9
        subst e8 e9
        rw [List.append_nil] at ed
        subst ed
        exact .inl ⟨wk.stop ι1 H1 _ x1 r1 hk, k ι1 H1 Dn xs (x0.trans r0 x1) r1 hDH n1 hx qa⟩
      · rw [if_neg hk] at e6; cases e6
  · rw [if_neg hz] at e3; cases e3
theorem l_lc {elt tg iter : Expr} {ifs : List Expr} {scope : Scope} {own : List (Str × Nat)} {pos : Pos} {it : Sm → M (List D × Src)} {g : D → Sm → Option Sm} {tt : Sm → M Bool} {el : Sm → M D} (hc : X.calm = true) (hN : X.N.Nodup) (hi : PI X tg iter (lfI (tx X) it)) (ok : BlkOk X.N X.env.scope scope own)
    (hg : ∀ (s : Shared) (H : Hp) (C : Addr) (cl : List (Str × Addr)) (fp : List Addr), PG (X.blk s H scope (compEnvC scope cl C X.env) fp) tg (lfG (tx X) (own.map (·.2)) g)) (ht : ∀ (s : Shared) (H : Hp) (C : Addr) (cl : List (Str × Addr)) (fp : List Addr), PTs (X.blk s H scope (compEnvC scope cl C X.env) fp) ifs (lfT (tx X) tt))
    (he : ∀ (s : Shared) (H : Hp) (C : Addr) (cl : List (Str × Addr)) (fp : List Addr), PE (X.blk s H scope (compEnvC scope cl C X.env) fp) elt (lf (tx X) el)) (hs : ∀ x, foldedSetIterable iter X.env x = pure x := by intro _; rfl) :
    PE X (.ListComp elt [⟨tg, iter, ifs, 0⟩] scope pos) (lfL (tx X) (lcM it g tt el (own.map (·.2)))) := (pe_lc hc hN hi ok hg ht he hs).imp fun σ H Q q => lc_of q
end
end ML

set_option Elab.async false
set_option linter.all false
set_option maxRecDepth 100000
/-! ### t < u for tuples whose first places that differ can be compared -/
namespace ML
open PySem PySem.SeqAt PySem.W
mutual
def ltP : PyData → PyData → Option Bool
  | .int a, .int b => some (decide (a < b))
  | .str x, .str y => some (decide (x.cps.toList < y.cps.toList))
  | .tuple xs, .tuple ys => ltPs xs ys
  | _, _ => none
def ltPs : List PyData → List PyData → Option Bool
  | [], [] => some false
  | [], _ :: _ => some true
  | _ :: _, [] => some false
  | x :: xs, y :: ys => if PyData.eqv x y = true then ltPs xs ys else ltP x y
end
/-- where the places from j on decide: k -/
def LtFrom (A : Around) (s : Shared) (its its2 : List Value) (k : Bool) : Prop :=
  match its, its2 with
  | [], [] => k = false
  | [], _ :: _ => k = true
  | _ :: _, [] => k = false
  | x :: xs, y :: ys => ∃ e, EqAt A s x y e ∧ if e = true then LtFrom A s xs ys k else RcLt A s x y k
open MeetsSeq MeetsSeq2 MeetsSeq3 SeqRoads2 in
theorem tup_lt (l b : Addr) (its its2 : Array Value) (n n2 : Nat) (dd dd2 : Option Addr) (sl sl2 : Array (Option Value)) (k : Bool) :
    Meets (Builtin.«tuple.__lt__» ⟨[.ref l, .ref b], []⟩)
      (fun A R s => s.heap.get? l = some { cls := .type "tuple", dict := dd, data := .seq its n, slots := sl } ∧ s.heap.get? b = some { cls := .type "tuple", dict := dd2, data := .seq its2 n2, slots := sl2 } ∧
        LtFrom A.in1 s its.toList its2.toList k ∧ R (.ok (.ret (.bool k))) s) :=
  .of_wp fun prog w A R s h => by
    obtain ⟨hp, g, d, tk, os⟩ := s; obtain ⟨hl, hb, hf, h⟩ := h
    have fsub := AutoSeq1.sub_tuple_tuple
    wp_walk using AutoSeq1.wpAny_loadPart' hl, AutoSeq1.wpAny_loadPart' hb, wpAny_forIn_list _ (fun rest b s' => b.1 = none ∧ s' = ⟨hp, g, d, tk, os⟩ ∧ ∃ u v, rest = u.zip v ∧ its.size = its.size ∧
      its.toList.length - u.length = its2.toList.length - v.length ∧ u.length ≤ its.toList.length ∧ v.length ≤ its2.toList.length ∧ LtFrom A.in1 ⟨hp, g, d, tk, os⟩ u v k) _
    case turn =>
      rintro ⟨y, x⟩ rest b s' ⟨hb', rfl, u, v, hz, _, hn, hu1, hv1, hF⟩
      cases u with
      | nil => cases hz
      | cons y' u =>
        cases v with
        | nil => cases hz
        | cons x' v =>
          have hz' : (y, x) :: rest = (y', x') :: u.zip v := hz
          injection hz' with e1 e2
          injection e1 with e3 e4
          subst e3 e4
          obtain ⟨e, he, hk⟩ := (show ∃ e, EqAt A.in1 _ y x e ∧ if e = true then LtFrom A.in1 _ u v k else RcLt A.in1 _ y x k from hF)
          refine wpAny_bind (he prog w _ _ ?_)
          cases e with
          | true =>
            wp_walk
            refine ⟨rfl, rfl, u, v, e2, rfl, ?_, ?_, ?_, by simpa using hk⟩
            · simp only [List.length_cons] at hn hu1 hv1; omega
            · simp only [List.length_cons] at hu1; omega
            · simp only [List.length_cons] at hv1; omega
          | false =>
            rw [if_pos (show (!false) = true from rfl)]
            refine wpAny_bind (wpAny_rule ?_)
            refine wpAny_bind ((show RcLt A.in1 _ y x k by simpa using hk) prog w _ _ ?_)
            wp_walk
            exact ⟨_, rfl, h⟩
    case fin =>
      rintro ⟨b1, b2⟩ s' ⟨hb', rfl, u, v, hz, _, hn, hu1, hv1, hF⟩
      simp only at hb'
      subst hb'
      have s1 : its.size = its.toList.length := by simp
      have s2 : its2.size = its2.toList.length := by simp
      have key : decide (its.size < its2.size) = k := by
        cases u with
        | nil =>
          cases v with
          | nil =>
            have hk : k = false := hF
            simp only [List.length_nil] at hn
            rw [hk, decide_eq_false_iff_not]; omega
          | cons x v =>
            have hk : k = true := hF
            simp only [List.length_nil, List.length_cons] at hn hv1
            rw [hk, decide_eq_true_eq]; omega
        | cons y u =>
          cases v with
          | nil =>
            have hk : k = false := hF
            simp only [List.length_nil, List.length_cons] at hn hu1
            rw [hk, decide_eq_false_iff_not]; omega
          | cons x v => cases hz
      wp_walk
      exact ⟨_, rfl, by simpa [Builtin.Tuple.tupleCompareSizes, key] using h⟩
    case h =>
      exact ⟨rfl, rfl, its.toList, its2.toList, rfl, rfl, by omega, Nat.le_refl _, Nat.le_refl _, hf⟩
theorem rcLt_tup {A : Around} {s : Shared} {l b : Addr} {its its2 : Array Value} {k : Bool} (hl : s.heap.IsTuple l its) (hb : s.heap.IsTuple b its2) (hu : A.units < cLine) (hf : LtFrom A.in1 s its.toList its2.toList k) : RcLt A s (.ref l) (.ref b) k := fun prog w E Q h => by
  obtain ⟨⟨c1, d1, t1, u1⟩, g1, g2, n1, g3⟩ := id hl
  obtain ⟨⟨c2, d2, t2, u2⟩, k1, k2, n2, k3⟩ := id hb
  dsimp only at g2 g3 k2 k3
  subst g2 g3 k2 k3
  exact richCompare_meets_room (op := .Lt) ⟨_, g1, rfl⟩ ⟨_, k1, rfl⟩ F.slot_tuple_lt F.entry_tuple_lt (F.args_tuple_lt_2 _ _) (tup_lt l b its its2 n1 n2 d1 d2 u1 u2 k) ⟨g1, k1, hf, (fun x => nomatch x), h⟩ hu
mutual
theorem rcLt_P : ∀ (da db : PyData) (k : Bool) (A : Around) (s : Shared) (a b : Value) (as bs : List Addr), Reads s.heap a da as → Reads s.heap b db bs → da.canLay0 = true → db.canLay0 = true → ltP da db = some k → A.units + min da.depth db.depth < cLine → RcLt A s a b k
  | .int x, db, k, A, s, a, b, as, bs, ra, rb, ca, cb, h, _ => by
    cases db with
    | int y =>
      rw [ltP] at h
      cases h
      cases ra; cases rb
      intro prog w E Q hq
      exact P.lt_int hq
    | _ => rw [ltP] at h; cases h; all_goals intros; simp_all
  | .str x, db, k, A, s, a, b, as, bs, ra, rb, ca, cb, h, _ => by
    cases db with
    | str y =>
      rw [ltP] at h
      cases h
      cases ra; cases rb
      intro prog w E Q hq
      exact P.lt_str hq
    | _ => rw [ltP] at h; cases h; all_goals intros; simp_all
  | .tuple xs, db, k, A, s, a, b, as, bs, ra, rb, ca, cb, h, hu => by
    cases db with
    | tuple ys =>
      rw [ltP] at h
      cases ra with
      | @tuple l o vs n _ _ h1 h2 h3 h4 =>
        cases rb with
        | @tuple l' o' vs' n' _ _ k1 k2 k3 k4 =>
          exact rcLt_tup ⟨_, h1, h2, _, h3⟩ ⟨_, k1, k2, _, k3⟩ (room_here hu) (rcLt_Ps xs ys k A.in1 s _ _ _ _ h4 k4 ca cb h (room_in hu))
    | _ => rw [ltP] at h; cases h; all_goals intros; simp_all
  | .none, db, k, A, s, a, b, as, bs, ra, rb, ca, cb, h, _ => by cases db <;> simp [ltP] at h
  | .bool _, db, k, A, s, a, b, as, bs, ra, rb, ca, cb, h, _ => by cases db <;> simp [ltP] at h
  | .list _, db, k, A, s, a, b, as, bs, ra, rb, ca, cb, h, _ => by cases db <;> simp [ltP] at h
  | .dict _, db, k, A, s, a, b, as, bs, ra, rb, ca, cb, h, _ => by cases db <;> simp [ltP] at h
theorem rcLt_Ps : ∀ (xs ys : List PyData) (k : Bool) (A : Around) (s : Shared) (vs ws : List Value) (as bs : List Addr), ReadsAll s.heap vs xs as → ReadsAll s.heap ws ys bs → PyData.canLayAll0 xs = true → PyData.canLayAll0 ys = true → ltPs xs ys = some k →
    A.units + min (PyData.depthAll xs) (PyData.depthAll ys) < cLine → LtFrom A s vs ws k
  | [], [], k, A, s, vs, ws, as, bs, ra, rb, ca, cb, h, _ => by
    cases ra; cases rb
    rw [ltPs] at h
    cases h
    exact rfl
  | [], _ :: _, k, A, s, vs, ws, as, bs, ra, rb, ca, cb, h, _ => by
    cases ra; cases rb
    rw [ltPs] at h
    cases h
    exact rfl
  | _ :: _, [], k, A, s, vs, ws, as, bs, ra, rb, ca, cb, h, _ => by
    cases ra; cases rb
    rw [ltPs] at h
    cases h
    exact rfl
  | x :: xs, y :: ys, k, A, s, vs, ws, as, bs, ra, rb, ca, cb, h, hu => by
    have c1 : x.canLay0 = true ∧ PyData.canLayAll0 xs = true := by simpa [PyData.canLayAll0] using ca
    have c2 : y.canLay0 = true ∧ PyData.canLayAll0 ys = true := by simpa [PyData.canLayAll0] using cb
    cases ra with
    | cons r rs =>
      cases rb with
      | cons r' rs' =>
        rw [ltPs] at h
        refine ⟨_, eqAt_reads x y A s _ _ _ _ r r' c1.1 c2.1 (room_head hu), ?_⟩
        by_cases e : PyData.eqv x y = true
        · rw [if_pos e] at h ⊢
          exact rcLt_Ps xs ys k A s _ _ _ _ rs rs' c1.2 c2.2 h (room_tail hu)
        · rw [if_neg e] at h ⊢
          exact rcLt_P x y k A s _ _ _ _ r r' c1.1 c2.1 h (room_head hu)
end
end ML

set_option Elab.async false
set_option linter.all false
set_option maxRecDepth 100000
namespace ML
open PySem L2
/-! ### data as the model's data -/
mutual
def toP : D → PyData
  | .non => .none
  | .bl b => .bool b
  | .int i => .int i
  | .str x => .str x
  | .tup xs => .tuple (toPs xs)
  | .ref _ => .dict []
  | .glob _ => .dict []
  | .fro _ => .dict []
def toPs : List D → List PyData
  | [] => []
  | d :: r => toP d :: toPs r
end
/-- data that == and < are told of -/
def okD (d : D) : Bool := SeqAt.shaped (toP d)
mutual
theorem dp_of {T : Tx} {ι : List Addr} {H : Hp} : ∀ (d : D) (v : V), RV T ι H d v → (toP d).canLay0 = true → Dp T.K H v (toP d)
  | .non, v, r, _ => by rw [RV] at r; subst r; rw [toP]; exact Dp.non
  | .bl b, v, r, _ => by rw [RV] at r; subst r; rw [toP]; exact Dp.bl b
  | .int i, v, r, _ => by rw [RV] at r; subst r; rw [toP]; exact Dp.int i
  | .str x, v, r, _ => by rw [RV] at r; subst r; rw [toP]; exact Dp.str x
  | .tup xs, v, r, c => by
    rw [RV] at r
    obtain ⟨a, ys, e, s, q⟩ := r
    subst e
    rw [toP] at c ⊢
    exact Dp.tup s (dps_of xs ys q (by simpa [PyData.canLay0] using c))
  | .ref _, v, r, c => by rw [toP] at c; simp [PyData.canLay0] at c
  | .glob _, v, r, c => by rw [toP] at c; simp [PyData.canLay0] at c
  | .fro _, v, r, c => by rw [toP] at c; simp [PyData.canLay0] at c
theorem dps_of {T : Tx} {ι : List Addr} {H : Hp} : ∀ (ds : List D) (vs : List V), RVs T ι H ds vs → PyData.canLayAll0 (toPs ds) = true → DpAll T.K H vs (toPs ds)
  | [], vs, r, _ => by rw [RVs] at r; subst r; rw [toPs]; exact DpAll.nil
  | d :: ds, vs, r, c => by
    rw [RVs] at r
    obtain ⟨x, s, e, q1, q2⟩ := r
    subst e
    rw [toPs] at c ⊢
    have c' : (toP d).canLay0 = true ∧ PyData.canLayAll0 (toPs ds) = true := by simpa [PyData.canLayAll0] using c
    exact DpAll.cons (dp_of d x q1 c'.1) (dps_of ds s q2 c'.2)
end
theorem okD_lay {d : D} (h : okD d = true) : (toP d).canLay0 = true := SeqAt.canLay_of_shaped h

/-! ### operators -/
def isB (f : Bool → M D) : M D → M D := fun m => m
def addD : D → D → M D
  | .int i, .int j => pure (.int (i + j))
  | .str x, .str y => if x.length + y.length ≤ sizeLine then pure (.str (x ++ y)) else M.bad
  | .tup x, .tup y => if x.length + y.length ≤ sizeLine then pure (.tup (x ++ y)) else M.bad
  | _, _ => M.bad
def subD : D → D → M D
  | .int i, .int j => pure (.int (i - j))
  | _, _ => M.bad
def mulD : D → D → M D
  | .int i, .int j => if (-(2 ^ 64) < i ∧ i < 2 ^ 64) ∨ (-(2 ^ 64) < j ∧ j < 2 ^ 64) then pure (.int (i * j)) else M.bad
  | _, _ => M.bad
def modD : D → D → M D
  | .int i, .int j => if 0 < j then pure (.int (i % j)) else M.bad
  | _, _ => M.bad
def fdivD : D → D → M D
  | .int i, .int j => if 0 < j ∧ j < 1073741824 then pure (.int (i / j)) else M.bad
  | _, _ => M.bad
def powD : D → D → M D
  | .int i, .int j => if 0 ≤ j ∧ j ≤ 1000000 ∧ i.natAbs < 2 ^ 64 then pure (.int (i ^ j.toNat)) else M.bad
  | _, _ => M.bad
def cmpD (p : Int → Int → Bool) : D → D → M D
  | .int i, .int j => pure (.bl (p i j))
  | _, _ => M.bad
def ltD : D → D → M D := fun a b => if okD a = true ∧ okD b = true then (match ltP (toP a) (toP b) with | some k => pure (.bl k) | none => M.bad) else M.bad
def gtD : D → D → M D := fun a b => ltD b a
def eqD : D → D → M D := fun a b => if okD a = true ∧ okD b = true then pure (.bl (PyData.eqv (toP a) (toP b))) else M.bad
def neD : D → D → M D := fun a b => if okD a = true ∧ okD b = true then pure (.bl (!PyData.eqv (toP a) (toP b))) else M.bad
def isND : D → D → M D
  | d, .non => pure (.bl (decide (d = .non)))
  | _, _ => M.bad
def notND : D → D → M D
  | d, .non => pure (.bl (!decide (d = .non)))
  | _, _ => M.bad
def negD : D → M D
  | .int i => pure (.int (-i))
  | _ => M.bad
section
variable {X : Cx}
/-- the value of an operation that makes nothing -/
theorem fin0 {T : Tx} {ι : List Addr} {H : Hp} {h h1 : Hm} {a d : D} {v : V} {Q : VK} (r : Rl T ι H h) (e : (pure a : M D) h = some (d, h1)) (q : RV T ι H a v) (k : ∀ ι1 H1 v, Ex ι H ι1 H1 → Rl T ι1 H1 h1 → RV T ι1 H1 d v → Q v H1) : Q v H := by
  obtain ⟨e1, e2⟩ := pure_some e
  subst e1 e2
  exact k ι H v (Ex.refl _ _) r q
theorem new_tup {T : Tx} {ι : List Addr} {H : Hp} {h : Hm} {p : Addr} {ds : List D} {xs : List V} (r : Rl T ι H h) (hp : H p = none) (q : RVs T ι H ds xs) : Ex ι H ι (upd H p (.tup xs)) ∧ Rl T ι (upd H p (.tup xs)) h ∧ RV T ι (upd H p (.tup xs)) (.tup ds) (.ref p) := by
  obtain ⟨x, r1⟩ := r.other (u := .tup xs) hp
  exact ⟨x, r1, by rw [RV]; exact ⟨p, xs, rfl, SqT.of upd_same, RVs.up (x.up r) ds xs q⟩⟩
def rAddA (K : PySem.W.Frag) : R2 := fun x y H Q => rI0 (fun i j => .int (i + j)) x y H Q ∨ (∃ i j, x = .str i ∧ y = .str j ∧ i.length + j.length ≤ sizeLine ∧ Q (.str (i ++ j)) H) ∨ rCatA K x y H Q
theorem o_add : OpR X (binaryOp .Add) (rAddA X.K) := op_add.or (op_add_str.or op_catA)
theorem o2_add : Op2 (tx X) (rAddA X.K) addD := by
  intro ι H h x y a b d h1 Q r qa qb e k
  cases a with
  | int i =>
    cases b with
    | int j =>
      rw [RV] at qa qb
      exact .inl ⟨i, j, qa, qb, fin0 r e (by rw [RV]) k⟩
    | _ => cases e
  | str i =>
    cases b with
    | str j =>
      rw [RV] at qa qb
      have e : (if i.length + j.length ≤ sizeLine then (pure (.str (i ++ j)) : M D) else M.bad) h = some (d, h1) := e
      by_cases hl : i.length + j.length ≤ sizeLine
      · rw [if_pos hl] at e
        exact .inr (.inl ⟨i, j, qa, qb, hl, fin0 r e (by rw [RV]) k⟩)
      · rw [if_neg hl] at e; cases e
    | _ => cases e
  | tup i =>
    cases b with
    | tup j =>
      rw [RV] at qa qb
      obtain ⟨p, xs, e1, s1, q1⟩ := qa
      obtain ⟨p', ys, e2, s2, q2⟩ := qb
      have e : (if i.length + j.length ≤ sizeLine then (pure (.tup (i ++ j)) : M D) else M.bad) h = some (d, h1) := e
      by_cases hl : i.length + j.length ≤ sizeLine
      · rw [if_pos hl] at e
        obtain ⟨e3, e4⟩ := pure_some e
        subst e3 e4
        have l1 := q1.length
        have l2 := q2.length
        refine .inr (.inr ⟨p, p', xs, ys, e1, e2, s1, s2, by rw [l1, l2]; exact hl, fun z => ?_, fun _ z => ?_, fun _ _ p2 hp2 => ?_⟩)
        · subst z
          have : i = [] := List.eq_nil_of_length_eq_zero l1.symm
          subst this
          exact k ι H _ (Ex.refl _ _) r (by rw [RV]; exact ⟨p', ys, rfl, s2, q2⟩)
        · subst z
          have : j = [] := List.eq_nil_of_length_eq_zero l2.symm
          subst this
          rw [List.append_nil] at k
          exact k ι H _ (Ex.refl _ _) r (by rw [RV]; exact ⟨p, xs, rfl, s1, q1⟩)
        · obtain ⟨x3, r3, q3⟩ := new_tup r hp2 (RVs.append q1 q2)
          exact k _ _ _ x3 r3 q3
      · rw [if_neg hl] at e; cases e
    | _ => cases e
  | _ => cases b <;> cases e
theorem o2_I {C : Int → Int → Prop} {g : Int → Int → V} {f : D → D → M D} (hf : ∀ a b h d h1, f a b h = some (d, h1) → ∃ i j, a = .int i ∧ b = .int j ∧ C i j ∧ h = h1 ∧ ∀ T ι H, RV T ι H d (g i j)) : Op2 (tx X) (rI C g) f := by
  intro ι H h x y a b d h1 Q r qa qb e k
  obtain ⟨i, j, ea, eb, c, eh, q⟩ := hf a b h d h1 e
  subst ea eb eh
  rw [RV] at qa qb
  exact ⟨i, j, qa, qb, c, k ι H _ (Ex.refl _ _) r (q _ _ _)⟩
theorem o2_I0 {g : Int → Int → V} {f : D → D → M D} (hf : ∀ a b h d h1, f a b h = some (d, h1) → ∃ i j, a = .int i ∧ b = .int j ∧ h = h1 ∧ ∀ T ι H, RV T ι H d (g i j)) : Op2 (tx X) (rI0 g) f := by
  intro ι H h x y a b d h1 Q r qa qb e k
  obtain ⟨i, j, ea, eb, eh, q⟩ := hf a b h d h1 e
  subst ea eb eh
  rw [RV] at qa qb
  exact ⟨i, j, qa, qb, k ι H _ (Ex.refl _ _) r (q _ _ _)⟩
theorem o2_sub : Op2 (tx X) (rI0 fun i j => .int (i - j)) subD := o2_I0 fun a b h d h1 e => by
  cases a <;> cases b <;> first | (cases e; done) | (obtain ⟨e1, e2⟩ := pure_some e; subst e1 e2; exact ⟨_, _, rfl, rfl, rfl, fun _ _ _ => by rw [RV]⟩)
theorem ifp {c : Prop} [Decidable c] {a d : D} {h h1 : Hm} (e : (if c then (pure a : M D) else M.bad) h = some (d, h1)) : c ∧ a = d ∧ h = h1 := by
  by_cases hc : c
  · rw [if_pos hc] at e
    exact ⟨hc, (pure_some e).1, (pure_some e).2⟩
  · rw [if_neg hc] at e; cases e
theorem o2_mul : Op2 (tx X) (rI CMul fun i j => .int (i * j)) mulD := o2_I fun a b h d h1 e => by
  cases a with
  | int i =>
    cases b with
    | int j =>
      obtain ⟨c, e1, e2⟩ := ifp (c := (-(2 ^ 64) < i ∧ i < 2 ^ 64) ∨ (-(2 ^ 64) < j ∧ j < 2 ^ 64)) (a := .int (i * j)) e
      subst e1 e2
      exact ⟨i, j, rfl, rfl, c, rfl, fun _ _ _ => by rw [RV]⟩
    | _ => cases e
  | _ => cases b <;> cases e
theorem o2_mod : Op2 (tx X) (rI (fun _ j => 0 < j) fun i j => .int (i % j)) modD := o2_I fun a b h d h1 e => by
  cases a with
  | int i =>
    cases b with
    | int j =>
      obtain ⟨c, e1, e2⟩ := ifp (c := 0 < j) (a := .int (i % j)) e
      subst e1 e2
      exact ⟨i, j, rfl, rfl, c, rfl, fun _ _ _ => by rw [RV]⟩
    | _ => cases e
  | _ => cases b <;> cases e
theorem o2_fdiv : Op2 (tx X) (rI CDiv fun i j => .int (i / j)) fdivD := o2_I fun a b h d h1 e => by
  cases a with
  | int i =>
    cases b with
    | int j =>
      obtain ⟨c, e1, e2⟩ := ifp (c := 0 < j ∧ j < 1073741824) (a := .int (i / j)) e
      subst e1 e2
      exact ⟨i, j, rfl, rfl, c, rfl, fun _ _ _ => by rw [RV]⟩
    | _ => cases e
  | _ => cases b <;> cases e
theorem o2_pow : Op2 (tx X) (rI CPow fun i j => .int (i ^ j.toNat)) powD := o2_I fun a b h d h1 e => by
  cases a with
  | int i =>
    cases b with
    | int j =>
      obtain ⟨c, e1, e2⟩ := ifp (c := 0 ≤ j ∧ j ≤ 1000000 ∧ i.natAbs < 2 ^ 64) (a := .int (i ^ j.toNat)) e
      subst e1 e2
      exact ⟨i, j, rfl, rfl, c, rfl, fun _ _ _ => by rw [RV]⟩
    | _ => cases e
  | _ => cases b <;> cases e
theorem o2_cmp {p : Int → Int → Bool} : Op2 (tx X) (rI0 fun i j => .bl (p i j)) (cmpD p) := o2_I0 fun a b h d h1 e => by
  cases a <;> cases b <;> first | (cases e; done) | (obtain ⟨e1, e2⟩ := pure_some e; subst e1 e2; exact ⟨_, _, rfl, rfl, rfl, fun _ _ _ => by rw [RV]⟩)
theorem o2_eq : Op2 (tx X) (rEqD X.K) eqD := by
  intro ι H h x y a b d h1 Q r qa qb e k
  have e : (if okD a = true ∧ okD b = true then (pure (.bl (PyData.eqv (toP a) (toP b))) : M D) else M.bad) h = some (d, h1) := e
  by_cases c : okD a = true ∧ okD b = true
  · rw [if_pos c] at e
    exact ⟨_, _, dp_of a x qa (okD_lay c.1), dp_of b y qb (okD_lay c.2), c.1, c.2, fin0 r e (by rw [RV]) k⟩
  · rw [if_neg c] at e; cases e
theorem o2_ne : Op2 (tx X) (rNeD X.K) neD := by
  intro ι H h x y a b d h1 Q r qa qb e k
  have e : (if okD a = true ∧ okD b = true then (pure (.bl (!PyData.eqv (toP a) (toP b))) : M D) else M.bad) h = some (d, h1) := e
  by_cases c : okD a = true ∧ okD b = true
  · rw [if_pos c] at e
    exact ⟨_, _, dp_of a x qa (okD_lay c.1), dp_of b y qb (okD_lay c.2), c.1, c.2, fin0 r e (by rw [RV]) k⟩
  · rw [if_neg c] at e; cases e
def rLtP (K : PySem.W.Frag) : R2 := fun x y H Q => ∃ d e k, Dp K H x d ∧ Dp K H y e ∧ SeqAt.shaped d = true ∧ SeqAt.shaped e = true ∧ ltP d e = some k ∧ Q (.bl k) H
theorem o_lt (hu : X.A.units + 64 < cLine) : OpR X (compareOp .Lt) (rLtP X.K) := by
  intro pins s σ H x y v u Q I rx ry h
  obtain ⟨d, e, k, hd, he, sd, se, hk, q⟩ := h
  obtain ⟨as, r1⟩ := Dp.reads I d x v hd rx
  obtain ⟨bs, r2⟩ := Dp.reads I e y u he ry
  exact rcLt_P d e k X.A s v u as bs r1 r2 (SeqAt.canLay_of_shaped sd) (SeqAt.canLay_of_shaped se) hk (SeqAt.room_of_shaped sd hu) _ _ _ _ ⟨.bl k, H, I, rfl, q⟩
theorem o2_lt : Op2 (tx X) (rLtP X.K) ltD := by
  intro ι H h x y a b d h1 Q r qa qb e k
  unfold ltD at e
  by_cases c : okD a = true ∧ okD b = true
  · rw [if_pos c] at e
    cases q : ltP (toP a) (toP b) with
    | none => rw [q] at e; cases e
    | some kk =>
      rw [q] at e
      exact ⟨_, _, kk, dp_of a x qa (okD_lay c.1), dp_of b y qb (okD_lay c.2), c.1, c.2, q, fin0 r e (by rw [RV]) k⟩
  · rw [if_neg c] at e; cases e
theorem rv_non {T : Tx} {ι : List Addr} {H : Hp} {d : D} {v : V} (r : RV T ι H d v) (hg : ∀ x, d ≠ .glob x) : decide (v = .non) = decide (d = .non) := by
  cases d with
  | glob x => exact absurd rfl (hg x)
  | tup xs => rw [RV] at r; obtain ⟨a, ys, e, _⟩ := r; subst e; rfl
  | fro xs => rw [RV] at r; obtain ⟨a, ys, e, _⟩ := r; subst e; rfl
  | ref i => rw [RV] at r; obtain ⟨a, _, e⟩ := r; subst e; rfl
  | _ => rw [RV] at r; subst r; rfl
def isND' : D → D → M D
  | .glob _, _ => M.bad
  | d, .non => pure (.bl (decide (d = .non)))
  | _, _ => M.bad
def notND' : D → D → M D
  | .glob _, _ => M.bad
  | d, .non => pure (.bl (!decide (d = .non)))
  | _, _ => M.bad
theorem o2_isN : Op2 (tx X) (fun x y H Q => y = .non ∧ Q (.bl (decide (x = .non))) H) isND' := by
  intro ι H h x y a b d h1 Q r qa qb e k
  unfold isND' at e
  split at e
  · cases e
  · rename_i hg
    rw [RV] at qb
    refine ⟨qb, ?_⟩
    rw [rv_non qa (fun x z => hg x z)]
    exact fin0 r e (by rw [RV]) k
  · cases e
theorem o2_notN : Op2 (tx X) (fun x y H Q => y = .non ∧ Q (.bl (!decide (x = .non))) H) notND' := by
  intro ι H h x y a b d h1 Q r qa qb e k
  unfold notND' at e
  split at e
  · cases e
  · rename_i hg
    rw [RV] at qb
    refine ⟨qb, ?_⟩
    rw [rv_non qa (fun x z => hg x z)]
    exact fin0 r e (by rw [RV]) k
  · cases e
theorem o1_neg : Op1 (tx X) (rU fun i => .int (-i)) negD := by
  intro ι H h x a d h1 Q r qa e k
  cases a with
  | int i =>
    rw [RV] at qa
    exact ⟨i, qa, fin0 r e (by rw [RV]) k⟩
  | _ => cases e
end
end ML

set_option Elab.async false
set_option linter.all false
set_option maxRecDepth 100000
namespace ML
open PySem L2
/-! ### calls of built-ins by values -/
def CallM (T : Tx) (r : List V → Hp → VK → Prop) (g : List D → M D) : Prop := ∀ (ι : List Addr) (H : Hp) (h : Hm) (xs : List V) (ds : List D) (d : D) (h1 : Hm) (Q : VK), Rl T ι H h → RVs T ι H ds xs → g ds h = some (d, h1) →
  (∀ ι1 H1 v, Ex ι H ι1 H1 → Rl T ι1 H1 h1 → RV T ι1 H1 d v → Q v H1) → r xs H Q
/-- .. of a new list -/
def CallL (T : Tx) (r : List V → Hp → VK → Prop) (g : List D → M D) : Prop := ∀ (ι : List Addr) (H : Hp) (h : Hm) (a : Addr) (xs : List V) (ds : List D) (d : D) (h1 : Hm) (Q : VK), Rl T ι H h → a ∉ ι → H a = some (.lst xs) → RVs T ι H ds xs → g ds h = some (d, h1) →
  (∀ ι1 H1 v, Ex ι H ι1 H1 → Rl T ι1 H1 h1 → RV T ι1 H1 d v → Q v H1) → r [.ref a] H Q
def bcM (g : List D → M D) (ms : Sm → M (List D)) : Sm → M D := fun σ => ms σ >>= g
section
variable {X : Cx} {x : Str} {p pos : Pos} {e : Expr} {es : List Expr} {ms : Sm → M (List D)} {fid T : String} {r : List V → Hp → VK → Prop} {g : List D → M D}
theorem bc_of {T : Tx} (hg : CallM T r g) {σ : St} {H : Hp} {Q : VK} (q : lf T (bcM g ms) σ H Q) : tCB r (lfA T ms) σ H Q := by
  obtain ⟨ι, σm, h, d, h1, rl, rs, e, k⟩ := q
  refine lfA_then rl rs e (P := fun ι2 H2 => ∀ v, Rl T ι2 H2 h1 → RV T ι2 H2 d v → Q v H2) (fun ι2 H2 y v => k ι2 H2 v y) fun ι1 H1 xs ds h' x1 r1 rs1 q1 e1 k1 => ?_
  exact hg ι1 H1 h' xs ds d h1 Q r1 q1 e1 fun ι3 H3 v x3 => k1 ι3 H3 x3 v
theorem bcl_of {T : Tx} (hg : CallL T r g) {σ : St} {H : Hp} {Q : VK} (q : lf T (bcM g ms) σ H Q) : tCB r (tCons (lfL T ms) tNil) σ H Q := by
  obtain ⟨ι, σm, h, d, h1, rl, rs, e, k⟩ := q
  show lfL T ms σ H fun v H1 => r [v] H1 Q
  refine lfL_then rl rs e (P := fun ι2 H2 => ∀ v, Rl T ι2 H2 h1 → RV T ι2 H2 d v → Q v H2) (fun ι2 H2 y v => k ι2 H2 v y) fun ι1 H1 a xs ds h' x1 r1 rs1 ha na ea q1 e1 k1 => ?_
  exact hg ι1 H1 h' a xs ds d h1 Q r1 na ea q1 e1 fun ι3 H3 v x3 => k1 ι3 H3 x3 v
theorem m_callB (hc : CallR X (.builtin fid) r) (hg' : CallM (tx X) r g) (hg : Gl X x) (hm : X.mg x = none) (hv : bootBuiltins x = some (.builtin fid)) (ha : PA X (e :: es) (lfA (tx X) ms)) (hn : x ≠ "__name__" := by decide) (hdb : (x == ("__debug__" : Str)) = false := by decide)
    (he : starEach (e :: es) X.env = (false, eval e X.env) :: starEach es X.env := by rfl) (hpl : (backTo pos (starEach es X.env)).any (·.1) = false := by rfl) : PE X (.Call (.Name x p) (e :: es) [] pos) (lf (tx X) (bcM g ms)) :=
  (pe_callB hc hg hm hv ha hn hdb he hpl).imp fun _ _ _ q => bc_of hg' q
theorem m_callTy (hc : CallR X (.type T) r) (hg' : CallM (tx X) r g) (hg : Gl X x) (hm : X.mg x = none) (hv : bootBuiltins x = some (.type T)) (ha : PA X (e :: es) (lfA (tx X) ms)) (hn : x ≠ "__name__" := by decide) (hdb : (x == ("__debug__" : Str)) = false := by decide)
    (he : starEach (e :: es) X.env = (false, eval e X.env) :: starEach es X.env := by rfl) (hpl : (backTo pos (starEach es X.env)).any (·.1) = false := by rfl) : PE X (.Call (.Name x p) (e :: es) [] pos) (lf (tx X) (bcM g ms)) :=
  (pe_callTy hc hg hm hv ha hn hdb he hpl).imp fun _ _ _ q => bc_of hg' q
theorem m_callBL (hc : CallR X (.builtin fid) r) (hg' : CallL (tx X) r g) (hg : Gl X x) (hm : X.mg x = none) (hv : bootBuiltins x = some (.builtin fid)) (ha : PE X e (lfL (tx X) ms)) (hn : x ≠ "__name__" := by decide) (hdb : (x == ("__debug__" : Str)) = false := by decide)
    (he : starEach [e] X.env = (false, eval e X.env) :: starEach [] X.env := by rfl) (hpl : (backTo pos (starEach [] X.env)).any (·.1) = false := by rfl) : PE X (.Call (.Name x p) [e] [] pos) (lf (tx X) (bcM g ms)) :=
  (pe_callB hc hg hm hv (pa_cons ha pa_nil he) hn hdb he hpl).imp fun _ _ _ q => bcl_of hg' q
theorem m_callTyL (hc : CallR X (.type T) r) (hg' : CallL (tx X) r g) (hg : Gl X x) (hm : X.mg x = none) (hv : bootBuiltins x = some (.type T)) (ha : PE X e (lfL (tx X) ms)) (hn : x ≠ "__name__" := by decide) (hdb : (x == ("__debug__" : Str)) = false := by decide)
    (he : starEach [e] X.env = (false, eval e X.env) :: starEach [] X.env := by rfl) (hpl : (backTo pos (starEach [] X.env)).any (·.1) = false := by rfl) : PE X (.Call (.Name x p) [e] [] pos) (lf (tx X) (bcM g ms)) :=
  (pe_callTy hc hg hm hv (pa_cons ha pa_nil he) hn hdb he hpl).imp fun _ _ _ q => bcl_of hg' q

/-! ### what a value is -/
/-- an item of something at an address -/
theorem RVs1 {T : Tx} {ι : List Addr} {H : Hp} {d : D} {xs : List V} (r : RVs T ι H [d] xs) : ∃ x, xs = [x] ∧ RV T ι H d x := by
  rw [RVs] at r
  obtain ⟨x, s, e, q, q2⟩ := r
  rw [RVs] at q2
  exact ⟨x, by rw [e, q2], q⟩
theorem RVs2 {T : Tx} {ι : List Addr} {H : Hp} {d d' : D} {xs : List V} (r : RVs T ι H [d, d'] xs) : ∃ x y, xs = [x, y] ∧ RV T ι H d x ∧ RV T ι H d' y := by
  rw [RVs] at r
  obtain ⟨x, s, e, q, q2⟩ := r
  obtain ⟨y, e2, q3⟩ := RVs1 q2
  exact ⟨x, y, by rw [e, e2], q, q3⟩
def tyD (h : Hm) : D → Option String
  | .non => some "NoneType"
  | .bl _ => some "bool"
  | .int _ => some "int"
  | .str _ => some "str"
  | .tup _ => some "tuple"
  | .fro _ => some "list"
  | .ref k => match h[k]? with
    | some (.lst _) => some "list"
    | some (.dic _) => some "dict"
    | _ => none
  | .glob _ => none
theorem tyX_of {T : Tx} {ι : List Addr} {H : Hp} {h : Hm} {d : D} {v : V} {n : String} (r : Rl T ι H h) (q : RV T ι H d v) (e : tyD h d = some n) : TyX T.K H v (.type n) := by
  cases d with
  | non => rw [RV] at q; subst q; cases e; exact .base .non
  | bl b => rw [RV] at q; subst q; cases e; exact .base (.bl b)
  | int i => rw [RV] at q; subst q; cases e; exact .base (.int i)
  | str s => rw [RV] at q; subst q; cases e; exact .base (.str s)
  | tup ds =>
    rw [RV] at q
    obtain ⟨a, xs, e1, s, _⟩ := q
    subst e1; cases e
    rcases s with (s | ⟨o, s⟩) | ⟨o, its, n, hk, hc, _⟩
    · exact .base (.tup s)
    · exact .fTuple s
    · exact .kTuple hk hc
  | fro ds =>
    rw [RV] at q
    obtain ⟨a, xs, e1, s, _⟩ := q
    subst e1; cases e
    rcases s with ⟨o, s⟩ | ⟨o, its, n, hk, hc, _⟩
    · exact .base (.frz s)
    · exact .kList hk hc
  | ref kk =>
    rw [RV] at q
    obtain ⟨a, ha, e1⟩ := q
    subst e1
    have e : (match h[kk]? with | some (.lst _) => some "list" | some (.dic _) => some "dict" | _ => none) = some n := e
    cases q2 : h[kk]? with
    | none => rw [q2] at e; cases e
    | some o =>
      rw [q2] at e
      cases o with
      | lst ds =>
        cases e
        obtain ⟨xs, hx, _⟩ := r.obj kk a _ ha q2
        exact .base (.lst hx)
      | dic ds =>
        cases e
        obtain ⟨xs, hx, _⟩ := r.obj kk a _ ha q2
        exact .base (.dK hx)
      | ins c fs => cases e
      | ldic kvs => cases e
      | tdc kvs => cases e
      | ltdc kvs => cases e
  | glob x => cases e
def isiD (n : String) (d : D) : M D := fun h => match tyD h d with
  | none => none
  | some t => match kitB t n with
    | none => none
    | some b => some (.bl b, h)
def isiM (n : String) (m : Sm → M D) : Sm → M D := fun σ => m σ >>= isiD n
/-- isinstance(e, n), n a built-in type -/
theorem m_isi {n : String} {y : Str} {p2 : Pos} {m : Sm → M D} (hg : Gl X "isinstance") (hm : X.mg "isinstance" = none) (he : PE X e (lf (tx X) m)) (hg2 : Gl X y) (hm2 : X.mg y = none) (hv2 : bootBuiltins y = some (.type n)) (hn2 : y ≠ "__name__" := by decide) (hdb2 : (y == ("__debug__" : Str)) = false := by decide)
    (h1 : starEach [e, .Name y p2] X.env = (false, eval e X.env) :: starEach [.Name y p2] X.env := by rfl) (h2 : (backTo pos (starEach [.Name y p2] X.env)).any (·.1) = false := by rfl) :
    PE X (.Call (.Name "isinstance" p) [e, .Name y p2] [] pos) (lf (tx X) (isiM n m)) :=
  (pe_callB call_isi hg hm (by decide +kernel) (pa_cons he (pa_cons (pe_bltn (v := .ty n) hg2 hm2 hv2 rfl hn2 hdb2) pa_nil) h1) (by decide) (by decide) h1 h2).imp fun σ H Q q => by
  obtain ⟨ι, σm, h, d, h1, r, rs, e, k⟩ := q
  refine lf_then r rs e (P := fun ι2 H2 => ∀ v, Rl (tx X) ι2 H2 h1 → RV (tx X) ι2 H2 d v → Q v H2) (fun ι2 H2 y v => k ι2 H2 v y) fun ι1 H1 x da h' x1 r1 rs1 q1 e1 k1 => ?_
  unfold isiD at e1
  cases q2 : tyD h' da with
  | none => rw [q2] at e1; cases e1
  | some t =>
    rw [q2] at e1
    cases q3 : kitB t n with
    | none => simp only [q3] at e1; cases e1
    | some b =>
      simp only [q3] at e1
      injection e1 with e1
      injection e1 with e2 e3
      subst e2 e3
      exact ⟨x, .ty n, .type t, .type n, b, rfl, .ty n, tyX_of r1 q1 q2, kit_ty q3, k1 _ _ (Ex.refl _ _) _ r1 (by rw [RV])⟩

/-! ### len, abs, int, min, max, any, all, tuple -/
def lenD : List D → M D := fun ds h => match ds with
  | [.str y] => if y.length ≤ sizeLine then some (.int y.length, h) else none
  | [.tup xs] => some (.int xs.length, h)
  | [.fro xs] => some (.int xs.length, h)
  | [.ref k] => match h[k]? with
    | some (.lst xs) => some (.int xs.length, h)
    | some (.dic kvs) => some (.int kvs.length, h)
    | _ => none
  | _ => none
def rLenA (X : Cx) : List V → Hp → VK → Prop := fun xs H Q => (∃ x n, xs = [x] ∧ LenV X.K x H n ∧ Q (.int n) H) ∨ (∃ a kvs, xs = [V.ref a] ∧ H a = some (.dK kvs) ∧ Q (.int kvs.length) H)
theorem c_len : CallR X (.builtin "len") (rLenA X) := call_len.or call_lenD
theorem KRs.length {T : Tx} {ι : List Addr} {H : Hp} : ∀ {kvs : List (D × D)} {ks : List (Key × V)}, KRs T ι H kvs ks → ks.length = kvs.length
  | [], ks, r => by have e : ks = [] := r; rw [e]; rfl
  | p :: r, ks, q => by
    obtain ⟨k, v, s, e, _, _, q⟩ := q
    rw [e, List.length_cons, List.length_cons, KRs.length q]
theorem some_pair {α : Type} {a b : α} {h h1 : Hm} (e : some (a, h) = some (b, h1)) : a = b ∧ h = h1 := by
  injection e with e
  injection e with e1 e2
  exact ⟨e1, e2⟩
theorem cm_len : CallM (tx X) (rLenA X) lenD := by
  intro ι H h xs ds d h1 Q r q e k
  unfold lenD at e
  split at e
  · rename_i y
    obtain ⟨x, ex, q1⟩ := RVs1 q
    rw [RV] at q1
    split at e
    · rename_i hl
      obtain ⟨e1, e2⟩ := some_pair e
      subst e1 e2
      subst ex q1
      exact .inl ⟨_, y.length, rfl, ⟨hl, rfl⟩, k _ _ _ (Ex.refl _ _) r (by rw [RV])⟩
    · cases e
  · rename_i ys
    obtain ⟨x, ex, q1⟩ := RVs1 q
    rw [RV] at q1
    obtain ⟨a, zs, ea, s, q2⟩ := q1
    obtain ⟨e1, e2⟩ := some_pair e
    subst e1 e2
    subst ex ea
    exact .inl ⟨_, ys.length, rfl, .inr ⟨zs, s, q2.length.symm⟩, k _ _ _ (Ex.refl _ _) r (by rw [RV])⟩
  · rename_i ys
    obtain ⟨x, ex, q1⟩ := RVs1 q
    rw [RV] at q1
    obtain ⟨a, zs, ea, s, q2⟩ := q1
    obtain ⟨e1, e2⟩ := some_pair e
    subst e1 e2
    subst ex ea
    exact .inl ⟨_, ys.length, rfl, .inl ⟨zs, s.sq, q2.length.symm⟩, k _ _ _ (Ex.refl _ _) r (by rw [RV])⟩
  · rename_i kk
    obtain ⟨x, ex, q1⟩ := RVs1 q
    rw [RV] at q1
    obtain ⟨a, ha, ea⟩ := q1
    subst ex ea
    cases q2 : h[kk]? with
    | none => rw [q2] at e; cases e
    | some o =>
      rw [q2] at e
      cases o with
      | lst ys =>
        obtain ⟨zs, hz, qs⟩ := r.obj kk a _ ha q2
        obtain ⟨e1, e2⟩ := some_pair e
        subst e1 e2
        exact .inl ⟨_, ys.length, rfl, .inl ⟨zs, SqL.of hz, qs.length.symm⟩, k _ _ _ (Ex.refl _ _) r (by rw [RV])⟩
      | dic kvs =>
        obtain ⟨zs, hz, qs⟩ := r.obj kk a _ ha q2
        obtain ⟨e1, e2⟩ := some_pair e
        subst e1 e2
        exact .inr ⟨a, zs, rfl, hz, by rw [qs.length]; exact k _ _ _ (Ex.refl _ _) r (by rw [RV])⟩
      | ins c fs => cases e
      | ldic kvs => cases e
      | tdc kvs => cases e
      | ltdc kvs => cases e
  · cases e
/-- len of a new list -/
def lenL : List D → M D := fun ds => pure (.int ds.length)
theorem cl_len : CallL (tx X) (rLenA X) lenL := by
  intro ι H h a xs ds d h1 Q r na ea q e k
  obtain ⟨e1, e2⟩ := pure_some e
  subst e1 e2
  exact .inl ⟨_, ds.length, rfl, .inl ⟨xs, SqL.of ea, q.length.symm⟩, k _ _ _ (Ex.refl _ _) r (by rw [RV])⟩
def absD : List D → M D
  | [.int i] => pure (.int (if i < 0 then -i else i))
  | _ => M.bad
theorem cm_abs : CallM (tx X) (fun xs H Q => ∃ i, xs = [.int i] ∧ Q (.int (if i < 0 then -i else i)) H) absD := by
  intro ι H h xs ds d h1 Q r q e k
  unfold absD at e
  split at e
  · rename_i i
    obtain ⟨x, ex, q1⟩ := RVs1 q
    rw [RV] at q1
    subst ex q1
    exact ⟨i, rfl, fin0 r e (by rw [RV]) k⟩
  · cases e
def intD : List D → M D
  | [.int i] => pure (.int i)
  | [.bl b] => pure (.int (if b then 1 else 0))
  | _ => M.bad
theorem cm_int : CallM (tx X) (fun xs H Q => (∃ i, xs = [.int i] ∧ Q (.int i) H) ∨ ∃ k, xs = [.bl k] ∧ Q (.int (if k then 1 else 0)) H) intD := by
  intro ι H h xs ds d h1 Q r q e k
  unfold intD at e
  split at e
  · rename_i i
    obtain ⟨x, ex, q1⟩ := RVs1 q
    rw [RV] at q1
    subst ex q1
    exact .inl ⟨i, rfl, fin0 r e (by rw [RV]) k⟩
  · rename_i b
    obtain ⟨x, ex, q1⟩ := RVs1 q
    rw [RV] at q1
    subst ex q1
    exact .inr ⟨b, rfl, fin0 r e (by rw [RV]) k⟩
  · cases e
def min2D : List D → M D
  | [.int i, .int j] => pure (.int (if j < i then j else i))
  | _ => M.bad
def max2D : List D → M D
  | [.int i, .int j] => pure (.int (if j > i then j else i))
  | _ => M.bad
theorem cm_min2 : CallM (tx X) (fun xs H Q => ∃ i j, xs = [.int i, .int j] ∧ Q (.int (if j < i then j else i)) H) min2D := by
  intro ι H h xs ds d h1 Q r q e k
  unfold min2D at e
  split at e
  · rename_i i j
    obtain ⟨x, y, ex, q1, q2⟩ := RVs2 q
    rw [RV] at q1 q2
    subst ex q1 q2
    exact ⟨i, j, rfl, fin0 r e (by rw [RV]) k⟩
  · cases e
theorem cm_max2 : CallM (tx X) (fun xs H Q => ∃ i j, xs = [.int i, .int j] ∧ Q (.int (if j > i then j else i)) H) max2D := by
  intro ι H h xs ds d h1 Q r q e k
  unfold max2D at e
  split at e
  · rename_i i j
    obtain ⟨x, y, ex, q1, q2⟩ := RVs2 q
    rw [RV] at q1 q2
    subst ex q1 q2
    exact ⟨i, j, rfl, fin0 r e (by rw [RV]) k⟩
  · cases e
/-- the truth values of a list -/
def blsD : List D → Option (List Bool)
  | [] => some []
  | .bl b :: r => (blsD r).map (b :: ·)
  | _ => none
theorem bls_of {T : Tx} {ι : List Addr} {H : Hp} : ∀ {ds : List D} {bs : List Bool} {xs : List V}, blsD ds = some bs → RVs T ι H ds xs → xs = bs.map V.bl
  | [], bs, xs, e, q => by cases e; rw [RVs] at q; exact q
  | d :: ds, bs, xs, e, q => by
    cases d with
    | bl b =>
      have e : (blsD ds).map (b :: ·) = some bs := e
      obtain ⟨cs, e1, e2⟩ := Option.map_eq_some_iff.mp e
      subst e2
      rw [RVs] at q
      obtain ⟨x, s, ex, q1, q2⟩ := q
      rw [RV] at q1
      rw [ex, q1, bls_of e1 q2]
      rfl
    | _ => cases e
def anyL : List D → M D := fun ds => match blsD ds with
  | some bs => pure (.bl (bs.any id))
  | none => M.bad
def allL : List D → M D := fun ds => match blsD ds with
  | some bs => pure (.bl (bs.all id))
  | none => M.bad
theorem cl_any : CallL (tx X) (rAny X.K) anyL := by
  intro ι H h a xs ds d h1 Q r na ea q e k
  unfold anyL at e
  cases q1 : blsD ds with
  | none => rw [q1] at e; cases e
  | some bs =>
    rw [q1] at e
    exact ⟨a, bs, rfl, SqL.of (by rw [ea, bls_of q1 q]), fin0 r e (by rw [RV]) k⟩
theorem cl_all : CallL (tx X) (rAll X.K) allL := by
  intro ι H h a xs ds d h1 Q r na ea q e k
  unfold allL at e
  cases q1 : blsD ds with
  | none => rw [q1] at e; cases e
  | some bs =>
    rw [q1] at e
    exact ⟨a, bs, rfl, SqL.of (by rw [ea, bls_of q1 q]), fin0 r e (by rw [RV]) k⟩
def tupL : List D → M D := fun ds => pure (.tup ds)
abbrev rTupOf (K : PySem.W.Frag) : List V → Hp → VK → Prop := fun xs H Q => ∃ p ys, xs = [.ref p] ∧ ((SqL K H p ys ∧ ∀ l, H l = none → Q (.ref l) (upd H l (.tup ys))) ∨ (SqT K H p ys ∧ Q (.ref p) H))
theorem cl_tup : CallL (tx X) (rTupOf X.K) tupL := by
  intro ι H h a xs ds d h1 Q r na ea q e k
  obtain ⟨e1, e2⟩ := pure_some e
  subst e1 e2
  refine ⟨a, xs, rfl, .inl ⟨SqL.of ea, fun l hl => ?_⟩⟩
  obtain ⟨x3, r3, q3⟩ := new_tup r hl q
  exact k _ _ _ x3 r3 q3
/-- tuple(d) of a value -/
def tupD : List D → M D := fun ds h => match ds with
  | [.tup xs] => some (.tup xs, h)
  | [.fro xs] => some (.tup xs, h)
  | [.ref k] => match h[k]? with
    | some (.lst xs) => some (.tup xs, h)
    | _ => none
  | _ => none
theorem cm_tup : CallM (tx X) (rTupOf X.K) tupD := by
  intro ι H h xs ds d h1 Q r q e k
  unfold tupD at e
  split at e
  · rename_i ys
    obtain ⟨x, ex, q1⟩ := RVs1 q
    have q0 := q1
    rw [RV] at q1
    obtain ⟨a, zs, ea, s, q2⟩ := q1
    obtain ⟨e1, e2⟩ := some_pair e
    subst e1 e2
    subst ex ea
    exact ⟨a, zs, rfl, .inr ⟨s, k _ _ _ (Ex.refl _ _) r q0⟩⟩
  · rename_i ys
    obtain ⟨x, ex, q1⟩ := RVs1 q
    rw [RV] at q1
    obtain ⟨a, zs, ea, s, q2⟩ := q1
    obtain ⟨e1, e2⟩ := some_pair e
    subst e1 e2
    subst ex ea
    refine ⟨a, zs, rfl, .inl ⟨s.sq, fun l hl => ?_⟩⟩
    obtain ⟨x3, r3, q3⟩ := new_tup r hl q2
    exact k _ _ _ x3 r3 q3
  · rename_i kk
    obtain ⟨x, ex, q1⟩ := RVs1 q
    rw [RV] at q1
    obtain ⟨a, ha, ea⟩ := q1
    subst ex ea
    cases q2 : h[kk]? with
    | none => rw [q2] at e; cases e
    | some o =>
      rw [q2] at e
      cases o with
      | lst ys =>
        obtain ⟨zs, hz, qs⟩ := r.obj kk a _ ha q2
        obtain ⟨e1, e2⟩ := some_pair e
        subst e1 e2
        refine ⟨a, zs, rfl, .inl ⟨SqL.of hz, fun l hl => ?_⟩⟩
        obtain ⟨x3, r3, q3⟩ := new_tup r hl qs
        exact k _ _ _ x3 r3 q3
      | _ => cases e
  · cases e

/-! ### subscripts -/
theorem at_rv {T : Tx} {ι : List Addr} {H : Hp} {ds : List D} {xs : List V} {i : Int} {d : D} (q : RVs T ι H ds xs) (e : atI ds i = some d) : ∃ x, atI xs i = some x ∧ RV T ι H d x := by
  unfold atI at e ⊢
  rw [q.length]
  obtain ⟨j, e1, e2⟩ := Option.bind_eq_some_iff.mp e
  obtain ⟨x, ex, qx⟩ := q.get e2
  exact ⟨x, by rw [e1]; exact ex, qx⟩
def getK (kvs : List (D × D)) (k : D) : Option D := (kvs.find? fun p => decide (p.1 = k)).map (·.2)
theorem kD_inj {a b : D} {k : Key} (ha : kD a = some k) (hb : kD b = some k) : a = b := by
  cases a <;> cases b <;> simp_all [kD]
  all_goals (cases ha; cases hb; try rfl)
theorem kD_V {T : Tx} {ι : List Addr} {H : Hp} {a : D} {k : Key} {v : V} (ha : kD a = some k) (q : RV T ι H a v) : v = kV k := by
  cases a with
  | int i => cases ha; rw [RV] at q; exact q
  | str x => cases ha; rw [RV] at q; exact q
  | _ => cases ha
theorem getK_rv {T : Tx} {ι : List Addr} {H : Hp} {key : D} {k : Key} (hk : kD key = some k) : ∀ {kvs : List (D × D)} {ks : List (Key × V)}, KRs T ι H kvs ks → (∀ d, getK kvs key = some d → ∃ v, valV ks k = some v ∧ RV T ι H d v) ∧ (getK kvs key = none → valV ks k = none)
  | [], ks, r => by
    have e : ks = [] := r
    subst e
    exact ⟨fun d h => by simp [getK] at h, fun _ => rfl⟩
  | p :: kvs, ks, r => by
    obtain ⟨k', v, s, e, ek, qv, q⟩ := r
    subst e
    have ih := getK_rv hk q
    by_cases hp : p.1 = key
    · have hkk : k' = k := by rw [hp, hk] at ek; exact (Option.some.inj ek).symm
      refine ⟨fun d h => ?_, fun h => ?_⟩
      · have : getK (p :: kvs) key = some p.2 := by simp [getK, List.find?_cons, hp]
        rw [this] at h
        cases h
        exact ⟨v, valV_pos hkk, qv⟩
      · simp [getK, List.find?_cons, hp] at h
    · have hkk : ¬ k' = k := fun z => hp (kD_inj (by rw [ek, z]) hk)
      have e1 : getK (p :: kvs) key = getK kvs key := by simp [getK, List.find?_cons, hp]
      rw [e1, valV_neg hkk]
      exact ih
def ixD : D → D → M D := fun a b h => match a, b with
  | .tup ds, .int i => (atI ds i).map fun d => (d, h)
  | .fro ds, .int i => (atI ds i).map fun d => (d, h)
  | .str z, .int i => if z.length ≤ sizeLine then (atI z.cps.toList i).map fun c => (.str ⟨#[c]⟩, h) else none
  | .ref k, b => match h[k]? with
    | some (.lst ds) => (match b with
      | .int i => (atI ds i).map fun d => (d, h)
      | _ => none)
    | some (.dic kvs) => if (kD b).isSome then (getK kvs b).map fun d => (d, h) else none
    | some (.ldic kvs) => if (kD b).isSome then (getK kvs b).map fun d => (d, h) else none
    | _ => none
  | _, _ => none
def rDGet : R2 := fun x y H Q => ∃ a v, x = .ref a ∧ DGet H a y (some v) ∧ Q v H
theorem ix_dict (hu : X.A.units + 1 < cLine) : IxR X rDGet := by
  intro value slice pins s σ H x y v u Q I rx ry h hs
  obtain ⟨a, w, rfl, g, q⟩ := h
  cases rx
  exact PyProof.Rows.tail_any (dict_typeIs I g) PySem.F.slot_dict_getitem.lookup (d_getItem hu I g ry fun w' s3 I3 rw' => ⟨w, H, I3, rw', q⟩) hs
def rIxA (X : Cx) : R2 := fun x y H Q => rIx X.K x y H Q ∨ rDGet x y H Q
theorem x_ix (hu : X.A.units + 1 < cLine) : IxR X (rIxA X) := ix_seq.or (ix_dict hu)
theorem map_pair {α : Type} {o : Option α} {β : Type} {f : α → β} {h : Hm} {b : β} {h1 : Hm} (e : o.map (fun d => (f d, h)) = some (b, h1)) : ∃ d, o = some d ∧ f d = b ∧ h = h1 := by
  obtain ⟨d, e1, e2⟩ := Option.map_eq_some_iff.mp e
  injection e2 with e3 e4
  exact ⟨d, e1, e3, e4⟩
theorem o2_ix : Op2 (tx X) (rIxA X) ixD := by
  intro ι H h x y a b d h1 Q r qa qb e k
  cases a with
  | tup ds =>
    cases b with
    | int i =>
      obtain ⟨d', e1, e2, e3⟩ := map_pair (f := fun d => d) (o := atI ds i) e
      subst e2 e3
      rw [RV] at qa; rw [RV] at qb
      obtain ⟨p, xs, ep, s, q⟩ := qa
      obtain ⟨v, ev, qv⟩ := at_rv q e1
      exact .inl (.inr (.inl ⟨p, xs, i, v, ep, qb, s, ev, k _ _ _ (Ex.refl _ _) r qv⟩))
    | _ => cases e
  | fro ds =>
    cases b with
    | int i =>
      obtain ⟨d', e1, e2, e3⟩ := map_pair (f := fun d => d) (o := atI ds i) e
      subst e2 e3
      rw [RV] at qa; rw [RV] at qb
      obtain ⟨p, xs, ep, s, q⟩ := qa
      obtain ⟨v, ev, qv⟩ := at_rv q e1
      exact .inl (.inl ⟨p, xs, i, v, ep, qb, s.sq, ev, k _ _ _ (Ex.refl _ _) r qv⟩)
    | _ => cases e
  | str z =>
    cases b with
    | int i =>
      have e : (if z.length ≤ sizeLine then (atI z.cps.toList i).map fun c => (D.str ⟨#[c]⟩, h) else none) = some (d, h1) := e
      by_cases hz : z.length ≤ sizeLine
      · rw [if_pos hz] at e
        obtain ⟨c, e1, e2, e3⟩ := map_pair (f := fun c => D.str ⟨#[c]⟩) e
        subst e2 e3
        rw [RV] at qa; rw [RV] at qb
        exact .inl (.inr (.inr ⟨z, i, c, qa, qb, hz, e1, k _ _ _ (Ex.refl _ _) r (by rw [RV])⟩))
      · rw [if_neg hz] at e; cases e
    | _ => cases e
  | ref kk =>
    rw [RV] at qa
    obtain ⟨p, hp, ep⟩ := qa
    unfold ixD at e
    dsimp only at e
    cases q2 : h[kk]? with
    | none => rw [q2] at e; cases e
    | some o =>
      rw [q2] at e
      cases o with
      | lst ds =>
        obtain ⟨xs, hx, q⟩ := r.obj kk p _ hp q2
        cases b with
        | int i =>
          obtain ⟨d', e1, e2, e3⟩ := map_pair (f := fun d => d) (o := atI ds i) e
          subst e2 e3
          rw [RV] at qb
          obtain ⟨v, ev, qv⟩ := at_rv q e1
          exact .inl (.inl ⟨p, xs, i, v, ep, qb, SqL.of hx, ev, k _ _ _ (Ex.refl _ _) r qv⟩)
        | _ => cases e
      | dic kvs =>
        obtain ⟨ks, hx, q⟩ := r.obj kk p _ hp q2
        have e : (if (kD b).isSome = true then (getK kvs b).map fun d => (d, h) else none) = some (d, h1) := e
        by_cases hk : (kD b).isSome = true
        · rw [if_pos hk] at e
          obtain ⟨key, ek⟩ := Option.isSome_iff_exists.mp hk
          obtain ⟨d', e1, e2, e3⟩ := map_pair (f := fun d => d) e
          subst e2 e3
          obtain ⟨v, ev, qv⟩ := (getK_rv ek q).1 d' e1
          refine .inr ⟨p, v, ep, ?_, k _ _ _ (Ex.refl _ _) r qv⟩
          rw [kD_V ek qb, ← ev]
          exact DGet.k hx
        · rw [if_neg hk] at e; cases e
      | ins c fs => cases e
      | tdc kvs => cases e
      | ltdc kvs => cases e
      | ldic kvs =>
        have hx := r.obj kk p _ hp q2
        obtain ⟨o, ks, hx, q⟩ := hx
        have e : (if (kD b).isSome = true then (getK kvs b).map fun d => (d, h) else none) = some (d, h1) := e
        by_cases hk : (kD b).isSome = true
        · rw [if_pos hk] at e
          obtain ⟨key, ek⟩ := Option.isSome_iff_exists.mp hk
          obtain ⟨d', e1, e2, e3⟩ := map_pair (f := fun d => d) e
          subst e2 e3
          obtain ⟨v, ev, qv⟩ := (getK_rv ek q).1 d' e1
          refine .inr ⟨p, v, ep, ?_, k _ _ _ (Ex.refl _ _) r qv⟩
          rw [kD_V ek qb, ← ev]
          exact .inl ⟨ks, key, .inr ⟨o, hx⟩, rfl, rfl⟩
        · rw [if_neg hk] at e; cases e
  | _ => cases e
end
end ML

set_option Elab.async false
set_option linter.all false
set_option maxRecDepth 100000
namespace ML
open PySem L2
/-! ### slices -/
def lfO (T : Tx) (m : Sm → M (Option Int)) : TO := fun σ H Q => ∃ ι σm h o h1, Rl T ι H h ∧ RS T ι H σm σ ∧ m σm h = some (o, h1) ∧
  ∀ ι1 H1, Ex ι H ι1 H1 → Rl T ι1 H1 h1 → Q o H1
theorem _root_.L2.PO.imp {X : Cx} {e : Option Expr} {t t' : TO} (h : PO X e t) (i : ∀ σ H Q, t' σ H Q → t σ H Q) : PO X e t' := ⟨fun pins s σ H Q I q => h.run pins s σ H Q I (i _ _ _ q)⟩
def noP : Sm → M (Option Int) := fun _ => pure none
def someP (m : Sm → M D) : Sm → M (Option Int) := fun σ => m σ >>= fun d => match d with
  | .int i => pure (some i)
  | _ => M.bad
theorem lfO_then {T : Tx} {ι : List Addr} {H : Hp} {h h1 : Hm} {σm : Sm} {σ : St} {β : Type} {b : β} {P : List Addr → Hp → Prop} {ma : Sm → M (Option Int)} {k : Option Int → M β} {R : Option Int → Hp → Prop} (r : Rl T ι H h) (rs : RS T ι H σm σ) (e : (ma σm >>= k) h = some (b, h1)) (fin : ∀ ι2 H2, Ex ι H ι2 H2 → P ι2 H2)
    (next : ∀ ι1 H1 d h', Ex ι H ι1 H1 → Rl T ι1 H1 h' → RS T ι1 H1 σm σ → k d h' = some (b, h1) → (∀ ι2 H2, Ex ι1 H1 ι2 H2 → P ι2 H2) → R d H1) : lfO T ma σ H R := by
  obtain ⟨d, h', e1, e2⟩ := bind_some e
  exact ⟨ι, σm, h, d, h', r, rs, e1, fun ι1 H1 x r1 => next ι1 H1 d h' x r1 (rs.up (x.up r)) e2 fun ι2 H2 y => fin ι2 H2 (x.trans r1 y)⟩
def cutL {α : Type} (xs : List α) (lo hi : Option Int) : List α := (xs.drop (HT.sIx xs.length 0 lo)).take (HT.sIx xs.length xs.length hi - HT.sIx xs.length 0 lo)
theorem RVs.drop {T : Tx} {ι : List Addr} {H : Hp} : ∀ {ds : List D} {xs : List V} (n : Nat), RVs T ι H ds xs → RVs T ι H (ds.drop n) (xs.drop n)
  | ds, xs, 0, r => r
  | [], xs, n + 1, r => by rw [RVs] at r; rw [r]; show RVs T ι H [] []; rw [RVs]
  | d :: ds, xs, n + 1, r => by
    rw [RVs] at r
    obtain ⟨x, s, e, _, q⟩ := r
    rw [e]
    exact RVs.drop n q
theorem RVs.take {T : Tx} {ι : List Addr} {H : Hp} : ∀ {ds : List D} {xs : List V} (n : Nat), RVs T ι H ds xs → RVs T ι H (ds.take n) (xs.take n)
  | ds, xs, 0, r => by show RVs T ι H [] []; rw [RVs]
  | [], xs, n + 1, r => by rw [RVs] at r; rw [r]; show RVs T ι H [] []; rw [RVs]
  | d :: ds, xs, n + 1, r => by
    rw [RVs] at r
    obtain ⟨x, s, e, q1, q⟩ := r
    rw [e]
    show RVs T ι H (d :: ds.take n) (x :: s.take n)
    rw [RVs]
    exact ⟨x, s.take n, rfl, q1, RVs.take n q⟩
theorem RVs.cut {T : Tx} {ι : List Addr} {H : Hp} {ds : List D} {xs : List V} (r : RVs T ι H ds xs) (lo hi : Option Int) : RVs T ι H (cutL ds lo hi) (cutV xs lo hi) := by
  unfold cutL cutV
  rw [r.length]
  exact RVs.take _ (RVs.drop _ r)
def sliceM (g : D → Option Int → Option Int → M D) (m : Sm → M D) (lo hi : Sm → M (Option Int)) : Sm → M D := fun σ => m σ >>= fun d => lo σ >>= fun a => hi σ >>= fun b => g d a b
def sliceL (m : Sm → M D) (lo hi : Sm → M (Option Int)) : Sm → M (List D) := fun σ => m σ >>= fun d => lo σ >>= fun a => hi σ >>= fun b => fun h => match d with
  | .ref k => (match h[k]? with
    | some (.lst xs) => some (cutL xs a b, h)
    | _ => none)
  | .fro xs => some (cutL xs a b, h)
  | _ => none
def cutT : D → Option Int → Option Int → M D := fun d a b => match d with
  | .tup xs => pure (.tup (cutL xs a b))
  | _ => M.bad
section
variable {X : Cx} {e : Expr} {m : Sm → M D} {pos p2 : Pos}
theorem o_none : PO X none (lfO (tx X) noP) := po_none.imp fun σ H Q q => by
  obtain ⟨ι, σm, h, o, h1, r, rs, e, k⟩ := q
  obtain ⟨e1, e2⟩ := pure_some e
  subst e1 e2
  exact k _ _ (Ex.refl _ _) r
theorem o_some (he : PE X e (lf (tx X) m)) : PO X (some e) (lfO (tx X) (someP m)) := (po_some he).imp fun σ H Q q => by
  obtain ⟨ι, σm, h, o, h1, r, rs, e, k⟩ := q
  refine lf_then r rs e (P := fun ι2 H2 => Rl (tx X) ι2 H2 h1 → Q o H2) k fun ι1 H1 x d h' x1 r1 rs1 q1 e1 k1 => ?_
  cases d with
  | int i =>
    obtain ⟨e2, e3⟩ := pure_some e1
    subst e2 e3
    rw [RV] at q1
    exact ⟨i, q1, k1 _ _ (Ex.refl _ _) r1⟩
  | _ => cases e1
def SlM (T : Tx) (r : V → Option Int → Option Int → Hp → VK → Prop) (g : D → Option Int → Option Int → M D) : Prop := ∀ (ι : List Addr) (H : Hp) (h : Hm) (x : V) (a d : D) (lo hi : Option Int) (h1 : Hm) (Q : VK), Rl T ι H h → RV T ι H a x → g a lo hi h = some (d, h1) →
  (∀ ι1 H1 v, Ex ι H ι1 H1 → Rl T ι1 H1 h1 → RV T ι1 H1 d v → Q v H1) → r x lo hi H Q
theorem m_slice {r : V → Option Int → Option Int → Hp → VK → Prop} {g : D → Option Int → Option Int → M D} {lo hi : Option Expr} {ml mh : Sm → M (Option Int)} (hr : SlR X r) (hg : SlM (tx X) r g) (he : PE X e (lf (tx X) m)) (hl : PO X lo (lfO (tx X) ml)) (hu : PO X hi (lfO (tx X) mh)) :
    PE X (.Subscript e (.Slice lo hi none p2) pos) (lf (tx X) (sliceM g m ml mh)) := (pe_slice hr he hl hu).imp fun σ H Q q => by
  obtain ⟨ι, σm, h, d, h1, r, rs, e, k⟩ := q
  refine lf_then r rs e (P := fun ι2 H2 => ∀ v, Rl (tx X) ι2 H2 h1 → RV (tx X) ι2 H2 d v → Q v H2) (fun ι2 H2 y v => k ι2 H2 v y) fun ι1 H1 x da h' x1 r1 rs1 q1 e1 k1 => ?_
  refine lfO_then r1 rs1 e1 k1 fun ι2 H2 lo' h'' x2 r2 rs2 e2 k2 => ?_
  refine lfO_then r2 rs2 e2 k2 fun ι3 H3 hi' h3 x3 r3 rs3 e3 k3 => ?_
  exact hg ι3 H3 h3 x da d lo' hi' h1 Q r3 (RV.up (x3.up r2) _ _ (RV.up (x2.up r1) _ _ q1)) e3 fun ι4 H4 v x4 => k3 ι4 H4 x4 v
theorem sm_tup : SlM (tx X) (rSlA X.K) cutT := by
  intro ι H h x a d lo hi h1 Q r qa e k
  cases a with
  | tup ds =>
    obtain ⟨e1, e2⟩ := pure_some e
    subst e1 e2
    rw [RV] at qa
    obtain ⟨p, xs, ep, s, q⟩ := qa
    refine ⟨p, xs, ep, s, fun hw => ?_, fun _ p2 hp2 => ?_⟩
    · refine k _ _ _ (Ex.refl _ _) r ?_
      rw [RV]
      have ew : cutL ds lo hi = ds := by
        rw [q.length] at hw
        unfold cutL
        rw [hw.1, hw.2, List.drop_zero, Nat.sub_zero, List.take_length]
      rw [ew]
      exact ⟨p, xs, rfl, s, q⟩
    · obtain ⟨x3, r3, q3⟩ := new_tup r hp2 (q.cut lo hi)
      exact k _ _ _ x3 r3 q3
  | _ => cases e
theorem l_slice {lo hi : Option Expr} {ml mh : Sm → M (Option Int)} (he : PE X e (lf (tx X) m)) (hl : PO X lo (lfO (tx X) ml)) (hu : PO X hi (lfO (tx X) mh)) :
    PE X (.Subscript e (.Slice lo hi none p2) pos) (lfL (tx X) (sliceL m ml mh)) := (pe_slice sl_list he hl hu).imp fun σ H Q q => by
  obtain ⟨ι, σm, h, d, h1, r, rs, e, k⟩ := q
  refine lf_then r rs e (P := fun ι2 H2 => ∀ a xs, Rl (tx X) ι2 H2 h1 → H a = none → a ∉ ι2 → H2 a = some (.lst xs) → RVs (tx X) ι2 H2 d xs → Q (.ref a) H2) (fun ι2 H2 y a xs => k ι2 H2 a xs y) fun ι1 H1 x da h' x1 r1 rs1 q1 e1 k1 => ?_
  refine lfO_then r1 rs1 e1 k1 fun ι2 H2 lo' h'' x2 r2 rs2 e2 k2 => ?_
  refine lfO_then r2 rs2 e2 k2 fun ι3 H3 hi' h3 x3 r3 rs3 e3 k3 => ?_
  have q3 := RV.up (x3.up r2) _ _ (RV.up (x2.up r1) _ _ q1)
  have fin : ∀ {p : Addr} {ds : List D} {xs : List V}, SqL X.K H3 p xs → x = .ref p → RVs (tx X) ι3 H3 ds xs → d = cutL ds lo' hi' → h1 = h3 → rSlL X.K x lo' hi' H3 Q := fun {p ds xs} hs ex q ed eh => by
    subst ed eh
    refine ⟨p, xs, ex, hs, fun p2 hp2 => ?_⟩
    obtain ⟨x4, r4⟩ := r3.other (u := .lst (cutV xs lo' hi')) hp2
    have x03 := (x1.trans r1 x2).trans r2 x3
    have np : p2 ∉ ι3 := fun mm => by
      obtain ⟨u', e', _⟩ := r3.at mm
      rw [hp2] at e'; cases e'
    have hH : H p2 = none := by
      cases q5 : H p2 with
      | none => rfl
      | some o =>
        by_cases hi : p2 ∈ ι
        · obtain ⟨s, es', _⟩ := x03.pre
          exact absurd (by rw [es']; exact List.mem_append_left _ hi) np
        · have := x03.fr p2 o q5 hi
          rw [hp2] at this; cases this
    exact k3 _ _ x4 _ _ r4 hH np upd_same (RVs.up (x4.up r3) _ _ (q.cut lo' hi'))
  cases da with
  | fro ds =>
    obtain ⟨e4, e5⟩ := some_pair e3
    rw [RV] at q3
    obtain ⟨p, xs, ep, s, q⟩ := q3
    exact fin s.sq ep q e4.symm e5.symm
  | ref kk =>
    rw [RV] at q3
    obtain ⟨p, hp, ep⟩ := q3
    have e3 : (match h3[kk]? with | some (.lst xs) => some (cutL xs lo' hi', h3) | _ => none) = some (d, h1) := e3
    cases q2 : h3[kk]? with
    | none => rw [q2] at e3; cases e3
    | some o =>
      rw [q2] at e3
      cases o with
      | lst ds =>
        obtain ⟨e4, e5⟩ := some_pair e3
        obtain ⟨xs, hx, q⟩ := r3.obj kk p _ hp q2
        exact fin (SqL.of hx) ep q e4.symm e5.symm
      | _ => cases e3
  | _ => cases e3

/-! ### stores -/
def putKD (kvs : List (D × D)) (k v : D) : List (D × D) := if (kvs.any fun p => decide (p.1 = k)) = true then kvs.map (fun p => if p.1 = k then (p.1, v) else p) else kvs ++ [(k, v)]
def storeD (o i v : D) : Hm → Option Hm := fun h => match o with
  | .ref k => (match h[k]? with
    | some (.lst xs) => (match i with
      | .int j => (ixN xs.length j).map fun n => h.set k (.lst (xs.set n v))
      | _ => none)
    | some (.dic kvs) => if (kD i).isSome ∧ kvs.length < sizeLine then some (h.set k (.dic (putKD kvs i v))) else none
    | _ => none)
  | _ => none
theorem KRs.any {T : Tx} {ι : List Addr} {H : Hp} {key : D} {k : Key} (hk : kD key = some k) : ∀ {kvs : List (D × D)} {ks : List (Key × V)}, KRs T ι H kvs ks → (kvs.any fun p => decide (p.1 = key)) = ks.any fun p => decide (p.1 = k)
  | [], ks, r => by have e : ks = [] := r; rw [e]; rfl
  | p :: kvs, ks, r => by
    obtain ⟨k', v, s, e, ek, qv, q⟩ := r
    rw [e, List.any_cons, List.any_cons, KRs.any hk q]
    congr 1
    by_cases hp : p.1 = key
    · have : k' = k := by rw [hp, hk] at ek; exact (Option.some.inj ek).symm
      rw [decide_eq_true hp, decide_eq_true this]
    · have : ¬ k' = k := fun z => hp (kD_inj (by rw [ek, z]) hk)
      rw [decide_eq_false hp, decide_eq_false this]
theorem KRs.repl {T : Tx} {ι : List Addr} {H : Hp} {key d : D} {k : Key} {w : V} (hk : kD key = some k) (qw : RV T ι H d w) : ∀ {kvs : List (D × D)} {ks : List (Key × V)}, KRs T ι H kvs ks → KRs T ι H (kvs.map fun p => if p.1 = key then (p.1, d) else p) (ks.map fun p => if p.1 = k then (p.1, w) else p)
  | [], ks, r => by have e : ks = [] := r; rw [e]; exact rfl
  | p :: kvs, ks, r => by
    obtain ⟨k', v, s, e, ek, qv, q⟩ := r
    rw [e, List.map_cons, List.map_cons]
    have ih := KRs.repl hk qw q
    by_cases hp : p.1 = key
    · have : k' = k := by rw [hp, hk] at ek; exact (Option.some.inj ek).symm
      rw [if_pos hp, if_pos this]
      exact ⟨k', w, _, rfl, ek, qw, ih⟩
    · have : ¬ k' = k := fun z => hp (kD_inj (by rw [ek, z]) hk)
      rw [if_neg hp, if_neg this]
      exact ⟨k', v, _, rfl, ek, qv, ih⟩
theorem KRs.snoc {T : Tx} {ι : List Addr} {H : Hp} {key d : D} {k : Key} {w : V} (hk : kD key = some k) (qw : RV T ι H d w) : ∀ {kvs : List (D × D)} {ks : List (Key × V)}, KRs T ι H kvs ks → KRs T ι H (kvs ++ [(key, d)]) (ks ++ [(k, w)])
  | [], ks, r => by have e : ks = [] := r; rw [e]; exact ⟨k, w, [], rfl, hk, qw, rfl⟩
  | p :: kvs, ks, r => by
    obtain ⟨k', v, s, e, ek, qv, q⟩ := r
    rw [e]
    exact ⟨k', v, s ++ [(k, w)], rfl, ek, qv, KRs.snoc hk qw q⟩
theorem KRs.put {T : Tx} {ι : List Addr} {H : Hp} {key d : D} {k : Key} {w : V} (hk : kD key = some k) (qw : RV T ι H d w) {kvs : List (D × D)} {ks : List (Key × V)} (q : KRs T ι H kvs ks) : KRs T ι H (putKD kvs key d) (putK ks k w) := by
  unfold putKD putK
  rw [q.any hk]
  split
  · exact q.repl hk qw
  · exact q.snoc hk qw
theorem RVs.set {T : Tx} {ι : List Addr} {H : Hp} {d : D} {w : V} (qw : RV T ι H d w) : ∀ {ds : List D} {xs : List V} (n : Nat), RVs T ι H ds xs → RVs T ι H (ds.set n d) (xs.set n w)
  | [], xs, n, r => by rw [RVs] at r; rw [r]; show RVs T ι H [] []; rw [RVs]
  | d' :: ds, xs, 0, r => by
    rw [RVs] at r
    obtain ⟨x, s, e, q1, q⟩ := r
    rw [e]
    show RVs T ι H (d :: ds) (w :: s)
    rw [RVs]
    exact ⟨w, s, rfl, qw, q⟩
  | d' :: ds, xs, n + 1, r => by
    rw [RVs] at r
    obtain ⟨x, s, e, q1, q⟩ := r
    rw [e]
    show RVs T ι H (d' :: ds.set n d) (x :: s.set n w)
    rw [RVs]
    exact ⟨x, _, rfl, q1, RVs.set qw n q⟩
def rSetA : TSet := fun o i v H Q => rSetL o i v H Q ∨ ∃ a H', o = .ref a ∧ DPut H a i v H' ∧ Q H'
theorem p_set (hu : X.A.units + 1 < cLine) : PSet X rSetA := by
  intro pins s σ H o i v ov iv u Q I ro ri rv h
  rcases h with h | ⟨a, H', rfl, g, q⟩
  · exact set_list pins s σ H o i v ov iv u Q I ro ri rv h
  · cases ro
    exact d_setItem hu I g ri rv fun s4 I4 => ⟨H', I4, q⟩
def subS (mv mo mi : Sm → M D) : Sm → M Fl := fun σ => mv σ >>= fun v => mo σ >>= fun o => mi σ >>= fun i => fun h => (storeD o i v h).map fun h1 => (.nx σ, h1)
variable {o i : Expr} {mv mo mi : Sm → M D} {tpos : Pos}
theorem s_sub (hu : X.A.units + 1 < cLine) (he : PE X e (lf (tx X) mv)) (ho : PE X o (lf (tx X) mo)) (hi : PE X i (lf (tx X) mi))
    (ha : ∀ v, assign (.Subscript o i tpos) X.env v = (do
      let ov ← holding [v] (eval o X.env)
      let iv ← holding [v, ov] (eval i X.env)
      standAt tpos
      holding [v, ov, iv] (setItem ov iv v)
      release [v, ov, iv] []) := by intro _; rfl)
    (hs : swapsWithSole [.Subscript o i tpos] e pos.line X.env = pure false := by rfl) (hw : swappedStores [.Subscript o i tpos] e X.env = pure none := by rfl)
    (h1 : (assignEach [.Subscript o i tpos] X.env).map (·.2) = [assign (.Subscript o i tpos) X.env] := by rfl) : PS X (.Assign [.Subscript o i tpos] e pos) (lfS (tx X) (subS mv mo mi)) :=
  (ps_asg he (pg_sub ho hi (p_set hu) ha) hs hw h1).imp fun D σ H q => by
  obtain ⟨ι, σm, h, f, h1, r, rs, e, k⟩ := q
  refine lf_then r rs e (P := fun ι2 H2 => Rl (tx X) ι2 H2 h1 → EndF (tx X) ι2 H2 D f) k fun ι1 H1 v dv h' x1 r1 rs1 q1 e1 k1 => ?_
  refine lf_then r1 rs1 e1 k1 fun ι2 H2 ov do' h2 x2 r2 rs2 q2 e2 k2 => ?_
  refine lf_then r2 rs2 e2 k2 fun ι3 H3 iv di h3 x3 r3 rs3 q3 e3 k3 => ?_
  obtain ⟨h4, e4, e5⟩ := Option.map_eq_some_iff.mp e3
  injection e5 with e6 e7
  subst e6 e7
  have qv := RV.up (x3.up r2) _ _ (RV.up (x2.up r1) _ _ q1)
  have qo := RV.up (x3.up r2) _ _ q2
  cases do' with
  | ref kk =>
    rw [RV] at qo
    obtain ⟨a, ha, ea⟩ := qo
    unfold storeD at e4
    dsimp only at e4
    cases q5 : h3[kk]? with
    | none => rw [q5] at e4; cases e4
    | some ob =>
      rw [q5] at e4
      cases ob with
      | lst xs =>
        obtain ⟨ys, hy, qs⟩ := r3.obj kk a _ ha q5
        cases di with
        | int j =>
          obtain ⟨n, en, e8⟩ := Option.map_eq_some_iff.mp (show (ixN xs.length j).map (fun n => h3.set kk (.lst (xs.set n dv))) = some h4 from e4)
          subst e8
          rw [RV] at q3
          refine .inl ⟨a, ys, j, n, ea, q3, hy, by rw [qs.length]; exact en, ?_⟩
          obtain ⟨x4, r4⟩ := r3.put (u := .lst (ys.set n v)) (o := .lst (xs.set n dv)) ha hy trivial fun up => ⟨_, upd_same, RVs.up up _ _ (RVs.set qv n qs)⟩
          exact k3 _ _ x4 r4 σ (rs3.up (x4.up r3))
        | _ => cases e4
      | dic kvs =>
        obtain ⟨ks, hy, qs⟩ := r3.obj kk a _ ha q5
        have e4 : (if (kD di).isSome ∧ kvs.length < sizeLine then some (h3.set kk (.dic (putKD kvs di dv))) else none) = some h4 := e4
        by_cases hc : (kD di).isSome ∧ kvs.length < sizeLine
        · rw [if_pos hc] at e4
          cases e4
          obtain ⟨key, ek⟩ := Option.isSome_iff_exists.mp hc.1
          have ei := kD_V ek q3
          subst ei
          refine .inr ⟨a, _, ea, DPut.k hy (by rw [qs.length]; exact hc.2), ?_⟩
          obtain ⟨x4, r4⟩ := r3.put (u := .dK (putK ks key v)) (o := .dic (putKD kvs di dv)) ha hy trivial fun up => ⟨_, upd_same, KRs.up up _ _ (KRs.put ek qv qs)⟩
          exact k3 _ _ x4 r4 σ (rs3.up (x4.up r3))
        · rw [if_neg hc] at e4; cases e4
      | ins c fs => cases e4
      | ldic kvs => cases e4
      | tdc kvs => cases e4
      | ltdc kvs => cases e4
  | _ => cases e4

/-! ### dict displays -/
def pairsM : List ((Sm → M D) × (Sm → M D)) → Sm → M (List (D × D))
  | [], _ => pure []
  | (mk, mv) :: r, σ => mk σ >>= fun k => mv σ >>= fun v => pairsM r σ >>= fun ps => pure ((k, v) :: ps)
def mergeD (kvs : List (D × D)) : List (D × D) := kvs.foldl (fun acc p => putKD acc p.1 p.2) []
def dispM (l : List ((Sm → M D) × (Sm → M D))) : Sm → M D := fun σ => pairsM l σ >>= fun ps => fun h => if (ps.all fun p => (kD p.1).isSome) = true ∧ ps.length ≤ 15 then some (.ref h.length, h ++ [.dic (mergeD ps)]) else none
def lfPairs (T : Tx) : List ((Sm → M D) × (Sm → M D)) → List (TE × TE)
  | [] => []
  | (mk, mv) :: r => (lf T mk, lf T mv) :: lfPairs T r
def PRs (T : Tx) (ι : List Addr) (H : Hp) : List (D × D) → List (V × V) → Prop
  | [], xs => xs = []
  | p :: r, xs => ∃ k v s, xs = (k, v) :: s ∧ RV T ι H p.1 k ∧ RV T ι H p.2 v ∧ PRs T ι H r s
theorem PRs.up {T : Tx} {ι ι1 : List Addr} {H H1 : Hp} (u : Up T ι H ι1 H1) : ∀ (ds : List (D × D)) (ks : List (V × V)), PRs T ι H ds ks → PRs T ι1 H1 ds ks
  | [], _, r => r
  | p :: ds, ks, r => by
    obtain ⟨k, v, s, e, q1, q, t⟩ := r
    exact ⟨k, v, s, e, RV.up u _ _ q1, RV.up u _ _ q, PRs.up u ds s t⟩
theorem PRs.keys {T : Tx} {ι : List Addr} {H : Hp} : ∀ {ds : List (D × D)} {ps : List (V × V)}, PRs T ι H ds ps → (ds.all fun p => (kD p.1).isSome) = true → ∃ kvs : List (Key × V), ps = kvs.map (fun kv => (kV kv.1, kv.2)) ∧ KRs T ι H ds kvs ∧ kvs.length = ds.length
  | [], ps, r, _ => ⟨[], r, rfl, rfl⟩
  | p :: ds, ps, r, c => by
    obtain ⟨k, v, s, e, q1, q2, t⟩ := r
    rw [List.all_cons, Bool.and_eq_true] at c
    obtain ⟨kvs, e1, q, hl⟩ := PRs.keys t c.2
    obtain ⟨key, ek⟩ := Option.isSome_iff_exists.mp c.1
    exact ⟨(key, v) :: kvs, by rw [e, e1, kD_V ek q1]; rfl, ⟨key, v, kvs, rfl, ek, q2, q⟩, by rw [List.length_cons, List.length_cons, hl]⟩
theorem KRs.fold {T : Tx} {ι : List Addr} {H : Hp} : ∀ {ds : List (D × D)} {kvs : List (Key × V)} {acc : List (D × D)} {ac : List (Key × V)}, KRs T ι H ds kvs → KRs T ι H acc ac → KRs T ι H (ds.foldl (fun a p => putKD a p.1 p.2) acc) (kvs.foldl (fun a kv => putK a kv.1 kv.2) ac)
  | [], kvs, acc, ac, r, q => by have e : kvs = [] := r; rw [e]; exact q
  | p :: ds, kvs, acc, ac, r, q => by
    obtain ⟨k, v, s, e, ek, qv, t⟩ := r
    rw [e]
    show KRs T ι H (ds.foldl (fun a p => putKD a p.1 p.2) (putKD acc p.1 p.2)) (s.foldl (fun a kv => putK a kv.1 kv.2) (putK ac k v))
    exact KRs.fold t (KRs.put ek qv q)
theorem pairs_then {T : Tx} {σ : St} {β : Type} {b : β} {P : List Addr → Hp → Prop} {R : List (V × V) → Hp → Prop} : ∀ {l : List ((Sm → M D) × (Sm → M D))} {ι : List Addr} {H : Hp} {h h1 : Hm} {σm : Sm} {k : List (D × D) → M β}, Rl T ι H h → RS T ι H σm σ → (pairsM l σm >>= k) h = some (b, h1) → (∀ ι2 H2, Ex ι H ι2 H2 → P ι2 H2) →
    (∀ ι1 H1 xs ps h', Ex ι H ι1 H1 → Rl T ι1 H1 h' → PRs T ι1 H1 ps xs → k ps h' = some (b, h1) → (∀ ι2 H2, Ex ι1 H1 ι2 H2 → P ι2 H2) → R xs H1) → tPairs (lfPairs T l) σ H R
  | [], ι, H, h, h1, σm, k, r, rs, e, fin, next => next ι H [] [] h (Ex.refl _ _) r rfl e fin
  | (mk, mv) :: l, ι, H, h, h1, σm, k, r, rs, e, fin, next => by
    have e' : (mk σm >>= fun kk => mv σm >>= fun vv => pairsM l σm >>= fun ps => k ((kk, vv) :: ps)) h = some (b, h1) := by
      obtain ⟨ps, h', e1, e2⟩ := bind_some e
      obtain ⟨kk, ha, e3, e4⟩ := bind_some e1
      obtain ⟨vv, hb, e5, e6⟩ := bind_some e4
      obtain ⟨qs, hc, e7, e8⟩ := bind_some e6
      obtain ⟨e9, e10⟩ := pure_some e8
      subst e9 e10
      rw [bind_of e3, bind_of e5, bind_of e7]
      exact e2
    refine lf_then r rs e' fin fun ι1 H1 x dk h' x1 r1 rs1 q1 e1 k1 => ?_
    refine lf_then r1 rs1 e1 k1 fun ι2 H2 y dv h2 x2 r2 rs2 q2 e2 k2 => ?_
    refine pairs_then (P := P) r2 rs2 e2 k2 fun ι3 H3 xs ps h3 x3 r3 q3 e3 k3 => ?_
    exact next ι3 H3 ((x, y) :: xs) ((dk, dv) :: ps) h3 ((x1.trans r1 x2).trans r2 x3) r3 ⟨x, y, xs, rfl, RV.up (x3.up r2) _ _ (RV.up (x2.up r1) _ _ q1), RV.up (x3.up r2) _ _ q2, q3⟩ e3 k3
theorem m_disp {keys : List (Option Expr)} {values : List Expr} {l : List ((Sm → M D) × (Sm → M D))} (h : PPs X pos keys values (lfPairs (tx X) l)) (hall : keys.all (·.isSome) = true) (hl : keys.length = values.length) (h0 : keys ≠ []) (h15 : keys.length ≤ 15) : PE X (.Dict keys values pos) (lf (tx X) (dispM l)) :=
  (pe_disp h hall hl h0 h15).imp fun σ H Q q p hp => by
  obtain ⟨ι, σm, h, d, h1, r, rs, e, k⟩ := q
  obtain ⟨x0, r0⟩ := r.other (u := .dK []) hp
  have np : p ∉ ι := fun mm => by
    obtain ⟨u', e', _⟩ := r.at mm
    rw [hp] at e'; cases e'
  refine pairs_then (P := fun ι2 H2 => ∀ v, Ex ι H ι2 H2 → Rl (tx X) ι2 H2 h1 → RV (tx X) ι2 H2 d v → Q v H2) r0 (rs.up (x0.up r)) e (fun ι2 H2 y v z => k ι2 H2 v z) fun ι1 H1 xs ps h' x1 r1 q1 e1 k1 => ?_
  have hp1 : H1 p = some (.dK []) := x1.fr _ _ upd_same np
  have np1 : p ∉ ι1 := x1.not_new upd_same np
  have e1 : (if (ps.all fun p => (kD p.1).isSome) = true ∧ ps.length ≤ 15 then some (D.ref h'.length, h' ++ [O.dic (mergeD ps)]) else none) = some (d, h1) := e1
  by_cases hc : (ps.all fun p => (kD p.1).isSome) = true ∧ ps.length ≤ 15
  · rw [if_pos hc] at e1
    obtain ⟨e2, e3⟩ := some_pair e1
    subst e2 e3
    obtain ⟨kvs, ek, qk, hl⟩ := q1.keys hc.1
    refine ⟨hp1, kvs, ek, by omega, ?_⟩
    -- the dict at p is changed beside ours, then it is ours
    have up : Up (tx X) ι1 H1 ι1 (upd H1 p (.dK (mergeK [] kvs))) := by
      refine ⟨fun _ _ z => z, fun a ys s => ?_, fun a ys s => ?_⟩
      · rcases s with (s | ⟨o, s⟩) | s
        · exact .inl (.inl (by rw [upd_ne (fun z => by rw [z, hp1] at s; cases s)]; exact s))
        · exact .inl (.inr ⟨o, by rw [upd_ne (fun z => by rw [z, hp1] at s; cases s)]; exact s⟩)
        · exact .inr s
      · rcases s with ⟨o, s⟩ | s
        · exact .inl ⟨o, by rw [upd_ne (fun z => by rw [z, hp1] at s; cases s)]; exact s⟩
        · exact .inr s
    have r2 : Rl (tx X) ι1 (upd H1 p (.dK (mergeK [] kvs))) h' := ⟨r1.len, r1.nd, fun i a o e1 e2 => (r1.obj i a o e1 e2).up up (upd_ne fun z => np1 (z ▸ List.mem_of_getElem? e1))⟩
    have r3 := r2.own np1 _ upd_same trivial (o := .dic (mergeD ps)) fun up2 => ⟨_, upd_same, KRs.up up2 _ _ (KRs.up up _ _ (KRs.fold qk rfl))⟩
    have hpH : Ex ι H ι1 (upd H1 p (.dK (mergeK [] kvs))) := (x0.trans r0 x1).side hp
    refine k _ _ _ (hpH.own hp) r3 ?_
    rw [RV]
    exact ⟨p, by rw [← r1.len, List.getElem?_append_right (Nat.le_refl _), Nat.sub_self]; rfl, rfl⟩
  · rw [if_neg hc] at e1; cases e1
end
end ML

set_option Elab.async false
set_option linter.all false
set_option maxRecDepth 100000
set_option autoImplicit false
namespace ML
open PySem PySem.SeqAt PySem.W PyProof.Rows
/-! ### the order as rows of signs -/
mutual
theorem toks_of_eqv : ∀ (x y : PyData), PyData.eqv x y = true → x.canLay0 = true → y.canLay0 = true → keyToks x = keyToks y
  | .none, y, e, _, _ => by cases y <;> simp [PyData.eqv, keyToks] at e ⊢
  | .bool b, y, e, _, _ => by cases y <;> simp_all [PyData.eqv, keyToks]
  | .int i, y, e, _, _ => by cases y <;> simp_all [PyData.eqv, keyToks]
  | .str s, y, e, _, _ => by cases y <;> simp_all [PyData.eqv, keyToks]
  | .list xs, y, e, cx, cy => by
    cases y with
    | list ys => rw [keyToks, keyToks]; exact toksAll_of_eqv xs ys (by simpa [PyData.eqv] using e) (by simpa [PyData.canLay0] using cx) (by simpa [PyData.canLay0] using cy)
    | _ => simp [PyData.eqv] at e
  | .tuple xs, y, e, cx, cy => by
    cases y with
    | tuple ys => rw [keyToks, keyToks]; exact toksAll_of_eqv xs ys (by simpa [PyData.eqv] using e) (by simpa [PyData.canLay0] using cx) (by simpa [PyData.canLay0] using cy)
    | _ => simp [PyData.eqv] at e
  | .dict _, _, _, c, _ => by simp [PyData.canLay0] at c
theorem toksAll_of_eqv : ∀ (xs ys : List PyData), PyData.eqvAll xs ys = true → PyData.canLayAll0 xs = true → PyData.canLayAll0 ys = true → keyToksAll xs = keyToksAll ys
  | [], ys, e, _, _ => by cases ys <;> simp_all [PyData.eqvAll]
  | x :: xs, ys, e, cx, cy => by
    cases ys with
    | nil => simp [PyData.eqvAll] at e
    | cons y ys =>
      rw [eqv_all_cons, Bool.and_eq_true] at e
      have c1 : x.canLay0 = true ∧ PyData.canLayAll0 xs = true := by simpa [PyData.canLayAll0] using cx
      have c2 : y.canLay0 = true ∧ PyData.canLayAll0 ys = true := by simpa [PyData.canLayAll0] using cy
      rw [toks_all_cons, toks_all_cons, toks_of_eqv x y e.1 c1.1 c2.1, toksAll_of_eqv xs ys e.2 c1.2 c2.2]
end
mutual
theorem ltP_toks : ∀ (x y : PyData) (k : Bool), ltP x y = some k → PyData.eqv x y = false → x.canLay0 = true → y.canLay0 = true → ∀ l m : List (Int ⊕ List Nat), PyProof.Rows.lexLt itemOrd (keyToks x ++ l) (keyToks y ++ m) = k
  | .int i, y, k, h, e, _, _ => by
    cases y with
    | int j =>
      rw [ltP] at h
      cases h
      intro l m
      have ne : (Sum.inl i : Int ⊕ List Nat) ≠ Sum.inl j := fun z => by injection z with z; subst z; simp [PyData.eqv] at e
      show PyProof.Rows.lexLt itemOrd (Sum.inl i :: l) (Sum.inl j :: m) = _
      rw [lex_atom ne, lex_one]
      rfl
    | _ => simp [ltP] at h
  | .str s, y, k, h, e, _, _ => by
    cases y with
    | str t =>
      rw [ltP] at h
      cases h
      intro l m
      have ne : (Sum.inr s.cps.toList : Int ⊕ List Nat) ≠ Sum.inr t.cps.toList := fun z => by
        injection z with z
        have := str_of_cps z
        subst this; simp [PyData.eqv] at e
      show PyProof.Rows.lexLt itemOrd (Sum.inr s.cps.toList :: l) (Sum.inr t.cps.toList :: m) = _
      rw [lex_atom ne, lex_one]
      rfl
    | _ => simp [ltP] at h
  | .tuple xs, y, k, h, e, cx, cy => by
    cases y with
    | tuple ys =>
      rw [ltP] at h
      intro l m
      rw [keyToks, keyToks]
      exact ltPs_toks xs ys k h (by simpa [PyData.eqv] using e) (by simpa [PyData.canLay0] using cx) (by simpa [PyData.canLay0] using cy) l m
    | _ => simp [ltP] at h
  | .none, y, k, h, _, _, _ => by cases y <;> simp [ltP] at h
  | .bool _, y, k, h, _, _, _ => by cases y <;> simp [ltP] at h
  | .list _, y, k, h, _, _, _ => by cases y <;> simp [ltP] at h
  | .dict _, y, k, h, _, _, _ => by cases y <;> simp [ltP] at h
theorem ltPs_toks : ∀ (xs ys : List PyData) (k : Bool), ltPs xs ys = some k → PyData.eqvAll xs ys = false → PyData.canLayAll0 xs = true → PyData.canLayAll0 ys = true → ∀ l m : List (Int ⊕ List Nat), PyProof.Rows.lexLt itemOrd (keyToksAll xs ++ l) (keyToksAll ys ++ m) = k
  | [], [], k, h, e, _, _ => by simp [PyData.eqvAll] at e
  | [], y :: ys, k, h, e, _, _ => by
    rw [ltPs] at h
    cases h
    intro l m
    rw [toks_all_cons]
    show PyProof.Rows.lexLt itemOrd (Sum.inl 0 :: l) (Sum.inl 1 :: (keyToks y ++ keyToksAll ys ++ m)) = true
    rw [lex_atom (by simp), lex_one]
    rfl
  | x :: xs, [], k, h, e, _, _ => by
    rw [ltPs] at h
    cases h
    intro l m
    rw [toks_all_cons]
    show PyProof.Rows.lexLt itemOrd (Sum.inl 1 :: (keyToks x ++ keyToksAll xs ++ l)) (Sum.inl 0 :: m) = false
    rw [lex_atom (by simp), lex_one]
    rfl
  | x :: xs, y :: ys, k, h, e, cx, cy => by
    have c1 : x.canLay0 = true ∧ PyData.canLayAll0 xs = true := by simpa [PyData.canLayAll0] using cx
    have c2 : y.canLay0 = true ∧ PyData.canLayAll0 ys = true := by simpa [PyData.canLayAll0] using cy
    rw [ltPs] at h
    rw [eqv_all_cons] at e
    intro l m
    rw [toks_all_cons, toks_all_cons]
    show PyProof.Rows.lexLt itemOrd (Sum.inl 1 :: (keyToks x ++ keyToksAll xs ++ l)) (Sum.inl 1 :: (keyToks y ++ keyToksAll ys ++ m)) = k
    rw [PyProof.Rows.lex_self (O := itemOrd), List.append_assoc, List.append_assoc]
    by_cases q : PyData.eqv x y = true
    · rw [if_pos q] at h
      rw [q, Bool.true_and] at e
      rw [toks_of_eqv x y q c1.1 c2.1, lex_pre]
      exact ltPs_toks xs ys k h e c1.2 c2.2 l m
    · rw [if_neg q] at h
      exact ltP_toks x y k h (by simpa using q) c1.1 c2.1 _ _
end
theorem ltPs_eqv : ∀ (xs ys : List PyData), PyData.eqvAll xs ys = true → ltPs xs ys = some false
  | [], ys, e => by
    cases ys with
    | nil => rw [ltPs]
    | cons y ys => simp [PyData.eqvAll] at e
  | x :: xs, ys, e => by
    cases ys with
    | nil => simp [PyData.eqvAll] at e
    | cons y ys =>
      rw [eqv_all_cons, Bool.and_eq_true] at e
      rw [ltPs, if_pos e.1]
      exact ltPs_eqv xs ys e.2
/-- two rows that can be compared -/
theorem lt_tup_toks {xs ys : List PyData} {k : Bool} (h : ltPs xs ys = some k) (cx : PyData.canLayAll0 xs = true) (cy : PyData.canLayAll0 ys = true) : dataLt (.tuple xs) (.tuple ys) = k := by
  rw [dataLt_tuple]
  cases e : PyData.eqvAll xs ys with
  | true =>
    rw [ltPs_eqv xs ys e] at h
    cases h
    rw [toksAll_of_eqv xs ys e cx cy, PyProof.Rows.lex_irrefl]
  | false =>
    have q := ltPs_toks xs ys k h e cx cy [] []
    rw [List.append_nil, List.append_nil] at q
    exact q

/-! ### a sort's comparison of tuples whose first items are numbers -/
section
variable {prog : Program} {w : World} {A : Around} {s : Shared}
theorem katLex_P {b fin : Bool} {Q : Bool → Shared → Prop} : ∀ (xs ys : List PyData) (k : Bool) (i : Nat) (vs ws : List Value) (as bs : List Addr), ReadsAll s.heap vs xs as → ReadsAll s.heap ws ys bs → PyData.canLayAll0 xs = true → PyData.canLayAll0 ys = true → ltPs xs ys = some k →
    A.units + min (PyData.depthAll xs) (PyData.depthAll ys) < cLine → (i = 0 → (∃ n r, xs = .int n :: r) ∧ ∃ n r, ys = .int n :: r) → fin = decide (xs.length < ys.length) → Q k s → PySem.W.KatLex prog w A b fin Q (vs.zip ws) i s
  | [], [], k, i, _, _, _, _, ra, rb, _, _, h, _, _, hf, hq => by
    cases ra; cases rb
    rw [ltPs] at h; cases h
    exact PySem.W.kat_nil (by rw [hf]; exact hq)
  | [], y :: ys, k, i, _, _, _, _, ra, rb, _, _, h, _, _, hf, hq => by
    cases ra
    rw [ltPs] at h; cases h
    rw [List.zip_nil_left]
    exact PySem.W.kat_nil (by rw [hf]; simpa using hq)
  | x :: xs, [], k, i, _, _, _, _, ra, rb, _, _, h, _, _, hf, hq => by
    cases rb
    rw [ltPs] at h; cases h
    rw [List.zip_nil_right]
    exact PySem.W.kat_nil (by rw [hf]; simpa using hq)
  | x :: xs, y :: ys, k, i, _, _, _, _, ra, rb, cx, cy, h, hu, h0, hf, hq => by
    have c1 : x.canLay0 = true ∧ PyData.canLayAll0 xs = true := by simpa [PyData.canLayAll0] using cx
    have c2 : y.canLay0 = true ∧ PyData.canLayAll0 ys = true := by simpa [PyData.canLayAll0] using cy
    rw [ltPs] at h
    have hf' : fin = decide (xs.length < ys.length) := by rw [hf]; simp only [List.length_cons, Nat.add_lt_add_iff_right]
    cases ra with
    | cons r rs =>
      cases rb with
      | cons r' rs' =>
        rw [List.zip_cons_cons]
        refine PySem.W.kat_cons (eqAt_reads x y A s _ _ _ _ r r' c1.1 c2.1 (room_head hu) prog w _ _ ?_)
        cases e : PyData.eqv x y with
        | true =>
          rw [if_pos e] at h
          exact PySem.W.kat_yes (katLex_P xs ys k (i + 1) _ _ _ _ rs rs' c1.2 c2.2 h (room_tail hu) (fun z => absurd z (Nat.succ_ne_zero i)) hf' hq)
        | false =>
          rw [if_neg (by rw [e]; exact Bool.false_ne_true)] at h
          refine PySem.W.kat_no ?_
          by_cases hi : i = 0
          · obtain ⟨⟨n1, r1, e1⟩, n2, r2, e2⟩ := h0 hi
            injection e1 with e1 _
            injection e2 with e2 _
            subst e1 e2
            rw [ltP] at h
            cases h
            exact oneLt_alike (fun _ xs z => by cases z) r r' rfl (by simp) (room_head hu) (by rw [dataLt_int]; exact hq)
          · have hb : (b && i == 0) = false := by rw [beq_eq_false_iff_ne.mpr hi, Bool.and_false]
            rw [hb]
            exact PySem.W.kat_one _ _ (rcLt_P x y k A s _ _ _ _ r r' c1.1 c2.1 h (room_head hu) prog w _ _ hq)
/-- keys that can be sorted: tuples that begin with a number, each two of which can be compared -/
structure KeysOk (ds : List PyData) : Prop where
  tup : ∀ d ∈ ds, ∃ n r, d = .tuple (.int n :: r)
  lay : ∀ d ∈ ds, d.canLay0 = true
  cmp : ∀ d ∈ ds, ∀ d' ∈ ds, (ltP d d').isSome = true
theorem kind_some {h : Heap} {ds : List PyData} (ok : KeysOk ds) {v : Value} {d : PyData} {as : List Addr} (hd : d ∈ ds) (r : Reads h v d as) : (dataKind h ds).keyOf v = some (keyToks d) := by
  have q : ∃ d, d ∈ ds ∧ ∃ as, Reads h v d as := ⟨d, hd, as, r⟩
  have e : (dataKind h ds).keyOf v = some (keyToks q.choose) := by
    show (open Classical in if q : ∃ d, d ∈ ds ∧ ∃ as, Reads h v d as then some (keyToks q.choose) else none) = _
    rw [dif_pos q]
  obtain ⟨k1, as', k2⟩ := q.choose_spec
  rw [e, Reads.unique _ _ _ _ _ (ok.lay _ k1) k2 r]
theorem sortsAt_P {vs : List Value} {ds : List PyData} (e : EachIs (fun v d => ∃ as, Reads s.heap v d as) vs ds) (ok : KeysOk ds) (hu : ∀ d, d ∈ ds → A.units + d.depth < cLine) : SortsAt prog w A s (dataKind s.heap ds) vs := by
  have room : ∀ {d d' : PyData}, d ∈ ds → A.units + min d.depth d'.depth < cLine := fun {d d'} hd => Nat.lt_of_le_of_lt (Nat.add_le_add_left (Nat.min_le_left _ _) _) (hu d hd)
  refine ⟨fun v hv => ?_, ?_⟩
  · obtain ⟨d, hd, as, r⟩ := e.left v hv
    exact ⟨_, kind_some ok hd r⟩
  · refine ⟨PyProof.Rows.tuples' true, ?_, fun h2 E Q hq => ?_⟩
    · intro E x y a b Q ha hb hq
      obtain ⟨d, as, hd, ra, rfl⟩ := dataKind_inv ha
      obtain ⟨d', as', hd', rb, rfl⟩ := dataKind_inv hb
      have hroom := room (d' := d') hd
      obtain ⟨n1, r1, rfl⟩ := ok.tup d hd
      obtain ⟨n2, r2, rfl⟩ := ok.tup d' hd'
      have c1 : PyData.canLayAll0 (.int n1 :: r1) = true := by simpa [PyData.canLay0] using ok.lay _ hd
      have c2 : PyData.canLayAll0 (.int n2 :: r2) = true := by simpa [PyData.canLay0] using ok.lay _ hd'
      obtain ⟨k, hk⟩ := Option.isSome_iff_exists.mp (ok.cmp _ hd _ hd')
      rw [ltP] at hk
      have hq' : Q (dataLt (.tuple (.int n1 :: r1)) (.tuple (.int n2 :: r2))) s := hq
      rw [lt_tup_toks hk c1 c2] at hq'
      cases ra with
      | @tuple l o xs n _ _ g1 g2 g3 g4 =>
        cases rb with
        | @tuple l' o' xs' n' _ _ k1 k2 k3 k4 =>
          have s1 : xs.size = (PyData.int n1 :: r1).length := by simpa using ReadsAll.length _ _ _ g4
          have s2 : xs'.size = (PyData.int n2 :: r2).length := by simpa using ReadsAll.length _ _ _ k4
          exact PySem.W.kat_lt g1 g3 k1 k3 (katLex_P _ _ k 0 _ _ _ _ g4 k4 c1 c2 hk (by have q := room_in hroom; omega) (fun _ => ⟨⟨n1, r1, rfl⟩, n2, r2, rfl⟩) (by rw [s1, s2]) hq')
    · have ht : ∀ d, d ∈ ds → ∃ x r, d = .tuple (x :: r) := fun d hd => let ⟨n, r, q⟩ := ok.tup d hd; ⟨_, r, q⟩
      obtain ⟨fs, t1, t2, t3⟩ := each_katTups e ht
      have hq' : Q (PyProof.Rows.tuples' (Value.type "int" != Value.type "tuple")) s := hq
      refine PySem.W.kat_kind (T := Value.type "int") t1 (by omega) (fun f hf => ?_) (beq_self_eq_true _) hq'
      obtain ⟨x, r, as, m1, m2⟩ := t3 f hf
      obtain ⟨n, r', q⟩ := ok.tup _ m1
      injection q with q
      injection q with q _
      subst q
      exact looks_reads m2
end
end ML

set_option Elab.async false
set_option linter.all false
set_option maxRecDepth 100000
set_option autoImplicit false
namespace ML
open PySem L2
/-! ### sorted(xs, key=f), f a def of our own -/
def keysM (F : List D → M D) : List D → M (List D)
  | [] => pure []
  | d :: r => F [d] >>= fun k => keysM F r >>= fun ks => pure (k :: ks)
def headInt : D → Bool
  | .tup (.int _ :: _) => true
  | _ => false
def okKeys (ks : List D) : Bool := (ks.all fun k => headInt k && okD k) && ks.all fun a => ks.all fun b => (ltP (toP a) (toP b)).isSome
def leK (p q : D × D) : Bool := !PySem.W.dataLt (toP q.1) (toP p.1)
def sortK (F : List D → M D) (ds : List D) : M (List D) := fun h => match keysM F ds h with
  | none => none
  | some (ks, h1) => if okKeys ks = true ∧ ds.length ≤ sizeLine then some (((ks.zip ds).mergeSort leK).map (·.2), h1) else none
theorem keysM_len {F : List D → M D} : ∀ {ds ks : List D} {h h1 : Hm}, keysM F ds h = some (ks, h1) → ks.length = ds.length
  | [], ks, h, h1, e => by obtain ⟨e1, _⟩ := pure_some e; subst e1; rfl
  | d :: ds, ks, h, h1, e => by
    obtain ⟨k, h2, _, e2⟩ := bind_some e
    obtain ⟨r, h3, e3, e4⟩ := bind_some e2
    obtain ⟨e5, _⟩ := pure_some e4
    subst e5
    rw [List.length_cons, List.length_cons, keysM_len e3]
theorem headInt_of {d : D} (h : headInt d = true) : ∃ n r, toP d = .tuple (.int n :: r) := by
  unfold headInt at h
  split at h
  · exact ⟨_, _, rfl⟩
  · cases h
theorem keysOk_of {ks : List D} (h : okKeys ks = true) : KeysOk (ks.map toP) := by
  unfold okKeys at h
  rw [Bool.and_eq_true, List.all_eq_true, List.all_eq_true] at h
  refine ⟨fun d hd => ?_, fun d hd => ?_, fun d hd d' hd' => ?_⟩
  · obtain ⟨k, hk, e⟩ := List.mem_map.mp hd
    subst e
    have := h.1 k hk
    rw [Bool.and_eq_true] at this
    exact headInt_of this.1
  · obtain ⟨k, hk, e⟩ := List.mem_map.mp hd
    subst e
    have := h.1 k hk
    rw [Bool.and_eq_true] at this
    exact okD_lay this.2
  · obtain ⟨k, hk, e⟩ := List.mem_map.mp hd
    obtain ⟨k', hk', e'⟩ := List.mem_map.mp hd'
    subst e e'
    exact List.all_eq_true.mp (h.2 k hk) k' hk'
section
variable {X : Cx} {k : Nat} {f : Addr} {fd : FuncData} {ps : List Str} {F : List D → M D} {pins : List (Addr × Obj)} {σ : St} {H : Hp} {s : Shared} {ι : List Addr} {h h1 : Hm}
theorem key_turn {d kd : D} {x : V} {u : Value} (G : FnOk X.prog X.w X.K X.mg X.base CX0 k f fd ps (spM (tx X) 1 F)) (hr : Room (k + 2) X.A) (hb : Binds X.K fd ps []) (hl : ps.length = 1) (I : Inv X pins σ H s) (r : Rl (tx X) ι H h) (q : RV (tx X) ι H d x) (rx : RelV x u) (e : F [d] h = some (kd, h1)) :
    wpAny (model X.prog X.w) X.A.in1.in1 (call (.ref f) [u]) (fun v s' => ∃ y H1 ι1, Inv X pins σ H1 s' ∧ RelV y v ∧ Ex ι H ι1 H1 ∧ Rl (tx X) ι1 H1 h1 ∧ RV (tx X) ι1 H1 kd y) (fun _ _ => False) s := by
  have hB := hb s [u] I.kIn (by rw [List.append_nil, hl]; rfl)
  rw [List.append_nil] at hB
  refine wpAny_call (codeAny_mono (G.run X.A.in1.in1 X.stack s H ⟨[u], []⟩ [u] [x] (fun y H1 => ∃ ι1, Ex ι H ι1 H1 ∧ Rl (tx X) ι1 H1 h1 ∧ RV (tx X) ι1 H1 kd y) E0 hr.in1.in1 I.env0.in1.in1 hB (.cons rx .nil) ⟨ι, h, [d], kd, h1, rfl, r, by rw [RVs]; exact ⟨x, [], rfl, q, by rw [RVs]⟩, e, fun ι1 H1 v x1 r1 q1 => ⟨ι1, x1, r1, q1⟩⟩) fun r s' hq => ?_)
  cases r with
  | error e => exact False.elim hq
  | ok fl =>
    cases fl with
    | ret v =>
      obtain ⟨y, H1, I1, ry, ι1, x1, r1, q1⟩ := I.after hq
      exact ⟨y, H1, ι1, I1, ry, x1, r1, q1⟩
    | next => exact False.elim hq
    | brk => exact False.elim hq
    | cont => exact False.elim hq
theorem each_reads (I : Inv X pins σ H s) : ∀ {ks : List D} {kvs : List V} {us : List Value}, RVs (tx X) ι H ks kvs → Vals kvs us → (∀ k ∈ ks, okD k = true) → PySem.W.EachIs (fun v d => ∃ as, Reads s.heap v d as) us (ks.map toP)
  | [], kvs, us, q, r, _ => by
    rw [RVs] at q; subst q; cases r
    exact .nil
  | d :: ks, kvs, us, q, r, ok => by
    rw [RVs] at q
    obtain ⟨x, s', e, q1, q2⟩ := q
    subst e
    cases r with
    | cons r1 r2 => exact .cons (Dp.reads I (toP d) x _ (dp_of d x q1 (okD_lay (ok d List.mem_cons_self))) r1) (each_reads I q2 r2 fun k hk => ok k (List.mem_cons_of_mem _ hk))
theorem each_zip : ∀ {ks ds : List D} {xs : List V} {us : List Value}, RVs (tx X) ι H ds xs → Vals xs us → ks.length = ds.length → PySem.W.EachIs (fun v (b : D × D) => ∃ x, RelV x v ∧ RV (tx X) ι H b.2 x) us (ks.zip ds)
  | ks, [], xs, us, q, r, _ => by
    rw [RVs] at q; subst q; cases r
    rw [List.zip_nil_right]
    exact .nil
  | [], d :: ds, xs, us, q, r, e => by cases e
  | k :: ks, d :: ds, xs, us, q, r, e => by
    rw [RVs] at q
    obtain ⟨x, s', e1, q1, q2⟩ := q
    subst e1
    cases r with
    | cons r1 r2 => exact .cons ⟨x, r1, q1⟩ (each_zip q2 r2 (by simpa using e))
theorem each_keys {hp : Heap} {ks0 : List D} (ok : KeysOk (ks0.map toP)) : ∀ {ks ds : List D} {us : List Value}, PySem.W.EachIs (fun v d => ∃ as, Reads hp v d as) us (ks.map toP) → ks.length = ds.length → (∀ k ∈ ks, k ∈ ks0) →
    PySem.W.EachIs (fun v (b : D × D) => (PySem.W.dataKind hp (ks0.map toP)).keyOf v = some (PySem.W.keyToks (toP b.1))) us (ks.zip ds)
  | [], ds, us, e, _, _ => by cases e; exact .nil
  | k :: ks, [], us, e, l, _ => by cases l
  | k :: ks, d :: ds, us, e, l, m => by
    cases e with
    | cons e1 e2 =>
      obtain ⟨as, e1⟩ := e1
      exact .cons (kind_some ok (List.mem_map.mpr ⟨k, m k List.mem_cons_self, rfl⟩) e1) (each_keys ok e2 (by simpa using l) fun k' h' => m k' (List.mem_cons_of_mem _ h'))
theorem each_out : ∀ {us : List Value} {bs : List (D × D)}, PySem.W.EachIs (fun v (b : D × D) => ∃ x, RelV x v ∧ RV (tx X) ι H b.2 x) us bs → ∃ ys : List V, Vals ys us ∧ RVs (tx X) ι H (bs.map (·.2)) ys
  | _, _, .nil => ⟨[], .nil, by show RVs _ _ _ [] []; rw [RVs]⟩
  | _, _, .cons ⟨x, rx, qx⟩ t => by
    obtain ⟨ys, v, q⟩ := each_out t
    refine ⟨x :: ys, .cons rx v, ?_⟩
    rw [List.map_cons, RVs]
    exact ⟨x, ys, rfl, qx, q⟩
theorem sortK_run {ds out : List D} {xs : List V} {l : Addr} {Q : VK} (G : FnOk X.prog X.w X.K X.mg X.base CX0 k f fd ps (spM (tx X) 1 F)) (hr : Room (k + 2) X.A) (hb : Binds X.K fd ps []) (hl : ps.length = 1) (I : Inv X pins σ H s) (r : Rl (tx X) ι H h) (sq : SqL X.K H l xs) (q : RVs (tx X) ι H ds xs)
    (e : sortK F ds h = some (out, h1)) (fin : ∀ ι1 H1 a ys, Ex ι H ι1 H1 → Rl (tx X) ι1 H1 h1 → H a = none → a ∉ ι1 → H1 a = some (.lst ys) → RVs (tx X) ι1 H1 out ys → Q (.ref a) H1) :
    wpAny (model X.prog X.w) X.A (call (.builtin "sorted") [.ref l] [(Str.ofString "key", .ref f)]) (EP X pins σ Q) X.xe s := by
  obtain ⟨its, rv, pl, hz⟩ := I.list sq
  have hil : its.length = ds.length := by rw [← rv.length, q.length]
  have hL : its.length ≤ sizeLine := by rw [← rv.length]; exact hz
  unfold sortK at e
  cases qk : keysM F ds h with
  | none => rw [qk] at e; cases e
  | some kp =>
    obtain ⟨ks, hK⟩ := kp
    rw [qk] at e
    by_cases hc : okKeys ks = true ∧ ds.length ≤ sizeLine
    · simp only [if_pos hc] at e
      obtain ⟨eo, eh⟩ := some_pair e
      subst eo eh
      have hkl := keysM_len qk
      refine PySem.W.sorted_of_sort pl.isList hL (PyProof.Rows.ksk_s1 _ _) (fun _ => PyProof.Rows.ksk_l1 _ _) fun E' => ?_
      rw [PyProof.Rows.ksk_t1]
      generalize ea : s.heap.objs.size + 1 = a
      have ha1 : s.heap.objs.size ≤ a := by omega
      have ho : (PySem.W.copyHeap s.heap its).get? a = some (PyProof.Rows.seqObj "list" its.toArray 0) := by rw [← ea]; exact PySem.W.copyHeap_at s.heap its
      obtain ⟨e1, ho1⟩ : ∃ e1, ((PySem.W.copyHeap s.heap its).update a (Obj.mapSeq fun _ => (#[] : Array Value))).get? a = some (PyProof.Rows.seqObj "list" #[] e1) := ⟨_, PyProof.Rows.get?_update_seq ho fun _ => #[]⟩
      unfold PyProof.Rows.ksk_tree
      refine wpAny_bind (PyProof.Rows.listItems_at ho rfl ?_)
      refine wpAny_bind (PyProof.Rows.listUpdate_at ho rfl ?_ (by rw [List.size_toArray]; exact hL) (Nat.zero_le _))
      refine wpAny_bind (PyProof.Rows.seqEpoch_at ho1 rfl ?_)
      refine wpAny_bind (wpAny_newTuple ?_ (by show its.length ≤ _; exact hL))
      refine wpAny_bind (wpAny_newList ?_ (Nat.zero_le _))
      refine wpAny_holding ?_
      generalize ehp : ((PySem.W.copyHeap s.heap its).update a (Obj.mapSeq fun _ => (#[] : Array Value))).push { cls := .type "tuple", data := .seq its.toArray.toList.toArray } = hp1
      have hp1sz : s.heap.objs.size ≤ hp1.objs.size ∧ a < hp1.objs.size := by
        have z : a < (PySem.W.copyHeap s.heap its).objs.size := Heap.lt_size ho
        rw [← ehp, Heap.size_push, Heap.size_update]
        exact ⟨Nat.le_succ_of_le (Nat.le_of_lt (Nat.lt_of_le_of_lt ha1 z)), Nat.lt_succ_of_lt z⟩
      have keep0 : ∀ b o, s.heap.get? b = some o → hp1.get? b = some o := fun b o eb => by
        rw [← ehp]
        refine Heap.get?_push_of_some _ ?_
        rw [Heap.get?_update_ne _ _ _ _ (Nat.ne_of_lt (Nat.lt_of_lt_of_le (Heap.lt_size eb) ha1))]
        exact PySem.W.copyHeap_old eb
      generalize ekS : hp1.objs.size = kS
      have hkS : (hp1.push { cls := .type "list", data := .seq ([] : List Value).toArray }).get? kS = some (PyProof.Rows.seqObj "list" #[] 0) := by rw [← ekS]; exact Heap.get?_push_size _ rfl
      have hka : kS ≠ a := by omega
      have hA2 : (hp1.push { cls := .type "list", data := .seq ([] : List Value).toArray }).get? a = some (PyProof.Rows.seqObj "list" #[] e1) := Heap.get?_push_of_some _ (by rw [← ehp]; exact Heap.get?_push_of_some _ ho1)
      have I1 : Inv X pins σ H { s with heap := hp1.push { cls := .type "list", data := .seq ([] : List Value).toArray } } := I.kept (t' := s.toks) fun b o eb => Heap.get?_push_of_some _ (keep0 b o eb)
      have fA := fun H1 => I.fpOk (b := a) (H' := H1) ha1
      have fK := fun H1 => I.fpOk (b := kS) (H' := H1) (by omega)
      have hHa : H a = none := I.hok.fresh ha1
      have hHk : H kS = none := I.hok.fresh (by omega)
      unfold PyProof.Rows.ksk_rest
      refine wpAny_bind (wpAny_rule ?_)
      rw [List.forIn_toArray]
      refine wpAny_bind (PyProof.Rows.ksk_fold (fun i s' => ∃ ι1 H1 h2 kA n kds kvs rest, Inv X pins σ H1 s' ∧ Ex ι H ι1 H1 ∧ Rl (tx X) ι1 H1 h2 ∧ s'.heap.get? kS = some (PyProof.Rows.seqObj "list" kA n) ∧ s'.heap.get? a = some (PyProof.Rows.seqObj "list" #[] e1) ∧ H1 kS = none ∧ H1 a = none ∧
        Vals kvs kA.toList ∧ RVs (tx X) ι1 H1 kds kvs ∧ kds.length = i ∧ keysM F (ds.drop i) h2 = some (rest, hK) ∧ ks = kds ++ rest) its 0 _
        ⟨ι, H, h, #[], 0, [], [], ks, I1, Ex.refl _ _, r, hkS, hA2, hHk, hHa, .nil, by rw [RVs], rfl, by simpa using qk, rfl⟩ ?step ?done)
      case step =>
        rintro j x s' hx ⟨ι1, H1, h2, kA, n, kds, kvs, rest, I2, x2, r2, nk, na, nk0, na0, vk, rk, lk, ek, eks⟩
        simp only [Nat.zero_add] at lk ek ⊢
        have hj : j < ds.length := by rw [← hil]; exact (List.getElem?_eq_some_iff.mp hx).1
        rw [List.drop_eq_getElem_cons hj] at ek
        obtain ⟨kd, h3, ek1, ek2⟩ := bind_some ek
        obtain ⟨rest', h4, ek3, ek4⟩ := bind_some ek2
        obtain ⟨ek5, ek6⟩ := pure_some ek4
        subst ek5 ek6
        obtain ⟨xv, exv, qxv⟩ := q.get (List.getElem?_eq_getElem hj)
        obtain ⟨u, eu, ru⟩ := rv.get exv
        rw [hx] at eu; cases eu
        have I2p : Inv X (pins ++ [(kS, PyProof.Rows.seqObj "list" kA n), (a, PyProof.Rows.seqObj "list" #[] e1)]) σ H1 s' := I2.pins_of fun p hp => by
          rcases List.mem_append.mp hp with hp | hp
          · exact I2.pin p (List.mem_append_right _ hp)
          · obtain ⟨f0, f1, f2, _⟩ := fA H1 na0
            obtain ⟨g0, g1, g2, _⟩ := fK H1 nk0
            rcases List.mem_cons.mp hp with z | z
            · subst z; exact ⟨nk, nk0, g1, g2, fun v z => by cases z⟩
            · rw [List.mem_singleton.mp z]; exact ⟨na, na0, f1, f2, fun v z => by cases z⟩
        refine wpAny_bind (wpAny_attempt (wpAny_mono (key_turn G hr hb hl I2p r2 (qxv.up (x2.up r) _ _) ru ek1) (fun v s'' he => ?_) fun _ _ hF => hF.elim))
        obtain ⟨y, H3, ι3, I3, ry, x3, r3, qy⟩ := he
        obtain ⟨pk1, pk2, _⟩ := I3.pin (kS, PyProof.Rows.seqObj "list" kA n) (List.mem_append_right _ (List.mem_append_right _ (by simp)))
        obtain ⟨pa1, pa2, _⟩ := I3.pin (a, PyProof.Rows.seqObj "list" #[] e1) (List.mem_append_right _ (List.mem_append_right _ (by simp)))
        obtain ⟨g0, g1, g2, g3, g4, g5⟩ := fK H3 pk2
        have hkz : kA.size ≤ sizeLine := by
          have z1 := vk.length
          have z2 : kA.toList.length = kA.size := Array.length_toList
          have z3 := rk.length
          omega
        have sb := Heap.SameBut.update s''.heap kS (Obj.mapSeq (·.push v))
        obtain ⟨c2, hc2⟩ : ∃ c2, (s''.heap.update kS (Obj.mapSeq (·.push v))).get? kS = some (PyProof.Rows.seqObj "list" (kA.push v) c2) := ⟨_, PyProof.Rows.get?_update_seq pk1 (·.push v)⟩
        refine wpAny_bind (PyProof.Rows.listUpdate_at pk1 rfl ?_ hkz (by rw [Array.size_push]; omega))
        refine wpAny_pure ⟨rfl, ι3, H3, h3, kA.push v, c2, kds ++ [kd], kvs ++ [y], rest', ?_, x2.trans r2 x3, r3, hc2, (sb.2 a hka.symm).trans pa1, pk2, pa2, ?_, RVs.append (RVs.up (x3.up r2) _ _ rk) ?_, by rw [List.length_append, lk]; rfl, ek3, by rw [eks, List.append_assoc]; rfl⟩
        · exact (I3.unpinned).turned (it := kS) (t' := s''.toks) (fun b o hb' eb => (sb.2 b hb').trans eb) pk2 g1 g3 g4 g5
        · rw [Array.toList_push]
          exact vk.append (.cons ry .nil)
        · rw [RVs]
          exact ⟨y, [], rfl, qy, by rw [RVs]⟩
      case done =>
        rintro s' ⟨ι1, H1, h2, kA, n, kds, kvs, rest, I2, x2, r2, nk, na, nk0, na0, vk, rk, lk, ek, eks⟩
        rw [List.drop_of_length_le (by omega)] at ek
        obtain ⟨ek1, ek2⟩ := pure_some ek
        subst ek1 ek2
        rw [List.append_nil] at eks
        subst eks
        have okk : ∀ k ∈ ks, okD k = true := fun k hk => by
          have := hc.1
          unfold okKeys at this
          rw [Bool.and_eq_true, List.all_eq_true] at this
          have := this.1 k hk
          rw [Bool.and_eq_true] at this
          exact this.2
        have hrd := each_reads I2 rk vk okk
        have hK2 := keysOk_of hc.1
        have hkz : kA.size = its.length := by
          have z1 := vk.length
          have z2 : kA.toList.length = kA.size := Array.length_toList
          have z3 := rk.length
          omega
        have kp : PySem.W.KeepsBut a (PySem.W.hideAll s'.heap [kS]) s'.heap := fun b o _ eb => PySem.W.of_hideAll _ eb
        have hun : ∀ d, d ∈ ks.map toP → X.A.in1.in1.units + d.depth < cLine := fun d hd => by
          obtain ⟨kk, hk, ed⟩ := List.mem_map.mp hd
          subst ed
          have z := SeqAt.depth_of_shaped (okk kk hk)
          have z2 := hr.un
          show X.A.units + 1 + 1 + _ < cLine
          omega
        refine wpAny_bind (PyProof.Rows.listItems_at nk rfl ?_)
        refine PySem.W.keyH_end (κ := PySem.W.dataKind s'.heap (ks.map toP)) kp (PySem.W.hideAll_none _ (by simp)) nk na hka (sortsAt_P hrd hK2 hun) hkz hL fun h' tk c kb na2 => ?_
        have hout := PySem.W.sortVals_each (κ := PySem.W.dataKind s'.heap (ks.map toP)) (rev := false) (fun b : D × D => PySem.W.keyToks (toP b.1)) (each_zip (ks := ks) (RVs.up (x2.up r) _ _ q) rv hkl) (each_keys hK2 hrd hkl fun _ z => z)
        have hle : PySem.W.sortLe (PySem.W.dataKind s'.heap (ks.map toP)).toKeyOrd false (fun b : D × D => PySem.W.keyToks (toP b.1)) = leK := rfl
        rw [hle] at hout
        obtain ⟨ys, vy, ry⟩ := each_out hout
        have keep : ∀ b o, b ≠ a → b ≠ kS → s'.heap.get? b = some o → h'.get? b = some o := fun b o h1 h2 eb => kb b o h1 (PySem.W.hideAll_get _ eb (by simp [h2]))
        obtain ⟨f0, f1, f2, f3, f4, f5⟩ := fA H1 na0
        obtain ⟨g0, g1, g2, g3, g4, g5⟩ := fK H1 nk0
        have nia : a ∉ ι1 := fun m => by
          obtain ⟨u', e', _⟩ := r2.at m
          rw [na0] at e'; cases e'
        obtain ⟨x4, r4⟩ := r2.other (u := .lst ys) na0
        have hys : ys.length ≤ sizeLine := by
          rw [ry.length, List.length_map, List.length_mergeSort, List.length_zip, hkl, Nat.min_self]
          exact hc.2
        refine ⟨rfl, .ref a, upd H1 a (.lst ys), ?_, rfl, fin ι1 _ a ys (x2.trans r2 x4) r4 hHa nia upd_same (RVs.up (x4.up r2) _ _ ry)⟩
        refine I2.step (ch := [a, kS]) (g' := s'.gens) (d' := s'.drawn) (t' := tk) (fun b hb' => ?_) (fun b o _ _ hc' eb _ => keep b o (fun z => hc' (by simp [z])) (fun z => hc' (by simp [z])) eb) (fun b o _ _ hc' eb _ => ⟨o.slots, keep b o (fun z => hc' (by simp [z])) (fun z => hc' (by simp [z])) eb⟩)
          (fun b o hc' _ nb => by rw [upd_ne (fun z => hc' (by simp [z]))]; exact nb) (fun b o hc' eb => ⟨o, keep b o (fun z => hc' (by simp [z])) (fun z => hc' (by simp [z])) eb⟩) (fun b xs eb => by rw [upd_ne (ne_of_none eb na0)]; exact eb) (fun b o u eb => by rw [upd_ne (ne_of_none eb na0)]; exact eb)
          (fun b ps eb => ⟨#[], by rw [upd_ne (ne_of_none eb na0), eb]; simp⟩) (fun m hm => ?_) (fun b u eb => ?_) I2.bare
        · rcases List.mem_cons.mp hb' with z | z
          · subst z; exact ⟨f3, f1, f4, f5⟩
          · rw [List.mem_singleton.mp z]; exact ⟨g3, g1, g4, g5⟩
        · obtain ⟨o, es, ep, ho', r'⟩ := hm
          exact ⟨o, es, ep, keep _ o (Ne.symm f1) (Ne.symm g1) ho', r'⟩
        · by_cases hba : b = a
          · subst hba
            rw [upd_same] at eb
            cases eb
            exact ⟨hys, _, c, vy, na2⟩
          · rw [upd_ne hba] at eb
            refine (I2.hok b u eb).stay (fun c' v hc' qc => ?_) (fun c' qc => by rw [upd_ne (ne_of_none qc na0)]; exact qc) fun c' xs qc => by rw [upd_ne (ne_of_none qc na0)]; exact qc
            rcases hc' with z | z
            · subst z; exact keep _ v hba (ne_of_none eb nk0) qc
            · exact keep _ v (ne_of_none z na0) (ne_of_none z nk0) qc
    · simp only [if_neg hc] at e; cases e
def rSortKey (X : Cx) (f : Addr) (F : List D → M D) : List V → List V → Hp → VK → Prop := fun vs zs H Q => ∃ l xs ι h ds out h1, vs = [V.ref l] ∧ zs = [V.ref f] ∧ Rl (tx X) ι H h ∧ SqL X.K H l xs ∧ RVs (tx X) ι H ds xs ∧ sortK F ds h = some (out, h1) ∧
  ∀ ι1 H1 a ys, Ex ι H ι1 H1 → Rl (tx X) ι1 H1 h1 → H a = none → a ∉ ι1 → H1 a = some (.lst ys) → RVs (tx X) ι1 H1 out ys → Q (.ref a) H1
theorem c_sortKey (G : FnOk X.prog X.w X.K X.mg X.base CX0 k f fd ps (spM (tx X) 1 F)) (hr : Room (k + 2) X.A) (hb : Binds X.K fd ps []) (hl : ps.length = 1) : CallRK X (.builtin "sorted") [Str.ofString "key"] (rSortKey X f F) := by
  intro pins s σ H xs zs us ws Q I r rz h
  obtain ⟨l, ys, ι, h, ds, out, h1, rfl, rfl, r1, sq, q, e, fin⟩ := h
  obtain rfl := Vals.ref1 r
  obtain ⟨w1, rfl, e1⟩ := vals1 rz
  obtain rfl : w1 = Value.ref f := e1
  exact sortK_run G hr hb hl I r1 sq q e fin
/-- the items of a list -/
def listD (d : D) : M (List D) := fun h => match d with
  | .fro xs => some (xs, h)
  | .ref k => (match h[k]? with
    | some (.lst xs) => some (xs, h)
    | _ => none)
  | _ => none
theorem listD_sq {T : Tx} {d : D} {x : V} {xs : List D} (r : Rl T ι H h) (q : RV T ι H d x) (e : listD d h = some (xs, h1)) : ∃ a ys, x = .ref a ∧ SqL T.K H a ys ∧ RVs T ι H xs ys ∧ h = h1 := by
  cases d with
  | fro zs =>
    obtain ⟨e1, e2⟩ := some_pair e
    subst e1 e2
    rw [RV] at q
    obtain ⟨a, ys, ea, s, q⟩ := q
    exact ⟨a, ys, ea, s.sq, q, rfl⟩
  | ref kk =>
    rw [RV] at q
    obtain ⟨a, ha, ea⟩ := q
    have e : (match h[kk]? with | some (.lst xs) => some (xs, h) | _ => none) = some (xs, h1) := e
    cases q2 : h[kk]? with
    | none => rw [q2] at e; cases e
    | some o =>
      rw [q2] at e
      cases o with
      | lst zs =>
        obtain ⟨e1, e2⟩ := some_pair e
        subst e1 e2
        obtain ⟨ys, hy, q⟩ := r.obj kk a _ ha q2
        exact ⟨a, ys, ea, SqL.of hy, q, rfl⟩
      | _ => cases e
  | _ => cases e
def sortKM (F : List D → M D) (m : Sm → M D) : Sm → M (List D) := fun σ => m σ >>= fun d => listD d >>= fun ds => sortK F ds
def sortKL (F : List D → M D) (m : Sm → M (List D)) : Sm → M (List D) := fun σ => m σ >>= fun ds => sortK F ds
variable {e : Expr} {m : Sm → M D} {ms : Sm → M (List D)} {g : Str} {p p2 pos kpos : Pos}
theorem l_sortK (G : FnOk X.prog X.w X.K X.mg X.base CX0 k f fd ps (spM (tx X) 1 F)) (hr : Room (k + 2) X.A) (hb : Binds X.K fd ps []) (hl : ps.length = 1) (hg : Gl X "sorted") (hm : X.mg "sorted" = none) (he : PE X e (lf (tx X) m)) (hg2 : Gl X g) (hm2 : X.mg g = some (.ref f)) (hd2 : (g == ("__debug__" : Str)) = false := by decide)
    (h1 : backTo pos (starEach [e] X.env) = (false, eval e X.env) :: backTo pos (starEach [] X.env) := by rfl) (h0 : starEach [e] X.env = (false, eval e X.env) :: starEach [] X.env := by rfl) (h2 : (backTo pos (starEach [e] X.env)).any (·.1) = false := by rfl)
    (h3 : (backToKw pos (keywordEach [⟨some (Str.ofString "key"), .Name g p2, kpos⟩] X.env)).all (·.1.isSome) = true := by rfl) (h4 : (backToKw pos (keywordEach [⟨some (Str.ofString "key"), .Name g p2, kpos⟩] X.env)).any (·.1.isNone) = false := by rfl) (h5 : (backToKw pos (keywordEach [⟨some (Str.ofString "key"), .Name g p2, kpos⟩] X.env)).filterMap (·.1) = [Str.ofString "key"] := by rfl) :
    PE X (.Call (.Name "sorted" p) [e] [⟨some (Str.ofString "key"), .Name g p2, kpos⟩] pos) (lfL (tx X) (sortKM F m)) :=
  (pe_callBK (c_sortKey G hr hb hl) hg hm (by decide +kernel) (pa_cons he pa_nil h0) (pk_cons (pe_glob hg2 hm2 (v := .ref f) rfl hd2) pk_nil) (by decide) (by decide) h1 h2 h3 h4 h5).imp fun σ H Q q => by
  obtain ⟨ι, σm, h, d, h1, r, rs, e, k⟩ := q
  show lf (tx X) m σ H fun v H1 => rSortKey X f F [v] [.ref f] H1 Q
  refine lf_then r rs e (P := fun ι2 H2 => ∀ a xs, Rl (tx X) ι2 H2 h1 → H a = none → a ∉ ι2 → H2 a = some (.lst xs) → RVs (tx X) ι2 H2 d xs → Q (.ref a) H2) (fun ι2 H2 y a xs => k ι2 H2 a xs y) fun ι1 H1 x da h' x1 r1 rs1 q1 e1 k1 => ?_
  obtain ⟨ds, h'', e2, e3⟩ := bind_some e1
  obtain ⟨a, ys, ea, sq, qs, eh⟩ := listD_sq r1 q1 e2
  subst eh
  refine ⟨a, ys, ι1, h', ds, d, h1, by rw [ea], rfl, r1, sq, qs, e3, fun ι2 H2 b zs x2 r2 hb2 nb eb qb => k1 ι2 H2 x2 b zs r2 ?_ nb eb qb⟩
  cases q5 : H b with
  | none => rfl
  | some o =>
    by_cases hi : b ∈ ι
    · obtain ⟨s1, es1, _⟩ := (x1.trans r1 x2).pre
      exact absurd (by rw [es1]; exact List.mem_append_left _ hi) nb
    · have := x1.fr b o q5 hi
      rw [hb2] at this; cases this
theorem l_sortKL (G : FnOk X.prog X.w X.K X.mg X.base CX0 k f fd ps (spM (tx X) 1 F)) (hr : Room (k + 2) X.A) (hb : Binds X.K fd ps []) (hl : ps.length = 1) (hg : Gl X "sorted") (hm : X.mg "sorted" = none) (he : PE X e (lfL (tx X) ms)) (hg2 : Gl X g) (hm2 : X.mg g = some (.ref f)) (hd2 : (g == ("__debug__" : Str)) = false := by decide)
    (h1 : backTo pos (starEach [e] X.env) = (false, eval e X.env) :: backTo pos (starEach [] X.env) := by rfl) (h0 : starEach [e] X.env = (false, eval e X.env) :: starEach [] X.env := by rfl) (h2 : (backTo pos (starEach [e] X.env)).any (·.1) = false := by rfl)
    (h3 : (backToKw pos (keywordEach [⟨some (Str.ofString "key"), .Name g p2, kpos⟩] X.env)).all (·.1.isSome) = true := by rfl) (h4 : (backToKw pos (keywordEach [⟨some (Str.ofString "key"), .Name g p2, kpos⟩] X.env)).any (·.1.isNone) = false := by rfl) (h5 : (backToKw pos (keywordEach [⟨some (Str.ofString "key"), .Name g p2, kpos⟩] X.env)).filterMap (·.1) = [Str.ofString "key"] := by rfl) :
    PE X (.Call (.Name "sorted" p) [e] [⟨some (Str.ofString "key"), .Name g p2, kpos⟩] pos) (lfL (tx X) (sortKL F ms)) :=
  (pe_callBK (c_sortKey G hr hb hl) hg hm (by decide +kernel) (pa_cons he pa_nil h0) (pk_cons (pe_glob hg2 hm2 (v := .ref f) rfl hd2) pk_nil) (by decide) (by decide) h1 h2 h3 h4 h5).imp fun σ H Q q => by
  obtain ⟨ι, σm, h, d, h1, r, rs, e, k⟩ := q
  show lfL (tx X) ms σ H fun v H1 => rSortKey X f F [v] [.ref f] H1 Q
  refine lfL_then r rs e (P := fun ι2 H2 => ∀ a xs, Rl (tx X) ι2 H2 h1 → H a = none → a ∉ ι2 → H2 a = some (.lst xs) → RVs (tx X) ι2 H2 d xs → Q (.ref a) H2) (fun ι2 H2 y a xs => k ι2 H2 a xs y) fun ι1 H1 a ys ds h' x1 r1 rs1 ha na ea q1 e1 k1 => ?_
  refine ⟨a, ys, ι1, h', ds, d, h1, rfl, rfl, r1, SqL.of ea, q1, e1, fun ι2 H2 b zs x2 r2 hb2 nb eb qb => k1 ι2 H2 x2 b zs r2 ?_ nb eb qb⟩
  cases q5 : H b with
  | none => rfl
  | some o =>
    by_cases hi : b ∈ ι
    · obtain ⟨s1, es1, _⟩ := (x1.trans r1 x2).pre
      exact absurd (by rw [es1]; exact List.mem_append_left _ hi) nb
    · have := x1.fr b o q5 hi
      rw [hb2] at this; cases this
end
end ML

set_option Elab.async false
set_option linter.all false
set_option maxRecDepth 100000
set_option autoImplicit false
namespace ML
open PySem L2
/-- nothing is promised of what is never called -/
theorem fn_none {P : Program} {w : World} {K : PySem.W.Frag} {mg : Str → Option Value} {base : Heap} {k : Nat} {f : Addr} {fd : FuncData} {ps : List Str} {T : Tx} {n : Nat} : FnOk P w K mg base CX0 k f fd ps (spM T n fun _ => M.bad) := by
  have no : ∀ vs H Q E, ¬ spM T n (fun _ => M.bad) vs H Q E := fun vs H Q E h => by
    obtain ⟨_, _, _, _, _, _, _, _, e, _⟩ := h
    cases e
  exact ⟨fun vs H Q E h => absurd h (no vs H Q E), fun A outer s H args us vs Q E _ _ _ _ h => absurd h (no vs H Q E)⟩
/-- what a law promises: True for each list of at most 63 numbers -/
def spLawM (K : PySem.W.Frag) : Sp := fun vs H Q _ => ∃ (a : Addr) (ns : List Int), vs = [.ref a] ∧ Only H ∧ SqL K H a (ns.map V.int) ∧ ns.length ≤ 63 ∧ ∀ H', Q (.bl true) H'
theorem ints_RVs {T : Tx} {ι : List Addr} {H : Hp} : ∀ ns : List Int, RVs T ι H (ns.map D.int) (ns.map V.int)
  | [] => by show RVs T ι H [] []; rw [RVs]
  | n :: ns => by
    show RVs T ι H (.int n :: ns.map D.int) (.int n :: ns.map V.int)
    rw [RVs]
    exact ⟨_, _, rfl, by rw [RV], ints_RVs ns⟩
theorem law_in {T : Tx} {F : List D → M D} (hF : ∀ ns : List Int, ns.length ≤ 63 → ∃ h1, F [.fro (ns.map .int)] [] = some (.bl true, h1)) : ∀ vs H Q E, spLawM T.K vs H Q E → spM T 1 F vs H Q E := by
  intro vs H Q E h
  obtain ⟨a, ns, rfl, hO, hS, hl, q⟩ := h
  obtain ⟨h1, e⟩ := hF ns hl
  refine ⟨[], [], [.fro (ns.map .int)], .bl true, h1, rfl, ⟨rfl, List.nodup_nil, fun i a o e1 _ => by simp at e1⟩, ?_, e, fun ι1 H1 v _ _ rv => ?_⟩
  · rw [RVs]
    refine ⟨_, [], rfl, ?_, by rw [RVs]⟩
    rw [RV]
    refine ⟨a, _, rfl, ?_, ints_RVs ns⟩
    rcases hS with (hS | ⟨o, hS⟩) | hS
    · rcases hO a with z | ⟨o, xs, z⟩
      · rw [z] at hS; cases hS
      · rw [z] at hS; cases hS
    · exact .inl ⟨o, hS⟩
    · exact .inr hS
  · rw [RV] at rv
    subst rv
    exact q H1
end ML

set_option Elab.async false
set_option linter.all false
set_option maxRecDepth 100000
set_option autoImplicit false
namespace ML
open PySem L2
/-! ### the numbers that a law draws of its script -/
def stD (c : Nat) (a l m : Int) : O := .dic [(.str "cells", .ref c), (.str "at", .int a), (.str "left", .int l), (.str "mix", .int m)]
structure StA (k c : Nat) (cs : List Int) (h : Hm) : Prop where
  ex : ∃ a l m : Int, h[k]? = some (stD c a l m) ∧ 0 ≤ a ∧ 0 ≤ l
  ls : h[c]? = some (.lst (cs.map .int))
  nn : ∀ x ∈ cs, 0 ≤ x
/-- nothing of h but k is another one -/
def Fr (k : Nat) (h h1 : Hm) : Prop := h.length ≤ h1.length ∧ ∀ j, j < h.length → j ≠ k → h1[j]? = h[j]?
theorem Fr.refl (k : Nat) (h : Hm) : Fr k h h := ⟨Nat.le_refl _, fun _ _ _ => rfl⟩
theorem Fr.trans {k : Nat} {h h1 h2 : Hm} (a : Fr k h h1) (b : Fr k h1 h2) : Fr k h h2 := ⟨Nat.le_trans a.1 b.1, fun j hj n => (b.2 j (Nat.lt_of_lt_of_le hj a.1) n).trans (a.2 j hj n)⟩
theorem Fr.set (k : Nat) (h : Hm) (o : O) : Fr k h (h.set k o) := ⟨by rw [List.length_set]; exact Nat.le_refl _, fun j _ n => List.getElem?_set_ne (Ne.symm n)⟩
theorem Fr.push (k : Nat) (h : Hm) (o : List O) : Fr k h (h ++ o) := ⟨by simp, fun j hj _ => List.getElem?_append_left hj⟩
theorem getK_cells {c : D} {a l m : D} : getK [(.str "cells", c), (.str "at", a), (.str "left", l), (.str "mix", m)] (.str "cells") = some c := rfl
theorem getK_at {c : D} {a l m : D} : getK [(.str "cells", c), (.str "at", a), (.str "left", l), (.str "mix", m)] (.str "at") = some a := rfl
theorem getK_left {c : D} {a l m : D} : getK [(.str "cells", c), (.str "at", a), (.str "left", l), (.str "mix", m)] (.str "left") = some l := rfl
theorem getK_mix {c : D} {a l m : D} : getK [(.str "cells", c), (.str "at", a), (.str "left", l), (.str "mix", m)] (.str "mix") = some m := rfl
theorem put_at {c : D} {a l m v : D} : putKD [(.str "cells", c), (.str "at", a), (.str "left", l), (.str "mix", m)] (.str "at") v = [(.str "cells", c), (.str "at", v), (.str "left", l), (.str "mix", m)] := rfl
theorem put_left {c : D} {a l m v : D} : putKD [(.str "cells", c), (.str "at", a), (.str "left", l), (.str "mix", m)] (.str "left") v = [(.str "cells", c), (.str "at", a), (.str "left", v), (.str "mix", m)] := rfl
theorem put_mix {c : D} {a l m v : D} : putKD [(.str "cells", c), (.str "at", a), (.str "left", l), (.str "mix", m)] (.str "mix") v = [(.str "cells", c), (.str "at", a), (.str "left", l), (.str "mix", v)] := rfl
theorem kD_str (x : Str) : (kD (.str x)).isSome = true := rfl
section
variable {h : Hm} {k c : Nat} {a l m : Int}
theorem ix_cells (e : h[k]? = some (stD c a l m)) : ixD (.ref k) (.str "cells") h = some (.ref c, h) := by
  unfold ixD; dsimp only; rw [e]; rfl
theorem ix_at (e : h[k]? = some (stD c a l m)) : ixD (.ref k) (.str "at") h = some (.int a, h) := by
  unfold ixD; dsimp only; rw [e]; rfl
theorem ix_left (e : h[k]? = some (stD c a l m)) : ixD (.ref k) (.str "left") h = some (.int l, h) := by
  unfold ixD; dsimp only; rw [e]; rfl
theorem ix_mix (e : h[k]? = some (stD c a l m)) : ixD (.ref k) (.str "mix") h = some (.int m, h) := by
  unfold ixD; dsimp only; rw [e]; rfl
theorem st_at (e : h[k]? = some (stD c a l m)) (v : Int) : storeD (.ref k) (.str "at") (.int v) h = some (h.set k (stD c v l m)) := by
  unfold storeD; dsimp only; rw [e]; rfl
theorem st_left (e : h[k]? = some (stD c a l m)) (v : Int) : storeD (.ref k) (.str "left") (.int v) h = some (h.set k (stD c a v m)) := by
  unfold storeD; dsimp only; rw [e]; rfl
theorem st_mix (e : h[k]? = some (stD c a l m)) (v : Int) : storeD (.ref k) (.str "mix") (.int v) h = some (h.set k (stD c a l v)) := by
  unfold storeD; dsimp only; rw [e]; rfl
end
theorem eqD_int (i j : Int) : eqD (.int i) (.int j) = pure (.bl (decide (i = j))) := by
  unfold eqD
  rw [if_pos ⟨rfl, rfl⟩]
  rfl
theorem neD_int (i j : Int) : neD (.int i) (.int j) = pure (.bl (!decide (i = j))) := by
  unfold neD
  rw [if_pos ⟨rfl, rfl⟩]
  rfl
theorem ltD_int (i j : Int) : ltD (.int i) (.int j) = pure (.bl (decide (i < j))) := by
  unfold ltD
  rw [if_pos ⟨rfl, rfl⟩]
  rfl
noncomputable def startF : List D → M D := runB 2 (retS (dispM [((cM (.str "cells")), (newM (lcM (itV (gv 0)) (nameG 1) yesT (bcM absD (consA (bcM intD (consA (gv 1) nilA)) nilA)) [1]))), ((cM (.str "at")), (cM (.int 0))), ((cM (.str "left")), (cM (.int 0))), ((cM (.str "mix")), (op2M addD (cM (.int 7)) (bcM lenD (consA (gv 0) nilA))))]))
noncomputable def drawT : Sm → M Fl := (seqS (ifS (tvM (op2M (cmpD fun i j => decide (i > j)) (op2M ixD (gv 0) (cM (.str "left"))) (cM (.int 0)))) (seqS (setS 3 (op2M modD (bcM intD (consA (op2M ixD (gv 0) (cM (.str "left"))) nilA)) (gv 1)))
    (seqS (subS (op2M fdivD (op2M ixD (gv 0) (cM (.str "left"))) (gv 1)) (gv 0) (cM (.str "left")))
    (retS (gv 3)))) skipS)
    (seqS (subS (op2M modD (bcM intD (consA (op2M addD (op2M mulD (op2M ixD (gv 0) (cM (.str "mix"))) (cM (.int 48271))) (cM (.int 11))) nilA)) (cM (.int 2147483647))) (gv 0) (cM (.str "mix")))
    (retS (op2M modD (bcM intD (consA (op2M modD (bcM intD (consA (op2M addD (op2M mulD (op2M ixD (gv 0) (cM (.str "mix"))) (cM (.int 69621))) (cM (.int 5))) nilA)) (cM (.int 2147483629))) nilA)) (gv 1)))))
noncomputable def drawF : List D → M D := runB 4 (seqS (ifS (andT (tvM (op2M eqD (op2M ixD (gv 0) (cM (.str "left"))) (cM (.int 0)))) (tvM (op2M ltD (op2M ixD (gv 0) (cM (.str "at"))) (bcM lenD (consA (op2M ixD (gv 0) (cM (.str "cells"))) nilA))))) (seqS (setS 2 (op2M ixD (op2M ixD (gv 0) (cM (.str "cells"))) (op2M ixD (gv 0) (cM (.str "at")))))
    (seqS (subS (op2M addD (op2M ixD (gv 0) (cM (.str "at"))) (cM (.int 1))) (gv 0) (cM (.str "at")))
    (seqS (subS (op2M modD (bcM intD (consA (op2M addD (op2M addD (op2M mulD (op2M ixD (gv 0) (cM (.str "mix"))) (cM (.int 48271))) (gv 2)) (cM (.int 11))) nilA)) (cM (.int 2147483647))) (gv 0) (cM (.str "mix")))
    (seqS (ifS (tvM (op2M ltD (gv 2) (op2M powD (cM (.int 10)) (cM (.int 18))))) (retS (op2M modD (bcM intD (consA (gv 2) nilA)) (gv 1))) skipS)
    (subS (gv 2) (gv 0) (cM (.str "left"))))))) skipS) drawT)
noncomputable def pickF : List D → M D := runB 2 (retS (op2M ixD (gv 1) (callM drawF 2 (consA (gv 0) (consA (bcM lenD (consA (gv 1) nilA)) nilA)))))
noncomputable def isF : List D → M D := runB 2 (retS (andV (isiM "bool" (gv 0)) (op2M eqD (gv 0) (gv 1))))
/-- the words of a body, told away -/
theorem run_rt {n : Nat} {b : Sm → M Fl} {ds : List D} {h h1 : Hm} {d : D} (e : b (startM n ds) h = some (.rt d, h1)) : runB n b ds h = some (d, h1) := by
  unfold runB
  rw [bind_of e]
  rfl
theorem seq_nx {s t : Sm → M Fl} {σ σ1 : Sm} {h h1 : Hm} (e : s σ h = some (.nx σ1, h1)) : seqS s t σ h = t σ1 h1 := by
  unfold seqS
  rw [bind_of e]
theorem seq_rt {s t : Sm → M Fl} {σ : Sm} {h h1 : Hm} {d : D} (e : s σ h = some (.rt d, h1)) : seqS s t σ h = some (.rt d, h1) := by
  unfold seqS
  rw [bind_of e]
  rfl
theorem if_of {c : Sm → M Bool} {s t : Sm → M Fl} {σ : Sm} {h h1 : Hm} {b : Bool} (e : c σ h = some (b, h1)) : ifS c s t σ h = if b = true then s σ h1 else t σ h1 := by
  unfold ifS
  rw [bind_of e]
  cases b <;> rfl
theorem ret_of {m : Sm → M D} {σ : Sm} {h h1 : Hm} {d : D} (e : m σ h = some (d, h1)) : retS m σ h = some (.rt d, h1) := by
  unfold retS
  rw [bind_of e]
  rfl
theorem set_of {i : Nat} {m : Sm → M D} {σ : Sm} {h h1 : Hm} {d : D} (e : m σ h = some (d, h1)) : setS i m σ h = some (.nx (σ.set i (some d)), h1) := by
  unfold setS
  rw [bind_of e]
  rfl
theorem op2_of' {g : D → D → M D} {ma mb : Sm → M D} {σ : Sm} {h h1 h2 : Hm} {a b : D} (e : ma σ h = some (a, h1)) (e2 : mb σ h1 = some (b, h2)) : op2M g ma mb σ h = g a b h2 := by
  unfold op2M
  rw [bind_of e, bind_of e2]
theorem sub_of {mv mo mi : Sm → M D} {σ : Sm} {h h1 h2 h3 h4 : Hm} {v o i : D} (e : mv σ h = some (v, h1)) (e2 : mo σ h1 = some (o, h2)) (e3 : mi σ h2 = some (i, h3)) (e4 : storeD o i v h3 = some h4) : subS mv mo mi σ h = some (.nx σ, h4) := by
  unfold subS
  rw [bind_of e, bind_of e2]
  refine (bind_of e3).trans ?_
  show (storeD o i v h3).map _ = _
  rw [e4]
  rfl
theorem tv_of' {m : Sm → M D} {σ : Sm} {h h1 : Hm} {c : Bool} (e : m σ h = some (.bl c, h1)) : tvM m σ h = some (c, h1) := by
  unfold tvM
  rw [bind_of e]
  rfl
theorem bc1_of' {m : Sm → M D} {g : List D → M D} {σ : Sm} {h h1 : Hm} {d : D} (e : m σ h = some (d, h1)) : bcM g (consA m nilA) σ h = g [d] h1 := by
  unfold bcM consA
  rw [bind_app, bind_of e]
  rfl
section
variable {h : Hm} {k c : Nat} {cs : List Int} {b : Int} {a l m : Int}
theorem rd_st (e : h[k]? = some (stD c a l m)) {σ : Sm} (hσ : σ[0]? = some (some (.ref k))) :
      op2M ixD (gv 0) (cM (.str "left")) σ h = some (.int l, h) ∧ op2M ixD (gv 0) (cM (.str "at")) σ h = some (.int a, h) ∧ op2M ixD (gv 0) (cM (.str "cells")) σ h = some (.ref c, h) ∧ op2M ixD (gv 0) (cM (.str "mix")) σ h = some (.int m, h) ∧ gv 0 σ h = some (.ref k, h) := by
  have g0 : gv 0 σ h = some (.ref k, h) := by unfold gv; rw [hσ]; rfl
  exact ⟨(op2_of' g0 rfl).trans (ix_left e), (op2_of' g0 rfl).trans (ix_at e), (op2_of' g0 rfl).trans (ix_cells e), (op2_of' g0 rfl).trans (ix_mix e), g0⟩
theorem StA.put (s : StA k c cs h) (hkc : c ≠ k) (hk : k < h.length) (ha : 0 ≤ a) (hl : 0 ≤ l) : StA k c cs (h.set k (stD c a l m)) :=
  ⟨⟨a, l, m, List.getElem?_set_self hk, ha, hl⟩, by rw [List.getElem?_set_ne (Ne.symm hkc)]; exact s.ls, s.nn⟩
theorem mod_int {i j : Int} (hj : 0 < j) (h : Hm) : modD (.int i) (.int j) h = some (.int (i % j), h) := by
  show (if 0 < j then (pure (.int (i % j)) : M D) else M.bad) h = _
  rw [if_pos hj]
  rfl
theorem fdiv_int {i j : Int} (hj : 0 < j) (hj2 : j < 1073741824) (h : Hm) : fdivD (.int i) (.int j) h = some (.int (i / j), h) := by
  show (if 0 < j ∧ j < 1073741824 then (pure (.int (i / j)) : M D) else M.bad) h = _
  rw [if_pos ⟨hj, hj2⟩]
  rfl
theorem mul_int {i j : Int} (hj : -(2 ^ 64) < j ∧ j < 2 ^ 64) (h : Hm) : mulD (.int i) (.int j) h = some (.int (i * j), h) := by
  show (if (-(2 ^ 64) < i ∧ i < 2 ^ 64) ∨ (-(2 ^ 64) < j ∧ j < 2 ^ 64) then (pure (.int (i * j)) : M D) else M.bad) h = _
  rw [if_pos (.inr hj)]
  rfl
theorem drawT_ok (s : StA k c cs h) (e : h[k]? = some (stD c a l m)) (ha : 0 ≤ a) (hl : 0 ≤ l) (hb : 0 < b) (hb2 : b < 1073741824) (hkc : c ≠ k) (s2 s3 : Option D) : ∃ n h1, drawT [some (.ref k), some (.int b), s2, s3] h = some (.rt (.int n), h1) ∧ 0 ≤ n ∧ n < b ∧ StA k c cs h1 ∧ Fr k h h1 ∧ h1.length = h.length := by
  have hk : k < h.length := (List.getElem?_eq_some_iff.mp e).1
  obtain ⟨L, _, _, M1, _⟩ := rd_st (σ := [some (.ref k), some (.int b), s2, s3]) e rfl
  unfold drawT
  have c1 : tvM (op2M (cmpD fun i j => decide (i > j)) (op2M ixD (gv 0) (cM (.str "left"))) (cM (.int 0))) [some (.ref k), some (.int b), s2, s3] h = some (decide (l > 0), h) := tv_of' ((op2_of' L rfl).trans rfl)
  by_cases hp : l > 0
  · rw [decide_eq_true hp] at c1
    have e1 : setS 3 (op2M modD (bcM intD (consA (op2M ixD (gv 0) (cM (.str "left"))) nilA)) (gv 1)) [some (.ref k), some (.int b), s2, s3] h = some (.nx [some (.ref k), some (.int b), s2, some (.int (l % b))], h) :=
      set_of ((op2_of' ((bc1_of' L).trans rfl) rfl).trans (mod_int hb h))
    obtain ⟨L2, _, _, _, G2⟩ := rd_st (σ := [some (.ref k), some (.int b), s2, some (.int (l % b))]) e rfl
    have e2 : subS (op2M fdivD (op2M ixD (gv 0) (cM (.str "left"))) (gv 1)) (gv 0) (cM (.str "left")) [some (.ref k), some (.int b), s2, some (.int (l % b))] h = some (.nx [some (.ref k), some (.int b), s2, some (.int (l % b))], h.set k (stD c a (l / b) m)) :=
      sub_of ((op2_of' L2 rfl).trans (fdiv_int hb hb2 h)) G2 rfl (st_left e _)
    refine ⟨l % b, h.set k (stD c a (l / b) m), ?_, Int.emod_nonneg _ (by omega), Int.emod_lt_of_pos _ hb, s.put hkc hk ha (Int.ediv_nonneg hl (by omega)), Fr.set _ _ _, List.length_set⟩
    refine (seq_rt (d := .int (l % b)) ?_)
    rw [if_of c1, if_pos rfl, seq_nx e1, seq_nx e2]
    rfl
  · rw [decide_eq_false hp] at c1
    have e1 : subS (op2M modD (bcM intD (consA (op2M addD (op2M mulD (op2M ixD (gv 0) (cM (.str "mix"))) (cM (.int 48271))) (cM (.int 11))) nilA)) (cM (.int 2147483647))) (gv 0) (cM (.str "mix")) [some (.ref k), some (.int b), s2, s3] h = some (.nx [some (.ref k), some (.int b), s2, s3], h.set k (stD c a l ((m * 48271 + 11) % 2147483647))) := by
      refine sub_of ((op2_of' ((bc1_of' ((op2_of' ((op2_of' M1 rfl).trans (mul_int (by decide) h)) rfl).trans rfl)).trans rfl) rfl).trans (mod_int (by decide) h)) rfl rfl (st_mix e _)
    have e' : (h.set k (stD c a l ((m * 48271 + 11) % 2147483647)))[k]? = some (stD c a l ((m * 48271 + 11) % 2147483647)) := List.getElem?_set_self hk
    obtain ⟨_, _, _, M2, _⟩ := rd_st (σ := [some (.ref k), some (.int b), s2, s3]) e' rfl
    have e3 : retS (op2M modD (bcM intD (consA (op2M modD (bcM intD (consA (op2M addD (op2M mulD (op2M ixD (gv 0) (cM (.str "mix"))) (cM (.int 69621))) (cM (.int 5))) nilA)) (cM (.int 2147483629))) nilA)) (gv 1)) [some (.ref k), some (.int b), s2, s3] (h.set k (stD c a l ((m * 48271 + 11) % 2147483647)))
        = some (.rt (.int ((((m * 48271 + 11) % 2147483647) * 69621 + 5) % 2147483629 % b)), h.set k (stD c a l ((m * 48271 + 11) % 2147483647))) :=
      ret_of ((op2_of' ((bc1_of' ((op2_of' ((bc1_of' ((op2_of' ((op2_of' M2 rfl).trans (mul_int (by decide) _)) rfl).trans rfl)).trans rfl) rfl).trans (mod_int (by decide) _))).trans rfl) rfl).trans (mod_int hb _))
    refine ⟨((m * 48271 + 11) % 2147483647 * 69621 + 5) % 2147483629 % b, h.set k (stD c a l ((m * 48271 + 11) % 2147483647)), ?_, Int.emod_nonneg _ (by omega), Int.emod_lt_of_pos _ hb, s.put hkc hk ha hl, Fr.set _ _ _, List.length_set⟩
    rw [seq_nx (σ1 := [some (.ref k), some (.int b), s2, s3]) (h1 := h) (by rw [if_of c1, if_neg Bool.false_ne_true]; rfl), seq_nx e1, e3]
theorem tv_and {t u : Sm → M Bool} {σ : Sm} {h h1 : Hm} {c : Bool} (e : t σ h = some (c, h1)) : andT t u σ h = if c = true then u σ h1 else some (false, h1) := by
  unfold andT
  rw [bind_of e]
  cases c <;> rfl
theorem len_ref {xs : List D} {k : Nat} {h : Hm} (e : h[k]? = some (.lst xs)) : lenD [.ref k] h = some (.int xs.length, h) := by
  unfold lenD; dsimp only; rw [e]
theorem ix_list {xs : List D} {c : Nat} {a : Int} {d : D} {h : Hm} (e : h[c]? = some (.lst xs)) (ea : atI xs a = some d) : ixD (.ref c) (.int a) h = some (d, h) := by
  unfold ixD; dsimp only; rw [e]; dsimp only; rw [ea]; rfl
theorem at_ints {cs : List Int} {a : Int} (ha : 0 ≤ a) (h : a < cs.length) : ∃ x ∈ cs, atI (cs.map D.int) a = some (.int x) := by
  have e : a = ((a.toNat : Nat) : Int) := by omega
  have hl : a.toNat < cs.length := by omega
  refine ⟨cs[a.toNat], List.getElem_mem hl, ?_⟩
  have q : atI (cs.map D.int) ((a.toNat : Nat) : Int) = some (.int cs[a.toNat]) := atI_nat (by rw [List.getElem?_map, List.getElem?_eq_getElem hl]; rfl)
  rw [← e] at q
  exact q
theorem draw_ok (s : StA k c cs h) (hb : 0 < b) (hb2 : b < 1073741824) (hkc : c ≠ k) : ∃ n h1, drawF [.ref k, .int b] h = some (.int n, h1) ∧ 0 ≤ n ∧ n < b ∧ StA k c cs h1 ∧ Fr k h h1 ∧ h1.length = h.length := by
  obtain ⟨a, l, m, e, ha, hl⟩ := s.ex
  have hk : k < h.length := (List.getElem?_eq_some_iff.mp e).1
  obtain ⟨L, A1, C1, M1, G1⟩ := rd_st (σ := [some (.ref k), some (.int b), none, none]) e rfl
  have t1 : tvM (op2M eqD (op2M ixD (gv 0) (cM (.str "left"))) (cM (.int 0))) [some (.ref k), some (.int b), none, none] h = some (decide (l = 0), h) := tv_of' ((op2_of' L rfl).trans (by rw [eqD_int]; rfl))
  have t2 : tvM (op2M ltD (op2M ixD (gv 0) (cM (.str "at"))) (bcM lenD (consA (op2M ixD (gv 0) (cM (.str "cells"))) nilA))) [some (.ref k), some (.int b), none, none] h = some (decide (a < ((cs.map D.int).length : Int)), h) :=
    tv_of' ((op2_of' A1 ((bc1_of' C1).trans (len_ref s.ls))).trans (by rw [ltD_int]; rfl))
  have t3 := tv_and (u := tvM (op2M ltD (op2M ixD (gv 0) (cM (.str "at"))) (bcM lenD (consA (op2M ixD (gv 0) (cM (.str "cells"))) nilA)))) t1
  rw [t2] at t3
  by_cases hc : l = 0 ∧ a < cs.length
  · rw [decide_eq_true hc.1, if_pos rfl, List.length_map, decide_eq_true hc.2] at t3
    obtain ⟨x, hx, ex⟩ := at_ints ha hc.2
    have hx0 := s.nn x hx
    have e1 : setS 2 (op2M ixD (op2M ixD (gv 0) (cM (.str "cells"))) (op2M ixD (gv 0) (cM (.str "at")))) [some (.ref k), some (.int b), none, none] h = some (.nx [some (.ref k), some (.int b), some (.int x), none], h) :=
      set_of ((op2_of' C1 A1).trans (ix_list s.ls ex))
    obtain ⟨_, A2, _, _, G2⟩ := rd_st (σ := [some (.ref k), some (.int b), some (.int x), none]) e rfl
    have e2 : subS (op2M addD (op2M ixD (gv 0) (cM (.str "at"))) (cM (.int 1))) (gv 0) (cM (.str "at")) [some (.ref k), some (.int b), some (.int x), none] h = some (.nx [some (.ref k), some (.int b), some (.int x), none], h.set k (stD c (a + 1) l m)) :=
      sub_of ((op2_of' A2 rfl).trans rfl) G2 rfl (st_at e _)
    have s2 : StA k c cs (h.set k (stD c (a + 1) l m)) := s.put hkc hk (by omega) hl
    have f2 : (h.set k (stD c (a + 1) l m))[k]? = some (stD c (a + 1) l m) := List.getElem?_set_self hk
    obtain ⟨_, _, _, M3, G3⟩ := rd_st (σ := [some (.ref k), some (.int b), some (.int x), none]) f2 rfl
    have hk2 : k < (h.set k (stD c (a + 1) l m)).length := by rw [List.length_set]; exact hk
    have e3 : subS (op2M modD (bcM intD (consA (op2M addD (op2M addD (op2M mulD (op2M ixD (gv 0) (cM (.str "mix"))) (cM (.int 48271))) (gv 2)) (cM (.int 11))) nilA)) (cM (.int 2147483647))) (gv 0) (cM (.str "mix")) [some (.ref k), some (.int b), some (.int x), none] (h.set k (stD c (a + 1) l m))
        = some (.nx [some (.ref k), some (.int b), some (.int x), none], (h.set k (stD c (a + 1) l m)).set k (stD c (a + 1) l ((m * 48271 + x + 11) % 2147483647))) :=
      sub_of ((op2_of' ((bc1_of' ((op2_of' ((op2_of' ((op2_of' M3 rfl).trans (mul_int (by decide) _)) rfl).trans rfl) rfl).trans rfl)).trans rfl) rfl).trans (mod_int (by decide) _)) G3 rfl (st_mix f2 _)
    rw [List.set_set] at e3
    have s3 : StA k c cs (h.set k (stD c (a + 1) l ((m * 48271 + x + 11) % 2147483647))) := s.put hkc hk (by omega) hl
    have f3 : (h.set k (stD c (a + 1) l ((m * 48271 + x + 11) % 2147483647)))[k]? = some (stD c (a + 1) l ((m * 48271 + x + 11) % 2147483647)) := List.getElem?_set_self hk
    obtain ⟨_, _, _, _, G4⟩ := rd_st (σ := [some (.ref k), some (.int b), some (.int x), none]) f3 rfl
    have c4 : tvM (op2M ltD (gv 2) (op2M powD (cM (.int 10)) (cM (.int 18)))) [some (.ref k), some (.int b), some (.int x), none] (h.set k (stD c (a + 1) l ((m * 48271 + x + 11) % 2147483647)))
        = some (decide (x < 10 ^ 18), h.set k (stD c (a + 1) l ((m * 48271 + x + 11) % 2147483647))) := tv_of' ((op2_of' rfl rfl).trans (by rw [ltD_int]; rfl))
    by_cases hx2 : x < 10 ^ 18
    · rw [decide_eq_true hx2] at c4
      refine ⟨x % b, h.set k (stD c (a + 1) l ((m * 48271 + x + 11) % 2147483647)), ?_, Int.emod_nonneg _ (by omega), Int.emod_lt_of_pos _ hb, s3, Fr.set _ _ _, List.length_set⟩
      refine run_rt (seq_rt ?_)
      show ifS _ _ _ [some (.ref k), some (.int b), none, none] h = _
      rw [if_of t3, if_pos rfl, seq_nx e1, seq_nx e2, seq_nx e3]
      refine seq_rt ?_
      rw [if_of c4, if_pos rfl]
      exact ret_of ((op2_of' ((bc1_of' rfl).trans rfl) rfl).trans (mod_int hb _))
    · rw [decide_eq_false hx2] at c4
      have e5 : subS (gv 2) (gv 0) (cM (.str "left")) [some (.ref k), some (.int b), some (.int x), none] (h.set k (stD c (a + 1) l ((m * 48271 + x + 11) % 2147483647)))
          = some (.nx [some (.ref k), some (.int b), some (.int x), none], (h.set k (stD c (a + 1) l ((m * 48271 + x + 11) % 2147483647))).set k (stD c (a + 1) x ((m * 48271 + x + 11) % 2147483647))) := sub_of rfl G4 rfl (st_left f3 _)
      rw [List.set_set] at e5
      obtain ⟨n, h1, q1, q2, q3, q4, q5, q6⟩ := drawT_ok (s.put (a := a + 1) (l := x) (m := (m * 48271 + x + 11) % 2147483647) hkc hk (by omega) hx0) (List.getElem?_set_self hk) (by omega) hx0 hb hb2 hkc (some (.int x)) none
      refine ⟨n, h1, run_rt ?_, q2, q3, q4, (Fr.set _ _ _).trans q5, by rw [q6, List.length_set]⟩
      show seqS (ifS _ _ _) drawT [some (.ref k), some (.int b), none, none] h = _
      rw [seq_nx (σ1 := [some (.ref k), some (.int b), some (.int x), none]) (h1 := h.set k (stD c (a + 1) x ((m * 48271 + x + 11) % 2147483647))), q1]
      rw [if_of t3, if_pos rfl, seq_nx e1, seq_nx e2, seq_nx e3, seq_nx (σ1 := [some (.ref k), some (.int b), some (.int x), none]) (by rw [if_of c4, if_neg Bool.false_ne_true]; rfl), e5]
  · obtain ⟨n, h1, q1, q2, q3, q4, q5, q6⟩ := drawT_ok s e ha hl hb hb2 hkc none none
    refine ⟨n, h1, run_rt ?_, q2, q3, q4, q5, q6⟩
    show seqS (ifS _ _ _) drawT [some (.ref k), some (.int b), none, none] h = _
    have t4 : (if decide (l = 0) = true then some (decide (a < ((cs.map D.int).length : Int)), h) else some (false, h)) = some (false, h) := by
      by_cases h0 : l = 0
      · rw [decide_eq_true h0, if_pos rfl, List.length_map, decide_eq_false fun z => hc ⟨h0, z⟩]
      · rw [decide_eq_false h0, if_neg Bool.false_ne_true]
    rw [t4] at t3
    rw [seq_nx (σ1 := [some (.ref k), some (.int b), none, none]) (h1 := h), q1]
    rw [if_of t3, if_neg Bool.false_ne_true]
    rfl
end
end ML

set_option Elab.async false
set_option linter.all false
set_option maxRecDepth 100000
set_option autoImplicit false
namespace ML
open PySem L2
theorem cons_of {m : Sm → M D} {ms : Sm → M (List D)} {σ : Sm} {h h1 h2 : Hm} {d : D} {ds : List D} (e : m σ h = some (d, h1)) (e2 : ms σ h1 = some (ds, h2)) : consA m ms σ h = some (d :: ds, h2) := by
  unfold consA
  rw [bind_of e, bind_of e2]
  rfl
theorem nil_of {σ : Sm} {h : Hm} : nilA σ h = some ([], h) := rfl
theorem call_of' {F : List D → M D} {n : Nat} {ms : Sm → M (List D)} {σ : Sm} {h h1 : Hm} {ds : List D} (e : ms σ h = some (ds, h1)) (hn : ds.length = n) : callM F n ms σ h = F ds h1 := by
  unfold callM
  rw [bind_of e, if_pos hn]
theorem tup_of {ms : Sm → M (List D)} {σ : Sm} {h h1 : Hm} {ds : List D} (e : ms σ h = some (ds, h1)) (hn : ds.length ≤ sizeLine) : tupM ms σ h = some (.tup ds, h1) := by
  unfold tupM
  rw [bind_of e, if_pos hn]
  rfl
theorem lst_of {ms : Sm → M (List D)} {σ : Sm} {h h1 : Hm} {ds : List D} (e : ms σ h = some (ds, h1)) (hn : ds.length ≤ sizeLine) : lstM ms σ h = some (ds, h1) := by
  unfold lstM
  rw [bind_of e, if_pos hn]
  rfl
theorem new_of {ms : Sm → M (List D)} {σ : Sm} {h h1 : Hm} {ds : List D} (e : ms σ h = some (ds, h1)) : newM ms σ h = some (.ref h1.length, h1 ++ [.lst ds]) := by
  unfold newM
  exact bind_of e
theorem bc_of' {ms : Sm → M (List D)} {g : List D → M D} {σ : Sm} {h h1 : Hm} {ds : List D} (e : ms σ h = some (ds, h1)) : bcM g ms σ h = g ds h1 := by
  unfold bcM
  rw [bind_of e]
theorem op1_of' {g : D → M D} {ma : Sm → M D} {σ : Sm} {h h1 : Hm} {a : D} (e : ma σ h = some (a, h1)) : op1M g ma σ h = g a h1 := by
  unfold op1M
  rw [bind_of e]
theorem ifE_of {t : Sm → M Bool} {ma mb : Sm → M D} {σ : Sm} {h h1 : Hm} {b : Bool} (e : t σ h = some (b, h1)) : ifE t ma mb σ h = if b = true then ma σ h1 else mb σ h1 := by
  unfold ifE
  rw [bind_of e]
  cases b <;> rfl
theorem notT_of {t : Sm → M Bool} {σ : Sm} {h h1 : Hm} {b : Bool} (e : t σ h = some (b, h1)) : notT t σ h = some (!b, h1) := by
  unfold notT
  rw [bind_of e]
  rfl
theorem orT_of {t u : Sm → M Bool} {σ : Sm} {h h1 : Hm} {b : Bool} (e : t σ h = some (b, h1)) : orT t u σ h = if b = true then some (true, h1) else u σ h1 := by
  unfold orT
  rw [bind_of e]
  cases b <;> rfl
theorem isi_of {n : String} {m : Sm → M D} {σ : Sm} {h h1 : Hm} {d : D} (e : m σ h = some (d, h1)) : isiM n m σ h = isiD n d h1 := by
  unfold isiM
  rw [bind_of e]
theorem if_no {c : Sm → M Bool} {s : Sm → M Fl} {σ : Sm} {h h1 : Hm} (e : c σ h = some (false, h1)) : ifS c s skipS σ h = some (.nx σ, h1) := by
  unfold ifS
  rw [bind_of e]
  rfl
theorem if_not {c : Sm → M Bool} {s t : Sm → M Fl} {σ : Sm} {h h1 : Hm} (e : c σ h = some (false, h1)) : ifS c s t σ h = t σ h1 := by
  unfold ifS
  rw [bind_of e]
  rfl
theorem if_yes {c : Sm → M Bool} {s t : Sm → M Fl} {σ : Sm} {h h1 : Hm} (e : c σ h = some (true, h1)) : ifS c s t σ h = s σ h1 := by
  unfold ifS
  rw [bind_of e]
  rfl
theorem tv_isi {n ty : String} {m : Sm → M D} {σ : Sm} {h h1 : Hm} {d : D} {b : Bool} (e : m σ h = some (d, h1)) (t : tyD h1 d = some ty) (q : kitB ty n = some b) : tvM (isiM n m) σ h = some (b, h1) := by
  refine tv_of' ((isi_of e).trans ?_)
  unfold isiD
  rw [t]
  dsimp only
  rw [q]
theorem range_of {j : Int} (h0 : 0 ≤ j) (h1 : j < 2 ^ 62) : rngD 0 j = pure (((List.range j.toNat).map fun (i : Nat) => D.int i), []) := by
  unfold rngD
  rw [if_pos ⟨by decide, by decide, by omega, h1⟩]
  simp
theorem itR1_of {ms : Sm → M (List D)} {σ : Sm} {h h1 : Hm} {j : Int} (e : ms σ h = some ([.int j], h1)) (h0 : 0 ≤ j) (hj : j < 2 ^ 62) : itR1 ms σ h = some ((((List.range j.toNat).map fun (i : Nat) => D.int i), []), h1) := by
  unfold itR1
  rw [bind_of e]
  dsimp only
  rw [range_of h0 hj]
  rfl
/-! ### comprehensions, for statements -/
section
variable {items : List D} {i : Nat} {el : Sm → M D} {σ : Sm} {I : Hm → Prop} {P : D → D → Prop} {R : Hm → Hm → Prop}
theorem lcR_some (rr : ∀ h, R h h) (rt : ∀ a b c, R a b → R b c → R a c) : ∀ {l : List D} (hel : ∀ d ∈ l, ∀ h, I h → ∃ y h', el (σ.set i (some d)) h = some (y, h') ∧ I h' ∧ R h h' ∧ P d y) (h : Hm), I h →
    ∃ ys h', lcR items [] (nameG i) yesT el l σ h = some (ys, h') ∧ I h' ∧ R h h' ∧ ys.length = l.length ∧ ∀ (j : Nat) (d y : D), l[j]? = some d → ys[j]? = some y → P d y
  | [], _, h, hI => by
    refine ⟨[], h, ?_, hI, rr h, rfl, fun j d y e _ => by simp at e⟩
    unfold lcR
    exact if_pos Chk.nil
  | d :: l, hel, h, hI => by
    obtain ⟨y, h1, e1, i1, r1, p1⟩ := hel d (by simp) h hI
    obtain ⟨ys, h2, e2, i2, r2, l2, p2⟩ := lcR_some rr rt (l := l) (fun d' m => hel d' (List.mem_cons_of_mem _ m)) h1 i1
    refine ⟨y :: ys, h2, ?_, i2, rt _ _ _ r1 r2, by rw [List.length_cons, List.length_cons, l2], fun j d' y' e3 e4 => ?_⟩
    · unfold lcR
      refine (if_pos Chk.nil).trans ?_
      show (match el (σ.set i (some d)) h with | none => none | some (y, h3) => match lcR items [] (nameG i) yesT el l σ h3 with | none => none | some (ys, h4) => some (y :: ys, h4)) = _
      rw [e1]
      dsimp only
      rw [e2]
    · cases j with
      | zero =>
        simp only [List.getElem?_cons_zero, Option.some.injEq] at e3 e4
        subst e3 e4
        exact p1
      | succ j => exact p2 j d' y' (by simpa using e3) (by simpa using e4)
theorem lcM_of {it : Sm → M (List D × Src)} {tg : D → Sm → Option Sm} {tt : Sm → M Bool} {vs : List Nat} {h h1 h2 : Hm} {p : List D × Src} {ys : List D} (e : it σ h = some (p, h1)) (e2 : lcR p.1 p.2 tg tt el p.1 (wipeM σ vs) h1 = some (ys, h2)) (hl : ys.length ≤ sizeLine) : lcM it tg tt el vs σ h = some (ys, h2) := by
  unfold lcM
  rw [bind_of e, bind_of e2, if_pos hl]
  rfl
theorem lcR_map {src : Src} {f : D → D} {h : Hm} (hc : Chk items src h) : ∀ {l : List D} (hel : ∀ d ∈ l, el (σ.set i (some d)) h = some (f d, h)), lcR items src (nameG i) yesT el l σ h = some (l.map f, h)
  | [], _ => by
    unfold lcR
    exact if_pos hc
  | d :: l, hel => by
    unfold lcR
    refine (if_pos hc).trans ?_
    show (match el (σ.set i (some d)) h with | none => none | some (y, h3) => match lcR items src (nameG i) yesT el l σ h3 with | none => none | some (ys, h4) => some (y :: ys, h4)) = _
    rw [hel d (by simp)]
    dsimp only
    rw [lcR_map hc fun d' m => hel d' (List.mem_cons_of_mem _ m)]
    rfl
end
/-! ### the start, a pick -/
def absI (i : Int) : Int := if i < 0 then -i else i
theorem start_ok {ns : List Int} (hn : ns.length ≤ 63) : startF [.fro (ns.map .int)] [] = some (.ref 1, [.lst ((ns.map absI).map .int), stD 0 0 0 (7 + ns.length)]) := by
  unfold startF
  refine run_rt (ret_of ?_)
  have e1 : lcM (itV (gv 0)) (nameG 1) yesT (bcM absD (consA (bcM intD (consA (gv 1) nilA)) nilA)) [1] (startM 2 [.fro (ns.map .int)]) [] = some ((ns.map absI).map .int, []) := by
    refine lcM_of (p := (ns.map .int, [])) rfl ?_ (by rw [List.length_map, List.length_map]; exact Nat.le_trans hn (by decide))
    have q := lcR_map (items := ns.map D.int) (src := []) (i := 1) (el := bcM absD (consA (bcM intD (consA (gv 1) nilA)) nilA)) (σ := wipeM (startM 2 [.fro (ns.map .int)]) [1]) (h := []) (f := fun d => match d with | .int i => .int (absI i) | d => d) (fun k z => by cases z) (l := ns.map D.int) fun d hd => by
      obtain ⟨i, _, rfl⟩ := List.mem_map.mp hd
      rfl
    refine q.trans ?_
    rw [List.map_map, List.map_map]
    rfl
  have e2 : newM (lcM (itV (gv 0)) (nameG 1) yesT (bcM absD (consA (bcM intD (consA (gv 1) nilA)) nilA)) [1]) (startM 2 [.fro (ns.map .int)]) [] = some (.ref 0, [.lst ((ns.map absI).map .int)]) := new_of e1
  unfold dispM
  have e3 : pairsM [((cM (.str "cells")), (newM (lcM (itV (gv 0)) (nameG 1) yesT (bcM absD (consA (bcM intD (consA (gv 1) nilA)) nilA)) [1]))), ((cM (.str "at")), (cM (.int 0))), ((cM (.str "left")), (cM (.int 0))), ((cM (.str "mix")), (op2M addD (cM (.int 7)) (bcM lenD (consA (gv 0) nilA))))] (startM 2 [.fro (ns.map .int)]) []
      = some ([(.str "cells", .ref 0), (.str "at", .int 0), (.str "left", .int 0), (.str "mix", .int (7 + ns.length))], [.lst ((ns.map absI).map .int)]) := by
    show (newM _ _ >>= _) [] = _
    rw [bind_of e2]
    show some _ = some _
    rw [List.length_map]
  exact (bind_of e3).trans rfl
theorem start_st {ns : List Int} : StA 1 0 (ns.map absI) [.lst ((ns.map absI).map .int), stD 0 0 0 (7 + ns.length)] := by
  refine ⟨⟨0, 0, 7 + ns.length, rfl, Int.le_refl _, Int.le_refl _⟩, rfl, fun x hx => ?_⟩
  obtain ⟨i, _, rfl⟩ := List.mem_map.mp hx
  unfold absI
  split <;> omega
section
variable {h : Hm} {k c : Nat} {cs : List Int}
theorem pick_ok {j : Nat} {ds : List D} (s : StA k c cs h) (hkc : c ≠ k) (ej : h[j]? = some (.lst ds)) (hjk : j ≠ k) (h0 : ds ≠ []) (hl : ds.length < 1073741824) : ∃ d h1, pickF [.ref k, .ref j] h = some (d, h1) ∧ d ∈ ds ∧ StA k c cs h1 ∧ Fr k h h1 ∧ h1.length = h.length := by
  have hp : 0 < ds.length := List.length_pos_iff.mpr h0
  obtain ⟨n, h1, e1, n0, n1, s1, f1, l1⟩ := draw_ok (b := ds.length) s (by omega) (by omega) hkc
  have hj : j < h.length := (List.getElem?_eq_some_iff.mp ej).1
  have ej1 : h1[j]? = some (.lst ds) := (f1.2 j hj hjk).trans ej
  have hn : n.toNat < ds.length := by omega
  refine ⟨ds[n.toNat], h1, ?_, List.getElem_mem hn, s1, f1, l1⟩
  unfold pickF
  refine run_rt (ret_of ((op2_of' (h1 := h) (a := .ref j) rfl ((call_of' (ds := [.ref k, .int ds.length]) (cons_of rfl (cons_of ((bc1_of' rfl).trans (len_ref ej)) nil_of)) rfl).trans e1)).trans (ix_list ej1 ?_)))
  have q : atI ds ((n.toNat : Nat) : Int) = some ds[n.toNat] := atI_nat (List.getElem?_eq_getElem hn)
  rw [show ((n.toNat : Nat) : Int) = n by omega] at q
  exact q
end
end ML

set_option Elab.async false
set_option linter.all false
set_option maxRecDepth 100000
set_option autoImplicit false
namespace ML
open PySem L2
section
variable {T : Tx} {σ : St} {H : Hp} {D0 : Ends}
/-- name = value, as a reading -/
theorem set_rd {i : Nat} {m : Sm → M D} (q : lfS T (setS i m) D0 σ H) : lf T m σ H fun x H1 => D0.nx (σ.set i (some x)) H1 := by
  obtain ⟨ι, σm, h, f, h1, r, rs, e, k⟩ := q
  refine lf_then r rs e (P := fun ι2 H2 => Rl T ι2 H2 h1 → EndF T ι2 H2 D0 f) k fun ι1 H1 x d h' x1 r1 rs1 q1 e1 k1 => ?_
  obtain ⟨e2, e3⟩ := pure_some e1
  subst e2 e3
  exact k1 _ _ (Ex.refl _ _) r1 _ (rs1.set i q1)
theorem new_rd {ms : Sm → M (List D)} {Q : VK} (q : lf T (newM ms) σ H Q) : lfL T ms σ H Q := by
  obtain ⟨ι, σm, h, d, h1, r, rs, e, k⟩ := q
  obtain ⟨ds, h', e1, e2⟩ := bind_some e
  have e3 : some (D.ref h'.length, h' ++ [O.lst ds]) = some (d, h1) := e2
  injection e3 with e3
  injection e3 with e4 e5
  subst e4 e5
  refine ⟨ι, σm, h, ds, h', r, rs, e1, fun ι1 H1 a xs x1 r1 ha na ea q1 => ?_⟩
  have r2 := r1.own na _ ea trivial (o := .lst ds) fun up => ⟨xs, ea, RVs.up up ds xs q1⟩
  refine k (ι1 ++ [a]) H1 (.ref a) (x1.own ha) r2 ?_
  rw [RV]
  exact ⟨a, by rw [← r1.len, List.getElem?_append_right (Nat.le_refl _), Nat.sub_self]; rfl, rfl⟩
end
section
variable {X : Cx}
theorem s_setLc (i : Nat) {y : Str} {py : Pos} {elt tg iter : Expr} {ifs : List Expr} {scope : Scope} {own : List (Str × Nat)} {pos spos : Pos} {it : Sm → M (List D × Src)} {g : D → Sm → Option Sm} {tt : Sm → M Bool} {el : Sm → M D} (hc : X.calm = true) (hN : X.N.Nodup) (hy : X.N[i]? = some y)
    (hyl : X.env.scope.names.lookup y = some .local) (hsw : swapsWith (.ListComp elt [⟨tg, iter, ifs, 0⟩] scope pos) (some (.Name y py)) spos.line X.env = pure true) (hi : PI X tg iter (lfI (tx X) it)) (ok : BlkOk X.N X.env.scope scope own)
    (hg : ∀ (s : Shared) (H : Hp) (C : Addr) (cl : List (Str × Addr)) (fp : List Addr), PG (X.blk s H scope (compEnvC scope cl C X.env) fp) tg (lfG (tx X) (own.map (·.2)) g)) (ht : ∀ (s : Shared) (H : Hp) (C : Addr) (cl : List (Str × Addr)) (fp : List Addr), PTs (X.blk s H scope (compEnvC scope cl C X.env) fp) ifs (lfT (tx X) tt))
    (he : ∀ (s : Shared) (H : Hp) (C : Addr) (cl : List (Str × Addr)) (fp : List Addr), PE (X.blk s H scope (compEnvC scope cl C X.env) fp) elt (lf (tx X) el)) (hs : ∀ x, foldedSetIterable iter X.env x = pure x := by intro _; rfl) :
    PS X (.Assign [.Name y py] (.ListComp elt [⟨tg, iter, ifs, 0⟩] scope pos) spos) (lfS (tx X) (setS i (newM (lcM it g tt el (own.map (·.2)))))) := (ps_setLc hc hN hy hyl hsw hi ok hg ht he hs).imp fun D σ H q => lc_of (new_rd (set_rd q))
/-- any target -/
def asgS (g : D → Sm → Option Sm) (m : Sm → M D) : Sm → M Fl := fun σ => m σ >>= fun d => match g d σ with
  | some σ1 => pure (.nx σ1)
  | none => M.bad
theorem s_asg {tg e : Expr} {pos : Pos} {m : Sm → M D} {vs : List Nat} {g : D → Sm → Option Sm} (he : PE X e (lf (tx X) m)) (hg : PG X tg (lfG (tx X) vs g)) (hs : swapsWithSole [tg] e pos.line X.env = pure false := by rfl) (hw : swappedStores [tg] e X.env = pure none := by rfl)
    (h1 : (assignEach [tg] X.env).map (·.2) = [assign tg X.env] := by rfl) : PS X (.Assign [tg] e pos) (lfS (tx X) (asgS g m)) := (ps_asg he hg hs hw h1).imp fun D σ H q => by
  obtain ⟨ι, σm, h, f, h1, r, rs, e, k⟩ := q
  refine lf_then r rs e (P := fun ι2 H2 => Rl (tx X) ι2 H2 h1 → EndF (tx X) ι2 H2 D f) k fun ι1 H1 x d h' x1 r1 rs1 q1 e1 k1 => ?_
  cases q2 : g d σm with
  | none => simp only [q2] at e1; cases e1
  | some σ1 =>
    simp only [q2] at e1
    obtain ⟨e2, e3⟩ := pure_some e1
    subst e2 e3
    exact ⟨ι1, σm, h', d, σ1, r1, rs1, q1, q2, fun σ2 rs2 _ _ => k1 _ _ (Ex.refl _ _) r1 σ2 rs2⟩
/-- name += value, ints -/
def augS (i : Nat) (m : Sm → M D) : Sm → M Fl := fun σ => gv i σ >>= fun a => m σ >>= fun b => match a, b with
  | .int x, .int y => pure (.nx (σ.set i (some (.int (x + y)))))
  | _, _ => M.bad
theorem s_aug (i : Nat) {x : Str} {e : Expr} {pos pos' : Pos} {m : Sm → M D} (hN : X.N.Nodup) (hi : X.N[i]? = some x) (hx : Loc X.env.scope x) (he : PE X e (lf (tx X) m)) (hf : X.fn x = true ∨ X.env.scope.names.lookup x = some .local := by first | exact .inl rfl | exact .inr rfl | assumption) :
    PS X (.AugAssign (.Name x pos') .Add e pos) (lfS (tx X) (augS i m)) := (ps_aug hN hi hx he ip_add hf).imp fun D σ H q => by
  obtain ⟨ι, σm, h, f, h1, r, rs, e, k⟩ := q
  obtain ⟨a, h0, e0, e1⟩ := bind_some e
  unfold gv at e0
  cases q1 : σm[i]? with
  | none => rw [q1] at e0; cases e0
  | some o =>
    cases o with
    | none => rw [q1] at e0; cases e0
    | some d' =>
      rw [q1] at e0
      obtain ⟨e2, e3⟩ := pure_some e0
      subst e2 e3
      obtain ⟨v, ev, qv⟩ := rs.at_ i d' q1
      refine ⟨v, ev, ?_⟩
      refine lf_then r rs e1 (P := fun ι2 H2 => Rl (tx X) ι2 H2 h1 → EndF (tx X) ι2 H2 D f) k fun ι1 H1 y d h' x1 r1 rs1 q1 e1 k1 => ?_
      cases d' with
      | int a =>
        cases d with
        | int b =>
          obtain ⟨e2, e3⟩ := pure_some e1
          subst e2 e3
          rw [RV] at qv q1
          subst qv q1
          exact ⟨a, b, rfl, rfl, k1 _ _ (Ex.refl _ _) r1 _ (rs1.set i (by rw [RV]))⟩
        | _ => cases e1
      | _ => cases e1
/-! ### the truth of a value -/
def truD (d : D) : M Bool := fun h => match d with
  | .non => some (false, h)
  | .bl b => some (b, h)
  | .int i => some ((i != 0), h)
  | .str y => if y.length ≤ sizeLine then some (((y.length : Int) != 0), h) else none
  | .tup xs => some (!xs.isEmpty, h)
  | .fro xs => some (!xs.isEmpty, h)
  | .ref k => (match h[k]? with
    | some (.lst xs) => some (!xs.isEmpty, h)
    | some (.dic xs) => some (!xs.isEmpty, h)
    | _ => none)
  | .glob _ => none
def trT (m : Sm → M D) : Sm → M Bool := fun σ => m σ >>= truD
theorem emp_len {α β : Type} {xs : List α} {ys : List β} (e : xs.length = ys.length) : xs.isEmpty = ys.isEmpty := by
  cases xs <;> cases ys <;> simp_all
theorem m_tr {a : Expr} {ma : Sm → M D} (ha : PE X a (lf (tx X) ma)) (he : ∀ whole, isTrue a X.env whole = (do let v ← whole; standAt a.pos; holding [v] (truthy v)) := by intro _; rfl) : PT X a (lfT (tx X) (trT ma)) := (pt_truth ha he).imp fun σ H Q q => by
  obtain ⟨ι, σm, h, b, h1, r, rs, e, k⟩ := q
  refine lf_then r rs e (P := fun ι2 H2 => Rl (tx X) ι2 H2 h1 → Q b H2) k fun ι1 H1 x d h' x1 r1 rs1 q1 e1 k1 => ?_
  have fin : ∀ {c : Bool}, some (c, h') = some (b, h1) → Q c H1 := fun e => by
    obtain ⟨e2, e3⟩ := some_pair e
    subst e2 e3
    exact k1 _ _ (Ex.refl _ _) r1
  cases d with
  | non => rw [RV] at q1; subst q1; exact ⟨false, rfl, fin e1⟩
  | bl c => rw [RV] at q1; subst q1; exact ⟨c, rfl, fin e1⟩
  | int i => rw [RV] at q1; subst q1; exact ⟨_, rfl, fin e1⟩
  | str y =>
    rw [RV] at q1; subst q1
    have e1 : (if y.length ≤ sizeLine then some (((y.length : Int) != 0), h') else none) = some (b, h1) := e1
    by_cases hl : y.length ≤ sizeLine
    · rw [if_pos hl] at e1; exact ⟨_, ⟨hl, rfl⟩, fin e1⟩
    · rw [if_neg hl] at e1; cases e1
  | tup ds =>
    rw [RV] at q1
    obtain ⟨p, xs, ep, s, q⟩ := q1
    subst ep
    exact ⟨_, .inr (.inl ⟨xs, s, rfl⟩), by rw [emp_len q.length]; exact fin e1⟩
  | fro ds =>
    rw [RV] at q1
    obtain ⟨p, xs, ep, s, q⟩ := q1
    subst ep
    exact ⟨_, .inl ⟨xs, s.sq, rfl⟩, by rw [emp_len q.length]; exact fin e1⟩
  | ref kk =>
    rw [RV] at q1
    obtain ⟨p, hp, ep⟩ := q1
    subst ep
    have e1 : (match h'[kk]? with | some (.lst xs) => some (!xs.isEmpty, h') | some (.dic xs) => some (!xs.isEmpty, h') | _ => none) = some (b, h1) := e1
    cases q2 : h'[kk]? with
    | none => rw [q2] at e1; cases e1
    | some o =>
      rw [q2] at e1
      cases o with
      | lst ds =>
        obtain ⟨xs, hx, q⟩ := r1.obj kk p _ hp q2
        exact ⟨_, .inl ⟨xs, SqL.of hx, rfl⟩, by rw [emp_len q.length]; exact fin e1⟩
      | dic ds =>
        obtain ⟨xs, hx, q⟩ := r1.obj kk p _ hp q2
        exact ⟨_, .inr (.inr ⟨xs, hx, rfl⟩), by rw [emp_len q.length]; exact fin e1⟩
      | ins c fs => cases e1
      | ldic kvs => cases e1
      | tdc kvs => cases e1
      | ltdc kvs => cases e1
  | glob x => cases e1
end
end ML

set_option Elab.async false
set_option linter.all false
set_option maxRecDepth 100000
set_option autoImplicit false
namespace ML
open PySem L2
/-! ### while -/
def whR (t : Sm → M Bool) (b : Sm → M Fl) : Nat → Sm → M Fl
  | 0, _ => fun _ => none
  | n + 1, σ => fun h => match t σ h with
    | none => none
    | some (false, h1) => some (.nx σ, h1)
    | some (true, h1) => match b σ h1 with
      | none => none
      | some (.nx σ2, h2) => whR t b n σ2 h2
      | some (.ct σ2, h2) => whR t b n σ2 h2
      | some (.bk σ2, h2) => some (.nx σ2, h2)
      | some (.rt d, h2) => some (.rt d, h2)
theorem whR_mono {t : Sm → M Bool} {b : Sm → M Fl} : ∀ {n : Nat} {σ : Sm} {h : Hm} {r : Fl × Hm}, whR t b n σ h = some r → whR t b (n + 1) σ h = some r
  | 0, σ, h, r, e => by cases e
  | n + 1, σ, h, r, e => by
    unfold whR at e ⊢
    cases q : t σ h with
    | none => rw [q] at e; cases e
    | some p =>
      obtain ⟨c, h1⟩ := p
      rw [q] at e
      cases c with
      | false => exact e
      | true =>
        dsimp only at e ⊢
        cases q2 : b σ h1 with
        | none => rw [q2] at e; cases e
        | some p2 =>
          obtain ⟨f, h2⟩ := p2
          rw [q2] at e
          cases f with
          | nx σ2 => exact whR_mono (n := n) e
          | ct σ2 => exact whR_mono (n := n) e
          | bk σ2 => exact e
          | rt d => exact e
theorem whR_le {t : Sm → M Bool} {b : Sm → M Fl} {n m : Nat} {σ : Sm} {h : Hm} {r : Fl × Hm} (hnm : n ≤ m) (e : whR t b n σ h = some r) : whR t b m σ h = some r := by
  induction hnm with
  | refl => exact e
  | step _ ih => exact whR_mono ih
open Classical in
noncomputable def whS (t : Sm → M Bool) (b : Sm → M Fl) : Sm → M Fl := fun σ h => if e : ∃ n, (whR t b n σ h).isSome = true then whR t b e.choose σ h else none
theorem wh_of {t : Sm → M Bool} {b : Sm → M Fl} {n : Nat} {σ : Sm} {h : Hm} {r : Fl × Hm} (e : whR t b n σ h = some r) : whS t b σ h = some r := by
  have q : ∃ n, (whR t b n σ h).isSome = true := ⟨n, by rw [e]; rfl⟩
  unfold whS
  rw [dif_pos q]
  obtain ⟨r', e'⟩ := Option.isSome_iff_exists.mp q.choose_spec
  rw [e']
  rcases Nat.le_total n q.choose with z | z
  · rw [whR_le z e] at e'
    exact e'.symm
  · rw [whR_le z e'] at e
    exact e
theorem wh_some {t : Sm → M Bool} {b : Sm → M Fl} {σ : Sm} {h : Hm} {r : Fl × Hm} (e : whS t b σ h = some r) : ∃ n, whR t b n σ h = some r := by
  unfold whS at e
  split at e
  · exact ⟨_, e⟩
  · cases e
section
variable {X : Cx} {pos : Pos}
theorem s_while {c : Expr} {body : List Stmt} {t : Sm → M Bool} {b : Sm → M Fl} (hp : PassesOwn (model X.prog X.w) X.A X.env X.xe) (hc : PT X c (lfT (tx X) t)) (hb : PSs X body (lfS (tx X) b)) : PS X (.While c body [] pos) (lfS (tx X) (whS t b)) := (ps_while hp hc hb).imp fun D σ H q => by
  obtain ⟨ι, σm, h, f, h1, r, rs, e, k⟩ := q
  obtain ⟨n, e⟩ := wh_some e
  refine ⟨fun m σ1 H1 => ∃ ι1 σm1 h2, Ex ι H ι1 H1 ∧ Rl (tx X) ι1 H1 h2 ∧ RS (tx X) ι1 H1 σm1 σ1 ∧ whR t b m σm1 h2 = some (f, h1), ⟨n, ι, σm, h, Ex.refl _ _, r, rs, e⟩, ?_⟩
  rintro m σ1 H1 ⟨ι1, σm1, h2, x1, r1, rs1, e1⟩
  cases m with
  | zero => cases e1
  | succ m =>
    unfold whR at e1
    cases q1 : t σm1 h2 with
    | none => rw [q1] at e1; cases e1
    | some p =>
      obtain ⟨c, h3⟩ := p
      rw [q1] at e1
      refine ⟨ι1, σm1, h2, c, h3, r1, rs1, q1, fun ι3 H3 x3 r3 => ?_⟩
      have x13 := x1.trans r1 x3
      cases c with
      | false =>
        obtain ⟨e2, e3⟩ := some_pair e1
        subst e2 e3
        refine iteF ?_
        exact k ι3 H3 x13 r3 σ1 (rs1.up (x3.up r1))
      | true =>
        refine iteT ?_
        have e1 : (match b σm1 h3 with | none => none | some (.nx σ2, h2) => whR t b m σ2 h2 | some (.ct σ2, h2) => whR t b m σ2 h2 | some (.bk σ2, h2) => some (Fl.nx σ2, h2) | some (.rt d, h2) => some (Fl.rt d, h2)) = some (f, h1) := e1
        refine ⟨fun σ' H' => ∃ ι1 σm1 h2, Ex ι H ι1 H' ∧ Rl (tx X) ι1 H' h2 ∧ RS (tx X) ι1 H' σm1 σ' ∧ whR t b m σm1 h2 = some (f, h1), fun σ' H' hN => ⟨m, Nat.lt_succ_self m, hN⟩, ?_⟩
        cases q2 : b σm1 h3 with
        | none => rw [q2] at e1; cases e1
        | some p2 =>
          obtain ⟨f2, h4⟩ := p2
          rw [q2] at e1
          refine ⟨ι3, σm1, h3, f2, h4, r3, rs1.up (x3.up r1), q2, fun ι4 H4 x4 r4 => ?_⟩
          have x14 := x13.trans r3 x4
          cases f2 with
          | nx σ5 => exact fun σ6 rs6 => ⟨ι4, σ5, h4, x14, r4, rs6, e1⟩
          | ct σ5 => exact fun σ6 rs6 => ⟨ι4, σ5, h4, x14, r4, rs6, e1⟩
          | bk σ5 =>
            obtain ⟨e6, e7⟩ := some_pair e1
            subst e6 e7
            exact fun σ6 rs6 => k ι4 H4 x14 r4 σ6 rs6
          | rt d5 =>
            obtain ⟨e6, e7⟩ := some_pair e1
            subst e6 e7
            exact fun v rv => k ι4 H4 x14 r4 v rv
/-! ### methods of lists -/
def isL (d : D) : M D := fun h => match d with
  | .ref k => (match h[k]? with
    | some (.lst _) => some (d, h)
    | _ => none)
  | _ => none
/-- a list of ours at a value -/
theorem at_lst {ι : List Addr} {H : Hp} {h : Hm} {T : Tx} {k : Nat} {x : V} {xs : List D} (r : Rl T ι H h) (q : RV T ι H (.ref k) x) (e : h[k]? = some (.lst xs)) : ∃ a ys, x = .ref a ∧ ι[k]? = some a ∧ H a = some (.lst ys) ∧ RVs T ι H xs ys := by
  rw [RV] at q
  obtain ⟨a, ha, ea⟩ := q
  obtain ⟨ys, hy, qs⟩ := r.obj k a _ ha e
  exact ⟨a, ys, ea, ha, hy, qs⟩
theorem isL_ty {ι : List Addr} {H : Hp} {h h1 : Hm} {T : Tx} {x : V} {d d1 : D} (r : Rl T ι H h) (q : RV T ι H d x) (e : isL d h = some (d1, h1)) : tyV T.K "list" x H ∧ d1 = d ∧ h1 = h ∧ ∃ k xs, d = .ref k ∧ h[k]? = some (.lst xs) := by
  cases d with
  | ref k =>
    have e : (match h[k]? with | some (.lst _) => some (D.ref k, h) | _ => none) = some (d1, h1) := e
    cases q2 : h[k]? with
    | none => rw [q2] at e; cases e
    | some o =>
      rw [q2] at e
      cases o with
      | lst xs =>
        obtain ⟨e1, e2⟩ := some_pair e
        obtain ⟨a, ys, ex, _, hy, _⟩ := at_lst r q q2
        subst ex
        exact ⟨.inl ⟨rfl, ys, SqL.of hy⟩, e1.symm, e2.symm, k, xs, rfl, q2⟩
      | _ => cases e
  | _ => cases e
def metL (g : D → List D → M D) (mo : Sm → M D) (ms : Sm → M (List D)) : Sm → M D := fun σ => mo σ >>= isL >>= fun d => ms σ >>= fun xs => g d xs
def MtL (T : Tx) (r : V → List V → Hp → VK → Prop) (g : D → List D → M D) : Prop := ∀ (ι : List Addr) (H : Hp) (h : Hm) (x : V) (o : D) (xs : List V) (ds : List D) (d : D) (h1 : Hm) (Q : VK), Rl T ι H h → RV T ι H o x → RVs T ι H ds xs → g o ds h = some (d, h1) →
  (∀ ι1 H1 v, Ex ι H ι1 H1 → Rl T ι1 H1 h1 → RV T ι1 H1 d v → Q v H1) → r x xs H Q
variable {o e : Expr} {es : List Expr} {mo me : Sm → M D} {ms : Sm → M (List D)} {apos cpos : Pos} {name : Str} {id : String} {r : V → List V → Hp → VK → Prop} {g : D → List D → M D}
theorem m_metL (slot : Slot "list" name id) (hty : typeOf (.builtin id) = pure (.type "method_descriptor")) (hm : MtR X id r) (hg : MtL (tx X) r g) (ho : PE X o (lf (tx X) mo)) (ha : PA X (e :: es) (lfA (tx X) ms)) (hbase : attributeBase o name X.env (eval o X.env) = eval o X.env := by rfl)
    (hfew : ((backTo cpos (starEach (e :: es) X.env)).all (fun x => !x.1) && (backToKw cpos (keywordEach [] X.env)).all (fun x => x.1.isSome) && decide ((e :: es).length + ([] : List Keyword).length + (if ([] : List Keyword).isEmpty then 0 else 1) < 30)) = true := by rfl)
    (hline : (apos.endLine == cpos.line) = true := by rfl) (hs : starEach (e :: es) X.env = (false, eval e X.env) :: starEach es X.env := by rfl) (hplain : (backTo cpos (starEach es X.env)).any (·.1) = false := by rfl) :
    PE X (.Call (.Attribute o name apos) (e :: es) [] cpos) (lf (tx X) (metL g mo ms)) := (pe_bm PySem.F.plainAttrs_list slot hty hm ho ha hbase hfew hline hs hplain).imp fun σ H Q q => by
  obtain ⟨ι, σm, h, d, h1, r, rs, e, k⟩ := q
  obtain ⟨d1, h2, e1, e2⟩ := bind_some e
  obtain ⟨d0, h0, e3, e4⟩ := bind_some e1
  refine ⟨ι, σm, h, d0, h0, r, rs, e3, fun ι1 H1 x x1 r1 q1 => ?_⟩
  obtain ⟨ty, ed, eh, _⟩ := isL_ty r1 q1 e4
  subst ed eh
  refine ⟨ty, lfA_then r1 (rs.up (x1.up r)) e2 (P := fun ι2 H2 => ∀ v, Rl (tx X) ι2 H2 h1 → RV (tx X) ι2 H2 d v → Q v H2) (fun ι2 H2 y v => k ι2 H2 v (x1.trans r1 y)) fun ι2 H2 xs ds h3 x2 r2 rs2 q2 e5 k2 => ?_⟩
  exact hg ι2 H2 h3 x d1 xs ds d h1 Q r2 (RV.up (x2.up r1) _ _ q1) q2 e5 fun ι3 H3 v x3 => k2 ι3 H3 x3 v
theorem m_metL0 (slot : Slot "list" name id) (hty : typeOf (.builtin id) = pure (.type "method_descriptor")) (hm : MtR X id r) (hg : MtL (tx X) r g) (ho : PE X o (lf (tx X) mo)) (hbase : attributeBase o name X.env (eval o X.env) = eval o X.env := by rfl) (hline : (apos.endLine == cpos.line) = true := by rfl) :
    PE X (.Call (.Attribute o name apos) [] [] cpos) (lf (tx X) (metL g mo nilA)) := (pe_bm0 PySem.F.plainAttrs_list slot hty hm ho hbase hline).imp fun σ H Q q => by
  obtain ⟨ι, σm, h, d, h1, r, rs, e, k⟩ := q
  obtain ⟨d1, h2, e1, e2⟩ := bind_some e
  obtain ⟨d0, h0, e3, e4⟩ := bind_some e1
  refine ⟨ι, σm, h, d0, h0, r, rs, e3, fun ι1 H1 x x1 r1 q1 => ?_⟩
  obtain ⟨ty, ed, eh, _⟩ := isL_ty r1 q1 e4
  subst ed eh
  exact ⟨ty, hg ι1 H1 h2 x d1 [] [] d h1 Q r1 q1 (by rw [RVs]) e2 fun ι3 H3 v x3 => k ι3 H3 v (x1.trans r1 x3)⟩
def appL (o : D) (ds : List D) : M D := fun h => match o, ds with
  | .ref k, [d] => (match h[k]? with
    | some (.lst xs) => if xs.length < sizeLine then some (.non, h.set k (.lst (xs ++ [d]))) else none
    | _ => none)
  | _, _ => none
theorem ml_app : MtL (tx X) rAppend appL := by
  intro ι H h x o xs ds d h1 Q r qo qs e k
  unfold appL at e
  split at e
  · rename_i kk dd
    cases q2 : h[kk]? with
    | none => rw [q2] at e; cases e
    | some ob =>
      rw [q2] at e
      cases ob with
      | lst ys =>
        obtain ⟨a, zs, ex, ha, hz, qz⟩ := at_lst r qo q2
        obtain ⟨y, ey, qy⟩ := RVs1 qs
        have e : (if ys.length < sizeLine then some (D.non, h.set kk (.lst (ys ++ [dd]))) else none) = some (d, h1) := e
        by_cases hl : ys.length < sizeLine
        · rw [if_pos hl] at e
          obtain ⟨e1, e2⟩ := some_pair e
          subst e1 e2
          refine ⟨a, zs, y, ex, ey, hz, by rw [qz.length]; exact hl, ?_⟩
          obtain ⟨x4, r4⟩ := r.put (u := .lst (zs ++ [y])) (o := .lst (ys ++ [dd])) ha hz trivial fun up => ⟨_, upd_same, RVs.append (RVs.up up _ _ qz) (by rw [RVs]; exact ⟨y, [], rfl, RV.up up _ _ qy, by rw [RVs]⟩)⟩
          exact k _ _ _ x4 r4 (by rw [RV])
        · rw [if_neg hl] at e; cases e
      | _ => cases e
  · cases e
def extL (o : D) (ds : List D) : M D := fun h => match o, ds with
  | .ref k, [.ref j] => (match h[k]?, h[j]? with
    | some (.lst xs), some (.lst ys) => if xs.length + ys.length ≤ sizeLine then some (.non, h.set k (.lst (xs ++ ys))) else none
    | _, _ => none)
  | _, _ => none
theorem ml_ext : MtL (tx X) rExtend extL := by
  intro ι H h x o xs ds d h1 Q r qo qs e k
  unfold extL at e
  split at e
  · rename_i kk jj
    cases q2 : h[kk]? with
    | none => rw [q2] at e; cases e
    | some ob =>
      cases q3 : h[jj]? with
      | none => rw [q2, q3] at e; cases ob <;> cases e
      | some ob2 =>
        rw [q2, q3] at e
        cases ob with
        | lst ys =>
          cases ob2 with
          | lst ws =>
            obtain ⟨a, zs, ex, ha, hz, qz⟩ := at_lst r qo q2
            obtain ⟨y, ey, qy⟩ := RVs1 qs
            obtain ⟨b, vs, ex2, hb, hv, qv⟩ := at_lst r qy q3
            have e : (if ys.length + ws.length ≤ sizeLine then some (D.non, h.set kk (.lst (ys ++ ws))) else none) = some (d, h1) := e
            by_cases hl : ys.length + ws.length ≤ sizeLine
            · rw [if_pos hl] at e
              obtain ⟨e1, e2⟩ := some_pair e
              subst e1 e2
              refine ⟨a, b, zs, vs, ex, by rw [ey, ex2], hz, hv, by rw [qz.length, qv.length]; exact hl, ?_⟩
              obtain ⟨x4, r4⟩ := r.put (u := .lst (zs ++ vs)) (o := .lst (ys ++ ws)) ha hz trivial fun up => ⟨_, upd_same, RVs.append (RVs.up up _ _ qz) (RVs.up up _ _ qv)⟩
              exact k _ _ _ x4 r4 (by rw [RV])
            · rw [if_neg hl] at e; cases e
          | _ => cases e
        | _ => cases e
  · cases e
def popL (o : D) (ds : List D) : M D := fun h => match o, ds with
  | .ref k, [] => (match h[k]? with
    | some (.lst xs) => (xs[xs.length - 1]?).map fun y => (y, h.set k (.lst xs.dropLast))
    | _ => none)
  | _, _ => none
theorem RVs.dropLast {T : Tx} {ι : List Addr} {H : Hp} {ds : List D} {xs : List V} (r : RVs T ι H ds xs) : RVs T ι H ds.dropLast xs.dropLast := by
  rw [List.dropLast_eq_take, List.dropLast_eq_take, r.length]
  exact RVs.take _ r
theorem ml_pop : MtL (tx X) rPop popL := by
  intro ι H h x o xs ds d h1 Q r qo qs e k
  unfold popL at e
  split at e
  · rename_i kk
    cases q2 : h[kk]? with
    | none => rw [q2] at e; cases e
    | some ob =>
      rw [q2] at e
      cases ob with
      | lst ys =>
        obtain ⟨a, zs, ex, ha, hz, qz⟩ := at_lst r qo q2
        rw [RVs] at qs
        obtain ⟨y, ey, e2⟩ := Option.map_eq_some_iff.mp (show (ys[ys.length - 1]?).map (fun y => (y, h.set kk (.lst ys.dropLast))) = some (d, h1) from e)
        injection e2 with e3 e4
        subst e3 e4
        obtain ⟨v, ev, qv⟩ := qz.get ey
        refine ⟨a, zs, v, ex, qs, hz, by rw [qz.length]; exact ev, ?_⟩
        obtain ⟨x4, r4⟩ := r.put (u := .lst zs.dropLast) (o := .lst ys.dropLast) ha hz trivial fun up => ⟨_, upd_same, RVs.up up _ _ (RVs.dropLast qz)⟩
        exact k _ _ _ x4 r4 (RV.up (x4.up r) _ _ qv)
      | _ => cases e
  · cases e
/-- found.extend([..]), a list that is made for it -/
def extN (mo : Sm → M D) (ms : Sm → M (List D)) : Sm → M D := metL extL mo fun σ => newM ms σ >>= fun d => pure [d]
theorem pa_new (he : PE X e (lfL (tx X) ms)) (hs : starEach [e] X.env = (false, eval e X.env) :: starEach [] X.env := by rfl) : PA X [e] (lfA (tx X) (consA (newM ms) nilA)) := a_cons (m_new he) a_nil hs
end
end ML

set_option Elab.async false
set_option linter.all false
set_option maxRecDepth 100000
set_option autoImplicit false
namespace ML
open PySem L2
/-! ### in -/
open Classical in
noncomputable def isEq (hp : Heap) (d : PyData) : Value → Bool := fun v => if q : ∃ e, e.canLay0 = true ∧ ∃ as, Reads hp v e as then PyData.eqv q.choose d else false
theorem isEq_of {hp : Heap} {d e : PyData} {v : Value} {as : List Addr} (c : e.canLay0 = true) (r : Reads hp v e as) : isEq hp d v = PyData.eqv e d := by
  have q : ∃ e, e.canLay0 = true ∧ ∃ as, Reads hp v e as := ⟨e, c, as, r⟩
  unfold isEq
  rw [dif_pos q]
  obtain ⟨k1, as', k2⟩ := q.choose_spec
  rw [PySem.SeqAt.Reads.unique _ _ _ _ _ k1 k2 r]
theorem any_each {hp : Heap} {d : PyData} : ∀ {us : List Value} {es : List PyData}, PySem.W.EachIs (fun v d => ∃ as, Reads hp v d as) us es → (∀ e ∈ es, e.canLay0 = true) → us.any (isEq hp d) = es.any fun e => PyData.eqv e d
  | _, _, .nil, _ => rfl
  | _, _, .cons ⟨as, r⟩ t, c => by
    rw [List.any_cons, List.any_cons, isEq_of (c _ List.mem_cons_self) r, any_each t fun e he => c e (List.mem_cons_of_mem _ he)]
/-- the items of a value that is a list or a tuple -/
def seqOf (h : Hm) : D → Option (List D)
  | .tup xs => some xs
  | .fro xs => some xs
  | .ref k => (match h[k]? with
    | some (.lst xs) => some xs
    | _ => none)
  | _ => none
def inD (neg : Bool) (x y : D) : M D := fun h => match seqOf h y with
  | some xs => if okD x = true ∧ (xs.all okD) = true then some (.bl (if neg then !(xs.any fun y => PyData.eqv (toP y) (toP x)) else xs.any fun y => PyData.eqv (toP y) (toP x)), h) else none
  | none => (match y with
    | .ref k => (match h[k]? with
      | some (.dic kvs) => if (kD x).isSome = true then some (.bl (if neg then !(getK kvs x).isSome else (getK kvs x).isSome), h) else none
      | _ => none)
    | _ => none)
def rInD (X : Cx) (neg : Bool) : R2 := fun x y H Q => (∃ ι h d ds p xs, Rl (tx X) ι H h ∧ RV (tx X) ι H d x ∧ y = .ref p ∧ (SqL X.K H p xs ∨ SqT X.K H p xs) ∧ RVs (tx X) ι H ds xs ∧ okD d = true ∧ (ds.all okD) = true ∧
    Q (.bl (if neg then !(ds.any fun y => PyData.eqv (toP y) (toP d)) else ds.any fun y => PyData.eqv (toP y) (toP d))) H) ∨ (∃ a o, y = .ref a ∧ DGet H a x o ∧ Q (.bl (if neg then !o.isSome else o.isSome)) H)
section
variable {X : Cx}
theorem any_toP {ds : List D} {d : PyData} : ((ds.map toP).any fun e => PyData.eqv e d) = ds.any fun y => PyData.eqv (toP y) d := by
  rw [List.any_map]
  rfl
theorem in_all {pins : List (Addr × Obj)} {σ : St} {H : Hp} {s : Shared} {A : Around} {ι : List Addr} {d : D} {ds : List D} {x : V} {xs : List V} {v : Value} {us : List Value} (hu : A.units + 64 < cLine) (I : Inv X pins σ H s) (q : RV (tx X) ι H d x) (rx : RelV x v) (qs : RVs (tx X) ι H ds xs) (r : Vals xs us) (okd : okD d = true) (okds : ds.all okD = true) :
    (∀ u ∈ us, SeqAt.EqAt A s u v (isEq s.heap (toP d) u)) ∧ us.any (isEq s.heap (toP d)) = ds.any fun y => PyData.eqv (toP y) (toP d) := by
  rw [List.all_eq_true] at okds
  have e := each_reads I qs r okds
  obtain ⟨bs, rb⟩ := Dp.reads I (toP d) x v (dp_of d x q (okD_lay okd)) rx
  have cl : ∀ e ∈ ds.map toP, e.canLay0 = true := fun e he => by
    obtain ⟨y, hy, rfl⟩ := List.mem_map.mp he
    exact okD_lay (okds y hy)
  refine ⟨fun u hu' => ?_, by rw [any_each e cl, any_toP]⟩
  obtain ⟨e1, he1, as, ra⟩ := e.left u hu'
  rw [isEq_of (cl e1 he1) ra]
  obtain ⟨y, hy, rfl⟩ := List.mem_map.mp he1
  exact SeqAt.eqAt_reads _ _ A s _ _ _ _ ra rb (cl _ he1) (okD_lay okd) (SeqAt.room_of_shaped (okds y hy) hu)
theorem o_in (hu : X.A.units + 100 < cLine) : OpR X (compareOp .In) (rInD X false) := by
  intro pins s σ H x y v u Q I rx ry h
  have hu1 : X.A.in1.units + 64 < cLine := by show X.A.units + 1 + 64 < cLine; omega
  rcases h with ⟨ι, h, d, ds, p, xs, r, q, rfl, hq, qs, okd, okds, fin⟩ | ⟨a, o, rfl, g, fin⟩
  · cases ry
    rcases hq with hq | hq
    · obtain ⟨its, rr, pl, hz⟩ := I.list hq
      obtain ⟨k1, k2⟩ := in_all hu1 I q rx qs rr okd okds
      refine SeqAt.in_listAt (isEq s.heap (toP d)) pl.isList (fun w hw => k1 w (by simpa using hw)) ⟨.bl _, H, I, rfl, ?_⟩
      rw [show its.toArray.any (isEq s.heap (toP d)) = its.any (isEq s.heap (toP d)) by simp, k2]
      exact fin
    · obtain ⟨its, rr, pl, hz⟩ := I.tuple hq
      obtain ⟨k1, k2⟩ := in_all hu1 I q rx qs rr okd okds
      refine SeqAt.in_tupleAt (isEq s.heap (toP d)) pl (fun w hw => k1 w (by simpa using hw)) ⟨.bl _, H, I, rfl, ?_⟩
      rw [show its.toArray.any (isEq s.heap (toP d)) = its.any (isEq s.heap (toP d)) by simp, k2]
      exact fin
  · cases ry
    exact d_in (by omega) I g rx fun s3 I3 => ⟨.bl o.isSome, H, I3, rfl, fin⟩
theorem o_notIn (hu : X.A.units + 100 < cLine) : OpR X (compareOp .NotIn) (rInD X true) := by
  intro pins s σ H x y v u Q I rx ry h
  have hu1 : X.A.in1.units + 64 < cLine := by show X.A.units + 1 + 64 < cLine; omega
  rcases h with ⟨ι, h, d, ds, p, xs, r, q, rfl, hq, qs, okd, okds, fin⟩ | ⟨a, o, rfl, g, fin⟩
  · cases ry
    rcases hq with hq | hq
    · obtain ⟨its, rr, pl, hz⟩ := I.list hq
      obtain ⟨k1, k2⟩ := in_all hu1 I q rx qs rr okd okds
      refine SeqAt.notIn_listAt (isEq s.heap (toP d)) pl.isList (fun w hw => k1 w (by simpa using hw)) ⟨.bl _, H, I, rfl, ?_⟩
      rw [show its.toArray.any (isEq s.heap (toP d)) = its.any (isEq s.heap (toP d)) by simp, k2]
      exact fin
    · obtain ⟨its, rr, pl, hz⟩ := I.tuple hq
      obtain ⟨k1, k2⟩ := in_all hu1 I q rx qs rr okd okds
      refine SeqAt.notIn_tupleAt (isEq s.heap (toP d)) pl (fun w hw => k1 w (by simpa using hw)) ⟨.bl _, H, I, rfl, ?_⟩
      rw [show its.toArray.any (isEq s.heap (toP d)) = its.any (isEq s.heap (toP d)) by simp, k2]
      exact fin
  · cases ry
    exact d_notIn (by omega) I g rx fun s3 I3 => ⟨.bl (!o.isSome), H, I3, rfl, fin⟩
theorem hu100 {k : Nat} {A : Around} (r : Room k A) : A.units + 100 < cLine := by have := r.un; omega
/-- a dict of ours at a value -/
theorem at_dic {ι : List Addr} {H : Hp} {h : Hm} {T : Tx} {k : Nat} {x : V} {kvs : List (D × D)} (r : Rl T ι H h) (q : RV T ι H (.ref k) x) (e : h[k]? = some (.dic kvs)) : ∃ a ks, x = .ref a ∧ ι[k]? = some a ∧ H a = some (.dK ks) ∧ KRs T ι H kvs ks := by
  rw [RV] at q
  obtain ⟨a, ha, ea⟩ := q
  obtain ⟨ys, hy, qs⟩ := r.obj k a _ ha e
  exact ⟨a, ys, ea, ha, hy, qs⟩
theorem isSome_val {T : Tx} {ι : List Addr} {H : Hp} {x : D} {key : Key} {kvs : List (D × D)} {ks : List (Key × V)} (ek : kD x = some key) (q : KRs T ι H kvs ks) : (valV ks key).isSome = (getK kvs x).isSome := by
  obtain ⟨g1, g2⟩ := getK_rv ek q
  cases e : getK kvs x with
  | none => rw [g2 e]; rfl
  | some d =>
    obtain ⟨v, ev, _⟩ := g1 d e
    rw [ev]
    rfl
theorem o2_inD {neg : Bool} : Op2 (tx X) (rInD X neg) (inD neg) := by
  intro ι H h x y a b d h1 Q r qa qb e k
  unfold inD at e
  cases es : seqOf h b with
  | some xs =>
    rw [es] at e
    have e : (if okD a = true ∧ (xs.all okD) = true then some (D.bl (if neg then !(xs.any fun y => PyData.eqv (toP y) (toP a)) else xs.any fun y => PyData.eqv (toP y) (toP a)), h) else none) = some (d, h1) := e
    by_cases c : okD a = true ∧ (xs.all okD) = true
    · rw [if_pos c] at e
      obtain ⟨e1, e2⟩ := some_pair e
      subst e1 e2
      have fin := k ι H _ (Ex.refl _ _) r (by rw [RV])
      cases b with
      | tup ds =>
        cases es
        rw [RV] at qb
        obtain ⟨p, ys, ep, s, q⟩ := qb
        exact .inl ⟨ι, h, a, xs, p, ys, r, qa, ep, .inr s, q, c.1, c.2, fin⟩
      | fro ds =>
        cases es
        rw [RV] at qb
        obtain ⟨p, ys, ep, s, q⟩ := qb
        exact .inl ⟨ι, h, a, xs, p, ys, r, qa, ep, .inl s.sq, q, c.1, c.2, fin⟩
      | ref kk =>
        have es : (match h[kk]? with | some (.lst xs) => some xs | _ => none) = some xs := es
        cases q2 : h[kk]? with
        | none => rw [q2] at es; cases es
        | some ob =>
          rw [q2] at es
          cases ob with
          | lst ds =>
            cases es
            obtain ⟨p, ys, ep, _, hy, q⟩ := at_lst r qb q2
            exact .inl ⟨ι, h, a, xs, p, ys, r, qa, ep, .inl (SqL.of hy), q, c.1, c.2, fin⟩
          | _ => cases es
      | _ => cases es
    · rw [if_neg c] at e; cases e
  | none =>
    rw [es] at e
    cases b with
    | ref kk =>
      have e : (match h[kk]? with | some (.dic kvs) => if (kD a).isSome = true then some (D.bl (if neg then !(getK kvs a).isSome else (getK kvs a).isSome), h) else none | _ => none) = some (d, h1) := e
      cases q2 : h[kk]? with
      | none => rw [q2] at e; cases e
      | some ob =>
        rw [q2] at e
        cases ob with
        | dic kvs =>
          have e : (if (kD a).isSome = true then some (D.bl (if neg then !(getK kvs a).isSome else (getK kvs a).isSome), h) else none) = some (d, h1) := e
          by_cases c : (kD a).isSome = true
          · rw [if_pos c] at e
            obtain ⟨e1, e2⟩ := some_pair e
            subst e1 e2
            obtain ⟨key, ek⟩ := Option.isSome_iff_exists.mp c
            obtain ⟨p, ks, ep, _, hy, q⟩ := at_dic r qb q2
            refine .inr ⟨p, valV ks key, ep, ?_, ?_⟩
            · rw [kD_V ek qa]
              exact DGet.k hy
            · rw [isSome_val ek q]
              exact k ι H _ (Ex.refl _ _) r (by rw [RV])
          · rw [if_neg c] at e; cases e
        | _ => cases e
    | _ => cases e
end
end ML

set_option Elab.async false
set_option linter.all false
set_option maxRecDepth 100000
set_option autoImplicit false
namespace ML
open PySem L2
/-! ### methods of dicts: get, setdefault -/
theorem at_ldic {ι : List Addr} {H : Hp} {h : Hm} {T : Tx} {k : Nat} {x : V} {kvs : List (D × D)} (r : Rl T ι H h) (q : RV T ι H (.ref k) x) (e : h[k]? = some (.ldic kvs)) : ∃ a o ks, x = .ref a ∧ ι[k]? = some a ∧ H a = some (.frz o (.dK ks)) ∧ KRs T ι H kvs ks := by
  rw [RV] at q
  obtain ⟨a, ha, ea⟩ := q
  obtain ⟨o, ys, hy, qs⟩ := r.obj k a _ ha e
  exact ⟨a, o, ys, ea, ha, hy, qs⟩
def isDc (d : D) : M D := fun h => match d with
  | .ref k => (match h[k]? with
    | some (.dic _) => some (d, h)
    | some (.ldic _) => some (d, h)
    | _ => none)
  | _ => none
theorem isDc_of {ι : List Addr} {H : Hp} {h h1 : Hm} {T : Tx} {x : V} {d d1 : D} (r : Rl T ι H h) (q : RV T ι H d x) (e : isDc d h = some (d1, h1)) : d1 = d ∧ h1 = h ∧ ∃ a, x = .ref a ∧ IsD H a := by
  cases d with
  | ref k =>
    have e : (match h[k]? with | some (.dic _) => some (D.ref k, h) | some (.ldic _) => some (D.ref k, h) | _ => none) = some (d1, h1) := e
    cases q2 : h[k]? with
    | none => rw [q2] at e; cases e
    | some o =>
      rw [q2] at e
      cases o with
      | dic kvs =>
        obtain ⟨e1, e2⟩ := some_pair e
        obtain ⟨a, ks, ex, _, hy, _⟩ := at_dic r q q2
        exact ⟨e1.symm, e2.symm, a, ex, .inl ⟨ks, .inl hy⟩⟩
      | ldic kvs =>
        obtain ⟨e1, e2⟩ := some_pair e
        obtain ⟨a, o, ks, ex, _, hy, _⟩ := at_ldic r q q2
        exact ⟨e1.symm, e2.symm, a, ex, .inl ⟨ks, .inr ⟨o, hy⟩⟩⟩
      | _ => cases e
  | _ => cases e
/-- d.get(k, x) -/
def get2D (o key x : D) : M D := fun h => match o with
  | .ref k => (match h[k]? with
    | some (.dic kvs) => if (kD key).isSome = true then some ((getK kvs key).getD x, h) else none
    | some (.ldic kvs) => if (kD key).isSome = true then some ((getK kvs key).getD x, h) else none
    | _ => none)
  | _ => none
def met2D (g : D → D → D → M D) (mo mk mx : Sm → M D) : Sm → M D := fun σ => mo σ >>= isDc >>= fun d => mk σ >>= fun k => mx σ >>= fun x => g d k x
section
variable {X : Cx} {o e f : Expr} {mo mk mx : Sm → M D} {apos cpos : Pos}
theorem getD_rv {T : Tx} {ι : List Addr} {H : Hp} {key : Key} {kd x : D} {kvs : List (D × D)} {ks : List (Key × V)} {v : V} (ek : kD kd = some key) (q : KRs T ι H kvs ks) (qx : RV T ι H x v) : RV T ι H ((getK kvs kd).getD x) ((valV ks key).getD v) := by
  obtain ⟨g1, g2⟩ := getK_rv ek q
  cases e : getK kvs kd with
  | none => rw [g2 e]; exact qx
  | some d =>
    obtain ⟨w, ew, qw⟩ := g1 d e
    rw [ew]
    exact qw
theorem m_dget2 (hu : X.A.units + 1 < cLine) (ho : PE X o (lf (tx X) mo)) (he : PE X e (lf (tx X) mk)) (hf : PE X f (lf (tx X) mx)) (m : M2 X o "get" apos e f cpos) : PE X (.Call (.Attribute o "get" apos) [e, f] [] cpos) (lf (tx X) (met2D get2D mo mk mx)) := (pe_dget2 hu ho he hf m).imp fun σ H Q q => by
  obtain ⟨ι, σm, h, d, h1, r, rs, e, k⟩ := q
  obtain ⟨d1, h2, e1, e2⟩ := bind_some e
  obtain ⟨d0, h0, e3, e4⟩ := bind_some e1
  refine ⟨ι, σm, h, d0, h0, r, rs, e3, fun ι1 H1 x x1 r1 q1 => ?_⟩
  obtain ⟨ed, eh, a, ex, id⟩ := isDc_of r1 q1 e4
  subst ed eh
  refine ⟨a, ex, id, ?_⟩
  refine lf_then r1 (rs.up (x1.up r)) e2 (P := fun ι2 H2 => ∀ v, Rl (tx X) ι2 H2 h1 → RV (tx X) ι2 H2 d v → Q v H2) (fun ι2 H2 y v => k ι2 H2 v (x1.trans r1 y)) fun ι2 H2 ky kd h3 x2 r2 rs2 q2 e5 k2 => ?_
  refine lf_then r2 rs2 e5 k2 fun ι3 H3 xv xd h4 x3 r3 rs3 q3 e6 k3 => ?_
  have q1' := RV.up (x3.up r2) _ _ (RV.up (x2.up r1) _ _ q1)
  have q2' := RV.up (x3.up r2) _ _ q2
  cases d1 with
  | ref kk =>
    have e6 : (match h4[kk]? with | some (.dic kvs) => if (kD kd).isSome = true then some ((getK kvs kd).getD xd, h4) else none | some (.ldic kvs) => if (kD kd).isSome = true then some ((getK kvs kd).getD xd, h4) else none | _ => none) = some (d, h1) := e6
    cases q4 : h4[kk]? with
    | none => rw [q4] at e6; cases e6
    | some ob =>
      rw [q4] at e6
      cases ob with
      | dic kvs =>
        have e6 : (if (kD kd).isSome = true then some ((getK kvs kd).getD xd, h4) else none) = some (d, h1) := e6
        by_cases c : (kD kd).isSome = true
        · rw [if_pos c] at e6
          obtain ⟨e7, e8⟩ := some_pair e6
          subst e7 e8
          obtain ⟨key, ek⟩ := Option.isSome_iff_exists.mp c
          obtain ⟨p, ks, ep, _, hy, q⟩ := at_dic r3 q1' q4
          have ea : a = p := by rw [ex] at ep; injection ep
          subst ea
          refine ⟨valV ks key, ?_, k3 _ _ (Ex.refl _ _) _ r3 (getD_rv ek q q3)⟩
          rw [kD_V ek q2']
          exact DGet.k hy
        · rw [if_neg c] at e6; cases e6
      | ldic kvs =>
        have e6 : (if (kD kd).isSome = true then some ((getK kvs kd).getD xd, h4) else none) = some (d, h1) := e6
        by_cases c : (kD kd).isSome = true
        · rw [if_pos c] at e6
          obtain ⟨e7, e8⟩ := some_pair e6
          subst e7 e8
          obtain ⟨key, ek⟩ := Option.isSome_iff_exists.mp c
          obtain ⟨p, ob, ks, ep, _, hy, q⟩ := at_ldic r3 q1' q4
          have ea : a = p := by rw [ex] at ep; injection ep
          subst ea
          refine ⟨valV ks key, ?_, k3 _ _ (Ex.refl _ _) _ r3 (getD_rv ek q q3)⟩
          rw [kD_V ek q2']
          exact .inl ⟨ks, key, .inr ⟨ob, hy⟩, rfl, rfl⟩
        · rw [if_neg c] at e6; cases e6
      | _ => cases e6
  | _ => cases e6
/-- d.setdefault(k, x) -/
def setd2D (o key x : D) : M D := fun h => match o with
  | .ref k => (match h[k]? with
    | some (.dic kvs) => if (kD key).isSome = true ∧ kvs.length < sizeLine then (match getK kvs key with
      | some v => some (v, h)
      | none => some (x, h.set k (.dic (putKD kvs key x)))) else none
    | _ => none)
  | _ => none
theorem d_setdef {pins : List (Addr × Obj)} {σ : St} {H : Hp} {s : Shared} {a : Addr} {d : V} {u r : Value} {A : Around} {E : Value → Shared → Prop} {Q : Value → Shared → Prop} {kvs : List (Key × V)} {k : Key} (I : Inv X pins σ H s) (e : H a = some (.dK kvs)) (ry : RelV (kV k) u) (rd : RelV d r) (hl : kvs.length < sizeLine)
    (h1 : ∀ v w' s', valV kvs k = some v → Inv X pins σ H s' → RelV v w' → Q w' s') (h2 : ∀ s', valV kvs k = none → Inv X pins σ (upd H a (.dK (putK kvs k d))) s' → Q r s') :
    wpAny (model X.prog X.w) A (call (.builtin "dict.setdefault") [.ref a, u, r]) Q E s := by
  obtain ⟨z, hd, vs, rel, dd⟩ := dk_of I.hok e
  have hz : vs.length ≤ sizeLine := by rw [← rel.length]; exact z
  have hl2 : (putK kvs k d).length ≤ sizeLine := by have := length_putK kvs k d; omega
  refine call_meetsIn PySem.F.slot_dict_setdefault dd.typeIs PySem.F.entry_dict_setdefault (PySem.F.args_dict_setdefault_3 _ _ _) (PySem.kt_meets_setdefault (mixKind X.prog X.w) a (kV_is ry) hd r) ⟨vs, dd, hz, fun w' hw => ?_, fun hn h' dd' hs => ?_⟩
  · have rv := rel.val k
    rw [hw] at rv
    cases q : valV kvs k with
    | none => rw [q] at rv; exact rv.elim
    | some v =>
      rw [q] at rv
      exact h1 v w' _ q (I.tok _) rv
  · have rv := rel.val k
    rw [hn] at rv
    cases q : valV kvs k with
    | some v => rw [q] at rv; exact rv.elim
    | none =>
      have he : ∃ q, h'.get? a = some q := let ⟨q, _, _, hq, _⟩ := dd'; ⟨q, hq⟩
      exact h2 _ q (d_write I (by rw [e]; exact True.intro) hs he (dk_new hl2 hd (rel.put k rd) dd'))
theorem m_setd (ho : PE X o (lf (tx X) mo)) (he : PE X e (lf (tx X) mk)) (hf : PE X f (lf (tx X) mx)) (m : M2 X o "setdefault" apos e f cpos) : PE X (.Call (.Attribute o "setdefault" apos) [e, f] [] cpos) (lf (tx X) (met2D setd2D mo mk mx)) := by
  refine ⟨fun pins s σ H Q I q => ?_⟩
  obtain ⟨ι, σm, h, d, h1, r, rs, ee, k⟩ := q
  obtain ⟨d1, h2, e1, e2⟩ := bind_some ee
  obtain ⟨d0, h0, e3, e4⟩ := bind_some e1
  refine wpAny_Call_method m.base m.few m.line PySem.F.plainAttrs_dict PySem.F.slot_dict_setdefault PySem.F.type_dict_setdefault (thn (ho.run pins s σ H (fun x H1 => ∃ ι1, Ex ι H ι1 H1 ∧ Rl (tx X) ι1 H1 h0 ∧ RV (tx X) ι1 H1 d0 x) I ⟨ι, σm, h, d0, h0, r, rs, e3, fun ι1 H1 x x1 r1 q1 => ⟨ι1, x1, r1, q1⟩⟩) fun u s1 ⟨x, H1, I1, rx, ι1, x1, r1, q1⟩ => ?_)
  obtain ⟨ed, eh, a, ex, id⟩ := isDc_of r1 q1 e4
  subst ed eh ex
  obtain rfl : u = Value.ref a := rx
  obtain ⟨t1, t2, _⟩ := isD_at I1 id
  refine ⟨t1, t2, ?_⟩
  rw [m.trees]
  obtain ⟨kd, h3, e5, e6⟩ := bind_some e2
  obtain ⟨xd, h4, e7, e8⟩ := bind_some e6
  refine Calls.callWith_builtin rfl (Calls.evalArgs_plain (Calls.spliced_cons (thn (he.run pins s1 σ H1 (fun y H2 => ∃ ι2, Ex ι1 H1 ι2 H2 ∧ Rl (tx X) ι2 H2 h3 ∧ RV (tx X) ι2 H2 kd y) I1 ⟨ι1, σm, h2, kd, h3, r1, rs.up (x1.up r), e5, fun ι2 H2 y x2 r2 q2 => ⟨ι2, x2, r2, q2⟩⟩) fun iv s2 ⟨y, H2, I2, ry, ι2, x2, r2, q2⟩ =>
    Calls.spliced_cons (thn (hf.run pins s2 σ H2 (fun z H3 => ∃ ι3, Ex ι2 H2 ι3 H3 ∧ Rl (tx X) ι3 H3 h4 ∧ RV (tx X) ι3 H3 xd z) I2 ⟨ι2, σm, h3, xd, h4, r2, (rs.up (x1.up r)).up (x2.up r1), e7, fun ι3 H3 z x3 r3 q3 => ⟨ι3, x3, r3, q3⟩⟩) fun fv s3 ⟨z, H3, I3, rz, ι3, x3, r3, q3⟩ => Calls.spliced_nil ?_))))
  have q1' := RV.up (x3.up r2) _ _ (RV.up (x2.up r1) _ _ q1)
  have q2' := RV.up (x3.up r2) _ _ q2
  have x03 := (x1.trans r1 x2).trans r2 x3
  cases d1 with
  | ref kk =>
    have e8 : (match h4[kk]? with | some (.dic kvs) => if (kD kd).isSome = true ∧ kvs.length < sizeLine then (match getK kvs kd with | some v => some (v, h4) | none => some (xd, h4.set kk (.dic (putKD kvs kd xd)))) else none | _ => none) = some (d, h1) := e8
    cases q4 : h4[kk]? with
    | none => rw [q4] at e8; cases e8
    | some ob =>
      rw [q4] at e8
      cases ob with
      | dic kvs =>
        have e8 : (if (kD kd).isSome = true ∧ kvs.length < sizeLine then (match getK kvs kd with | some v => some (v, h4) | none => some (xd, h4.set kk (.dic (putKD kvs kd xd)))) else none) = some (d, h1) := e8
        by_cases c : (kD kd).isSome = true ∧ kvs.length < sizeLine
        · rw [if_pos c] at e8
          obtain ⟨key, ek⟩ := Option.isSome_iff_exists.mp c.1
          obtain ⟨p, ks, ep, hp, hy, q⟩ := at_dic r3 q1' q4
          have ea : a = p := by injection ep
          subst ea
          have ei := kD_V ek q2'
          subst ei
          obtain ⟨g1, g2⟩ := getK_rv ek q
          refine d_setdef I3 hy ry rz (by rw [q.length]; exact c.2) (fun v w' s4 hv I4 rw' => ?_) (fun s4 hv I4 => ?_)
          · cases qg : getK kvs kd with
            | none => rw [g2 qg] at hv; cases hv
            | some dv =>
              rw [qg] at e8
              obtain ⟨e9, e10⟩ := some_pair e8
              subst e9 e10
              obtain ⟨v', hv', qv⟩ := g1 _ qg
              rw [hv] at hv'; cases hv'
              exact ⟨v, H3, I4, rw', k _ _ v x03 r3 qv⟩
          · cases qg : getK kvs kd with
            | some dv =>
              obtain ⟨v', hv', _⟩ := g1 _ qg
              rw [hv] at hv'; cases hv'
            | none =>
              rw [qg] at e8
              obtain ⟨e9, e10⟩ := some_pair e8
              subst e9 e10
              obtain ⟨x4, r4⟩ := r3.put (u := .dK (putK ks key z)) (o := .dic (putKD kvs kd xd)) hp hy trivial fun up => ⟨_, upd_same, KRs.up up _ _ (KRs.put ek q3 q)⟩
              exact ⟨z, _, I4, rz, k _ _ z (x03.trans r3 x4) r4 (RV.up (x4.up r3) _ _ q3)⟩
        · rw [if_neg c] at e8; cases e8
      | _ => cases e8
  | _ => cases e8
end
end ML

set_option Elab.async false
set_option linter.all false
set_option maxRecDepth 100000
set_option autoImplicit false
namespace ML
open PySem L2
/-! ### objects of own classes -/
theorem FRs.lookup {T : Tx} {ι : List Addr} {H : Hp} {f : Str} : ∀ {fs : List (Str × D)} {vs : List (Str × V)}, FRs T ι H fs vs → (∀ d, fs.lookup f = some d → ∃ v, vs.lookup f = some v ∧ RV T ι H d v) ∧ (fs.lookup f = none → vs.lookup f = none)
  | [], vs, r => by
    have e : vs = [] := r
    subst e
    exact ⟨fun d h => by simp at h, fun _ => rfl⟩
  | p :: fs, vs, r => by
    obtain ⟨v, s, e, q, t⟩ := r
    subst e
    obtain ⟨i1, i2⟩ := FRs.lookup (f := f) t
    by_cases hp : f == p.1
    · rw [List.lookup_cons, List.lookup_cons]
      simp only [hp]
      exact ⟨fun d h => by cases h; exact ⟨v, rfl, q⟩, fun h => by cases h⟩
    · rw [List.lookup_cons, List.lookup_cons]
      simp only [hp]
      exact ⟨i1, i2⟩
theorem FRs.length {T : Tx} {ι : List Addr} {H : Hp} : ∀ {fs : List (Str × D)} {vs : List (Str × V)}, FRs T ι H fs vs → vs.length = fs.length
  | [], vs, r => by have e : vs = [] := r; rw [e]; rfl
  | p :: fs, vs, r => by
    obtain ⟨v, s, e, q, t⟩ := r
    rw [e, List.length_cons, List.length_cons, FRs.length t]
/-- an object of ours at a value -/
theorem at_ins {ι : List Addr} {H : Hp} {h : Hm} {T : Tx} {k : Nat} {x : V} {c : Str} {fs : List (Str × D)} (r : Rl T ι H h) (q : RV T ι H (.ref k) x) (e : h[k]? = some (.ins c fs)) : ∃ a C dx vs, x = .ref a ∧ ι[k]? = some a ∧ T.mg c = some (.ref C) ∧ H a = some (.ins C dx vs) ∧ FRs T ι H fs vs := by
  rw [RV] at q
  obtain ⟨a, ha, ea⟩ := q
  obtain ⟨C, dx, vs, hC, hy, qs⟩ := r.obj k a _ ha e
  exact ⟨a, C, dx, vs, ea, ha, hC, hy, qs⟩
def fldD (c f : Str) (d : D) : M D := fun h => match d with
  | .ref k => (match h[k]? with
    | some (.ins c' fs) => if c' = c then (fs.lookup f).map fun v => (v, h) else none
    | _ => none)
  | _ => none
section
variable {X : Cx} {e : Expr} {m : Sm → M D} {c f : Str} {C : Addr} {pos : Pos}
theorem m_fld (hC : X.mg c = some (.ref C)) (cl : Cls X.K C) (na : NoAttr X.K C f) (he : PE X e (lf (tx X) m)) (hb : attributeBase e f X.env (eval e X.env) = eval e X.env := by rfl) : PE X (.Attribute e f pos) (lf (tx X) (op1M (fldD c f) m)) := (pe_fld he hb).imp fun σ H Q q => by
  obtain ⟨ι, σm, h, d, h1, r, rs, e, k⟩ := q
  refine lf_then r rs e (P := fun ι2 H2 => ∀ v, Rl (tx X) ι2 H2 h1 → RV (tx X) ι2 H2 d v → Q v H2) (fun ι2 H2 y v => k ι2 H2 v y) fun ι1 H1 x da h' x1 r1 rs1 q1 e1 k1 => ?_
  cases da with
  | ref kk =>
    have e1 : (match h'[kk]? with | some (.ins c' fs) => if c' = c then (fs.lookup f).map fun v => (v, h') else none | _ => none) = some (d, h1) := e1
    cases q2 : h'[kk]? with
    | none => rw [q2] at e1; cases e1
    | some ob =>
      rw [q2] at e1
      cases ob with
      | ins c' fs =>
        have e1 : (if c' = c then (fs.lookup f).map fun v => (v, h') else none) = some (d, h1) := e1
        by_cases hc : c' = c
        · subst hc
          rw [if_pos rfl] at e1
          obtain ⟨a, C', dx, vs, ex, ha, hC', hy, qf⟩ := at_ins r1 q1 q2
          have eC : C' = C := by
            have z : X.mg c' = some (.ref C') := hC'
            rw [hC] at z
            injection z with z
            injection z with z
            exact z.symm
          subst eC
          obtain ⟨d', el, e2⟩ := Option.map_eq_some_iff.mp e1
          injection e2 with e3 e4
          subst e3 e4
          obtain ⟨v, ev, qv⟩ := (qf.lookup).1 d' el
          exact ⟨a, C', dx, vs, v, ex, hy, cl, na, ev, k1 _ _ (Ex.refl _ _) v r1 qv⟩
        · rw [if_neg hc] at e1; cases e1
      | _ => cases e1
  | _ => cases e1
/-- o.f = value -/
def putFD (f : Str) (d : D) : List (Str × D) → List (Str × D)
  | [] => [(f, d)]
  | p :: r => if p.1 = f then (p.1, d) :: r else p :: putFD f d r
theorem FRs.put {T : Tx} {ι : List Addr} {H : Hp} {f : Str} {d : D} {v : V} (qv : RV T ι H d v) : ∀ {fs : List (Str × D)} {vs : List (Str × V)}, FRs T ι H fs vs → FRs T ι H (putFD f d fs) (putF f v vs)
  | [], vs, r => by
    have e : vs = [] := r
    subst e
    exact ⟨v, [], rfl, qv, rfl⟩
  | p :: fs, vs, r => by
    obtain ⟨w, s, e, q, t⟩ := r
    subst e
    unfold putFD putF
    by_cases hp : p.1 = f
    · rw [if_pos hp, if_pos hp]
      exact ⟨v, s, rfl, qv, t⟩
    · rw [if_neg hp, if_neg hp]
      exact ⟨w, _, rfl, q, FRs.put qv t⟩
def fldS (c f : Str) (mv mo : Sm → M D) : Sm → M Fl := fun σ => mv σ >>= fun v => mo σ >>= fun o => fun h => match o with
  | .ref k => (match h[k]? with
    | some (.ins c' fs) => if c' = c ∧ fs.length < 1000 then some (.nx σ, h.set k (.ins c (putFD f v fs))) else none
    | _ => none)
  | _ => none
theorem same_cls {c : Str} {C C' : Addr} (hC : X.mg c = some (.ref C)) (hC' : (tx X).mg c = some (.ref C')) : C' = C := by
  have z : X.mg c = some (.ref C') := hC'
  rw [hC] at z
  injection z with z
  injection z with z
  exact z.symm
theorem s_fld {o value : Expr} {mo mv : Sm → M D} {pos' : Pos} (hC : X.mg c = some (.ref C)) (cl : Cls X.K C) (na : NoAttr X.K C f) (ho : PE X o (lf (tx X) mo)) (hv : PE X value (lf (tx X) mv)) (hs : swapsWith value (some (.Attribute o f pos')) pos.line X.env = pure false := by rfl) :
    PS X (.Assign [.Attribute o f pos'] value pos) (lfS (tx X) (fldS c f mv mo)) := (ps_fld ho hv hs).imp fun D σ H q => by
  obtain ⟨ι, σm, h, fl, h1, r, rs, e, k⟩ := q
  refine lf_then r rs e (P := fun ι2 H2 => Rl (tx X) ι2 H2 h1 → EndF (tx X) ι2 H2 D fl) k fun ι1 H1 v dv h' x1 r1 rs1 q1 e1 k1 => ?_
  refine lf_then r1 rs1 e1 k1 fun ι2 H2 ov dd h2 x2 r2 rs2 q2 e2 k2 => ?_
  cases dd with
  | ref kk =>
    have e2 : (match h2[kk]? with | some (.ins c' fs) => if c' = c ∧ fs.length < 1000 then some (Fl.nx σm, h2.set kk (.ins c (putFD f dv fs))) else none | _ => none) = some (fl, h1) := e2
    cases q3 : h2[kk]? with
    | none => rw [q3] at e2; cases e2
    | some ob =>
      rw [q3] at e2
      cases ob with
      | ins c' fs =>
        have e2 : (if c' = c ∧ fs.length < 1000 then some (Fl.nx σm, h2.set kk (.ins c (putFD f dv fs))) else none) = some (fl, h1) := e2
        by_cases hc : c' = c ∧ fs.length < 1000
        · rw [if_pos hc] at e2
          obtain ⟨hc1, hc2⟩ := hc
          subst hc1
          obtain ⟨e3, e4⟩ := some_pair e2
          subst e3 e4
          obtain ⟨a, C', dx, vs, ex, ha, hC', hy, qf⟩ := at_ins r2 q2 q3
          have eC := same_cls hC hC'
          subst eC
          obtain ⟨x3, r3⟩ := r2.put (u := .ins C' dx (putF f v vs)) (o := .ins c' (putFD f dv fs)) ha hy trivial fun up => ⟨C', dx, _, hC, upd_same, FRs.up up _ _ (FRs.put (RV.up (x2.up r1) _ _ q1) qf)⟩
          exact ⟨a, C', dx, vs, ex, hy, cl, na, by rw [qf.length]; exact hc2, k2 _ _ x3 r3 σ (rs2.up (x3.up r2))⟩
        · rw [if_neg hc] at e2; cases e2
      | _ => cases e2
  | _ => cases e2
/-- a method's object -/
def isI (c m : Str) (d : D) : M D := fun h => match d with
  | .ref k => (match h[k]? with
    | some (.ins c' fs) => if c' = c ∧ fs.lookup m = none then some (d, h) else none
    | _ => none)
  | _ => none
theorem isI_of {ι : List Addr} {H : Hp} {h h1 : Hm} {x : V} {d d1 : D} {c m : Str} {C : Addr} (hC : X.mg c = some (.ref C)) (r : Rl (tx X) ι H h) (q : RV (tx X) ι H d x) (e : isI c m d h = some (d1, h1)) : d1 = d ∧ h1 = h ∧ ∃ a dx vs, x = .ref a ∧ H a = some (.ins C dx vs) ∧ vs.lookup m = none := by
  cases d with
  | ref k =>
    have e : (match h[k]? with | some (.ins c' fs) => if c' = c ∧ fs.lookup m = none then some (D.ref k, h) else none | _ => none) = some (d1, h1) := e
    cases q2 : h[k]? with
    | none => rw [q2] at e; cases e
    | some o =>
      rw [q2] at e
      cases o with
      | ins c' fs =>
        have e : (if c' = c ∧ fs.lookup m = none then some (D.ref k, h) else none) = some (d1, h1) := e
        by_cases hc : c' = c ∧ fs.lookup m = none
        · rw [if_pos hc] at e
          obtain ⟨e1, e2⟩ := some_pair e
          obtain ⟨a, C', dx, vs, ex, _, hC', hy, qf⟩ := at_ins r q q2
          rw [hc.1] at hC'
          have eC := same_cls hC hC'
          subst eC
          exact ⟨e1.symm, e2.symm, a, dx, vs, ex, hy, (qf.lookup).2 hc.2⟩
        · rw [if_neg hc] at e; cases e
      | _ => cases e
  | _ => cases e
def metI (c m : Str) (F : List D → M D) (n : Nat) (mo : Sm → M D) (ms : Sm → M (List D)) : Sm → M D := fun σ => mo σ >>= isI c m >>= fun o => ms σ >>= fun ds => if (o :: ds).length = n then F (o :: ds) else M.bad
variable {o : Expr} {es : List Expr} {mo : Sm → M D} {ms : Sm → M (List D)} {apos : Pos} {k n : Nat} {fa : Addr} {fd : FuncData} {ps : List Str} {F : List D → M D} {mt x : Str} {p : Pos}
theorem m_meth {pl : Sem Bool} (hC : X.mg c = some (.ref C)) (ho : PE X o (lf (tx X) mo)) (cl : Cls X.K C) (hm : Meth X.K C mt fa) (G : FnOk X.prog X.w X.K X.mg X.base CX0 k fa fd ps (spM (tx X) n F)) (hr : Room k X.A) (hb : Binds X.K fd ps []) (ha : PA X (e :: es) (lfA (tx X) ms))
    (hst : starEach (e :: es) X.env = (false, eval e X.env) :: starEach es X.env := by rfl) (hpl : (backTo pos (starEach es X.env)).any (·.1) = false := by rfl)
    (ht : eval (.Call (.Attribute o mt apos) (e :: es) [] pos) X.env = (do
      let ov ← eval o X.env
      standAt apos.atName
      let (f, first) ← holding [ov] (getMethod ov mt pl)
      callWith pos f first (backTo pos (starEach (e :: es) X.env)) (backToKw pos (keywordEach [] X.env))) := by rfl) :
    PE X (.Call (.Attribute o mt apos) (e :: es) [] pos) (lf (tx X) (metI c mt F n mo ms)) := (pe_meth ho cl hm G hr hb .nil pass0 ha hst hpl ht).imp fun σ H Q q => by
  obtain ⟨ι, σm, h, d, h1, r, rs, e, k⟩ := q
  obtain ⟨d1, h2, e1, e2⟩ := bind_some e
  obtain ⟨d0, h0, e3, e4⟩ := bind_some e1
  refine ⟨ι, σm, h, d0, h0, r, rs, e3, fun ι1 H1 x x1 r1 q1 => ?_⟩
  obtain ⟨ed, eh, a, dx, vs, ex, hy, hl⟩ := isI_of hC r1 q1 e4
  subst ed eh
  refine ⟨a, dx, vs, ex, hy, hl, ?_⟩
  refine lfA_then r1 (rs.up (x1.up r)) e2 (P := fun ι2 H2 => ∀ v, Rl (tx X) ι2 H2 h1 → RV (tx X) ι2 H2 d v → Q v H2) (fun ι2 H2 y v => k ι2 H2 v (x1.trans r1 y)) fun ι2 H2 xs ds h3 x2 r2 rs2 q2 e5 k2 => ?_
  by_cases hn : (d1 :: ds).length = n
  · rw [if_pos hn] at e5
    rw [List.append_nil]
    exact ⟨ι2, h3, d1 :: ds, d, h1, by rw [List.length_cons, q2.length, ← hn, List.length_cons], r2, by rw [RVs]; exact ⟨x, xs, rfl, RV.up (x2.up r1) _ _ q1, q2⟩, e5, fun ι3 H3 v x3 => k2 ι3 H3 x3 v⟩
  · rw [if_neg hn] at e5; cases e5
theorem m_meth0 {pl : Sem Bool} (hC : X.mg c = some (.ref C)) (ho : PE X o (lf (tx X) mo)) (cl : Cls X.K C) (hm : Meth X.K C mt fa) (G : FnOk X.prog X.w X.K X.mg X.base CX0 k fa fd ps (spM (tx X) n F)) (hr : Room k X.A) (hb : Binds X.K fd ps [])
    (ht : eval (.Call (.Attribute o mt apos) [] [] pos) X.env = (do
      let ov ← eval o X.env
      standAt apos.atName
      let (f, first) ← holding [ov] (getMethod ov mt pl)
      callWith pos f first (backTo pos (starEach [] X.env)) (backToKw pos (keywordEach [] X.env))) := by rfl) :
    PE X (.Call (.Attribute o mt apos) [] [] pos) (lf (tx X) (metI c mt F n mo nilA)) := (pe_meth0 ho cl hm G hr hb .nil pass0 ht).imp fun σ H Q q => by
  obtain ⟨ι, σm, h, d, h1, r, rs, e, k⟩ := q
  obtain ⟨d1, h2, e1, e2⟩ := bind_some e
  obtain ⟨d0, h0, e3, e4⟩ := bind_some e1
  refine ⟨ι, σm, h, d0, h0, r, rs, e3, fun ι1 H1 x x1 r1 q1 => ?_⟩
  obtain ⟨ed, eh, a, dx, vs, ex, hy, hl⟩ := isI_of hC r1 q1 e4
  subst ed eh
  refine ⟨a, dx, vs, ex, hy, hl, ?_⟩
  have e5 : (if [d1].length = n then F [d1] else M.bad) h2 = some (d, h1) := e2
  by_cases hn : [d1].length = n
  · rw [if_pos hn] at e5
    exact ⟨ι1, h2, [d1], d, h1, by rw [← hn]; rfl, r1, by rw [RVs]; exact ⟨x, [], rfl, q1, by rw [RVs]⟩, e5, fun ι3 H3 v x3 => k ι3 H3 v (x1.trans r1 x3)⟩
  · rw [if_neg hn] at e5; cases e5
/-- C(..), of an own class with an __init__ -/
def makeM (c : Str) (F : List D → M D) (n : Nat) (ms : Sm → M (List D)) : Sm → M D := fun σ => ms σ >>= fun ds => fun h => if ds.length + 1 = n then (match F (.ref h.length :: ds) (h ++ [.ins c []]) with
  | some (.non, h1) => some (.ref h.length, h1)
  | _ => none) else none
theorem mk_rd {fi : Addr} {σ : St} {H : Hp} {Q : VK} (hC : X.mg c = some (.ref C)) (q : lf (tx X) (makeM c F n ms) σ H Q) {E : XK} : tMake C (spM (tx X) n F) [] E (lfA (tx X) ms) σ H Q := by
  obtain ⟨ι, σm, h, d, h1, r, rs, e, k⟩ := q
  refine lfA_then r rs e (P := fun ι2 H2 => ∀ v, Rl (tx X) ι2 H2 h1 → RV (tx X) ι2 H2 d v → Q v H2) (fun ι2 H2 y v => k ι2 H2 v y) fun ι1 H1 xs ds h2 x1 r1 rs1 q1 e1 k1 => ?_
  intro y dx hy hdx hne
  have e1 : (if ds.length + 1 = n then (match F (.ref h2.length :: ds) (h2 ++ [.ins c []]) with | some (.non, h1) => some (D.ref h2.length, h1) | _ => none) else none) = some (d, h1) := e1
  by_cases hn : ds.length + 1 = n
  · rw [if_pos hn] at e1
    cases q2 : F (.ref h2.length :: ds) (h2 ++ [.ins c []]) with
    | none => rw [q2] at e1; cases e1
    | some p =>
      obtain ⟨d2, h3⟩ := p
      rw [q2] at e1
      cases d2 with
      | non =>
        obtain ⟨e2, e3⟩ := some_pair (show some (D.ref h2.length, h3) = some (d, h1) from e1)
        subst e2 e3
        obtain ⟨x2, r2⟩ := r1.other (u := .own y) hdx
        have hy2 : upd H1 dx (.own y) y = none := by rw [upd_ne (Ne.symm hne)]; exact hy
        obtain ⟨x3, r3⟩ := r2.new (u := .ins C dx []) (o := .ins c []) hy2 fun up => ⟨C, dx, [], hC, upd_same, rfl⟩
        have x23 := x2.trans r2 x3
        have up := x23.up r1
        have ry : RV (tx X) (ι1 ++ [y]) (upd (upd H1 dx (.own y)) y (.ins C dx [])) (.ref h2.length) (.ref y) := by
          rw [RV]
          exact ⟨y, by rw [← r1.len, List.getElem?_append_right (Nat.le_refl _), Nat.sub_self]; rfl, rfl⟩
        rw [List.append_nil]
        refine ⟨ι1 ++ [y], h2 ++ [.ins c []], .ref h2.length :: ds, .non, h3, by rw [List.length_cons, q1.length]; exact hn, r3, by rw [RVs]; exact ⟨.ref y, xs, rfl, ry, RVs.up up _ _ q1⟩, q2, fun ι4 H4 v x4 r4 rv => ?_⟩
        rw [RV] at rv
        exact ⟨rv, k1 ι4 H4 (x23.trans r3 x4) _ r4 (RV.up (x4.up r3) _ _ ry)⟩
      | _ => cases e1
  · rw [if_neg hn] at e1; cases e1
theorem m_make {fi : Addr} (hC : X.mg c = some (.ref C)) (MK : Mk X.K C fi) (G : FnOk X.prog X.w X.K X.mg X.base CX0 k fi fd ps (spM (tx X) n F)) (hr : Room (k + 1) X.A) (hg : Gl X c) (hb : Binds X.K fd ps []) (ha : PA X (e :: es) (lfA (tx X) ms)) (hdb : (c == ("__debug__" : Str)) = false := by decide)
    (he : starEach (e :: es) X.env = (false, eval e X.env) :: starEach es X.env := by rfl) (hpl : (backTo pos (starEach es X.env)).any (·.1) = false := by rfl) : PE X (.Call (.Name c p) (e :: es) [] pos) (lf (tx X) (makeM c F n ms)) :=
  (pe_make MK G hr hg hC hb .nil pass0 ha hdb he hpl).imp fun σ H Q q => mk_rd (fi := fi) hC q
end
end ML

set_option Elab.async false
set_option linter.all false
set_option maxRecDepth 100000
set_option autoImplicit false
namespace ML
open PySem L2
/-! ### all dicts locked while an expression is read -/
def lockO : O → O
  | .dic kvs => .ldic kvs
  | .tdc kvs => .ltdc kvs
  | o => o
def unlO : Option O → O → O
  | some (.dic _), .ldic kvs => .dic kvs
  | some (.tdc _), .ltdc kvs => .tdc kvs
  | _, o => o
def unlH (h h1 : Hm) : Hm := h1.mapIdx fun i o => unlO h[i]? o
def lockL (ms : Sm → M (List D)) : Sm → M (List D) := fun σ h => match ms σ (h.map lockO) with
  | some (ds, h1) => some (ds, unlH h h1)
  | none => none
/-- what is locked -/
def Lk : HO → Prop
  | .dK _ => True
  | .ext _ => True
  | _ => False
theorem Lk.mut {u : HO} (l : Lk u) : Mut (some u) := by cases u <;> first | trivial | exact l.elim
section
variable {X : Cx} {pins : List (Addr × Obj)} {σ : St} {s : Shared}
theorem lock_list : ∀ (L : List Addr) (H : Hp), Inv X pins σ H s → ∃ H', Inv X pins σ H' s ∧ ∀ b, (b ∈ L ∧ ∃ u od, Lk u ∧ H b = some u ∧ H' b = some (.frz od u)) ∨ (H' b = H b ∧ (b ∈ L → ∀ u, Lk u → H b ≠ some u))
  | [], H, I => ⟨H, I, fun b => .inr ⟨rfl, fun z => by simp at z⟩⟩
  | a :: L, H, I => by
    by_cases ha : ∃ u, Lk u ∧ H a = some u
    · obtain ⟨u, lu, ha⟩ := ha
      obtain ⟨od, I1⟩ := I.lock ha lu.mut
      obtain ⟨H', I', q⟩ := lock_list L _ I1
      refine ⟨H', I', fun b => ?_⟩
      by_cases hb : b = a
      · subst hb
        rcases q b with ⟨_, u', od', l', e, _⟩ | ⟨e, _⟩
        · rw [upd_same] at e; cases e; exact l'.elim
        · rw [upd_same] at e
          exact .inl ⟨by simp, u, od, lu, ha, e⟩
      · rcases q b with ⟨m, u', od', l', e, e'⟩ | ⟨e, n⟩
        · rw [upd_ne hb] at e
          exact .inl ⟨by simp [m], u', od', l', e, e'⟩
        · rw [upd_ne hb] at e n
          exact .inr ⟨e, fun m => n ((List.mem_cons.mp m).resolve_left hb)⟩
    · obtain ⟨H', I', q⟩ := lock_list L H I
      refine ⟨H', I', fun b => ?_⟩
      rcases q b with ⟨m, z⟩ | ⟨e, n⟩
      · exact .inl ⟨by simp [m], z⟩
      · refine .inr ⟨e, fun m => ?_⟩
        rcases List.mem_cons.mp m with m | m
        · subst m
          exact fun u l z => ha ⟨u, l, z⟩
        · exact n m
theorem unlock_list : ∀ (L : List Addr) (H : Hp), (∀ a ∈ L, ∀ o' u', X.H_0 a ≠ some (.frz o' u')) → Inv X pins σ H s → ∃ H', Inv X pins σ H' s ∧ ∀ b, (b ∈ L ∧ ∃ od u, Lk u ∧ H b = some (.frz od u) ∧ H' b = some u) ∨ (H' b = H b ∧ (b ∈ L → ∀ od u, Lk u → H b ≠ some (.frz od u)))
  | [], H, _, I => ⟨H, I, fun b => .inr ⟨rfl, fun z => by simp at z⟩⟩
  | a :: L, H, h0, I => by
    by_cases ha : ∃ od u, Lk u ∧ H a = some (.frz od u)
    · obtain ⟨od, u, lu, ha⟩ := ha
      have I1 := I.unlock ha (h0 a (by simp))
      obtain ⟨H', I', q⟩ := unlock_list L _ (fun b m => h0 b (by simp [m])) I1
      refine ⟨H', I', fun b => ?_⟩
      by_cases hb : b = a
      · subst hb
        rcases q b with ⟨_, od', u', l', e, _⟩ | ⟨e, _⟩
        · rw [upd_same] at e; cases e; exact lu.elim
        · rw [upd_same] at e
          exact .inl ⟨by simp, od, u, lu, ha, e⟩
      · rcases q b with ⟨m, od', u', l', e, e'⟩ | ⟨e, n⟩
        · rw [upd_ne hb] at e
          exact .inl ⟨by simp [m], od', u', l', e, e'⟩
        · rw [upd_ne hb] at e n
          exact .inr ⟨e, fun m => n ((List.mem_cons.mp m).resolve_left hb)⟩
    · obtain ⟨H', I', q⟩ := unlock_list L H (fun b m => h0 b (by simp [m])) I
      refine ⟨H', I', fun b => ?_⟩
      rcases q b with ⟨m, z⟩ | ⟨e, n⟩
      · exact .inl ⟨by simp [m], z⟩
      · refine .inr ⟨e, fun m => ?_⟩
        rcases List.mem_cons.mp m with m | m
        · subst m
          exact fun od u l z => ha ⟨od, u, l, z⟩
        · exact n m
theorem lock_Rl {ι : List Addr} {H : Hp} {h : Hm} (I : Inv X pins σ H s) (r : Rl (tx X) ι H h) : ∃ H', Inv X pins σ H' s ∧ Rl (tx X) ι H' (h.map lockO) ∧ Up (tx X) ι H ι H' ∧ (∀ b, b ∉ ι → H' b = H b) ∧ (∀ b o u, H b = some (.frz o u) → H' b = some (.frz o u)) ∧ ∀ b, H' b = none → H b = none := by
  obtain ⟨H', I', q⟩ := lock_list ι H I
  have z : ∀ b u, H b = some u → ¬ Lk u → H' b = some u := fun b u e n => by
    rcases q b with ⟨_, u', od, l, e1, _⟩ | ⟨e1, _⟩
    · rw [e] at e1; cases e1; exact absurd l n
    · rw [e1, e]
  have up : Up (tx X) ι H ι H' := by
    refine ⟨fun _ _ e => e, fun a xs s => ?_, fun a xs s => ?_⟩
    · rcases s with (s | ⟨o, s⟩) | s
      · exact .inl (.inl (z _ _ s id))
      · exact .inl (.inr ⟨o, z _ _ s id⟩)
      · exact .inr s
    · rcases s with ⟨o, s⟩ | s
      · exact .inl ⟨o, z _ _ s id⟩
      · exact .inr s
  refine ⟨H', I', ⟨by rw [List.length_map, r.len], r.nd, fun i a o e1 e2 => ?_⟩, up, fun b nb => ?_, fun b o u e => z b _ e id, fun b e => ?_⟩
  · rw [List.getElem?_map] at e2
    obtain ⟨o', e3, e4⟩ := Option.map_eq_some_iff.mp e2
    subst e4
    have old := r.obj i a o' e1 e3
    have hm : a ∈ ι := List.mem_of_getElem? e1
    cases o' with
    | dic kvs =>
      obtain ⟨ks, ek, qk⟩ := old
      rcases q a with ⟨_, u, od, l, e5, e6⟩ | ⟨_, n⟩
      · rw [ek] at e5
        cases e5
        exact ⟨od, ks, e6, KRs.up up _ _ qk⟩
      · exact absurd ek (n hm _ trivial)
    | tdc kvs =>
      obtain ⟨ks, ek, qk⟩ := old
      rcases q a with ⟨_, u, od, l, e5, e6⟩ | ⟨_, n⟩
      · rw [ek] at e5
        cases e5
        exact ⟨od, ks, e6, TRs.up up _ _ qk⟩
      · exact absurd ek (n hm _ trivial)
    | lst ds =>
      obtain ⟨xs, ex, qx⟩ := old
      exact OR.up up ((z _ _ ex id).trans ex.symm) (o := .lst ds) ⟨xs, ex, qx⟩
    | ldic ds =>
      obtain ⟨od1, xs, ex, qx⟩ := old
      exact OR.up up ((z _ _ ex id).trans ex.symm) (o := .ldic ds) ⟨od1, xs, ex, qx⟩
    | ltdc ds =>
      obtain ⟨od1, xs, ex, qx⟩ := old
      exact OR.up up ((z _ _ ex id).trans ex.symm) (o := .ltdc ds) ⟨od1, xs, ex, qx⟩
    | ins c fs =>
      obtain ⟨C, dx, xs, e0, ex, qx⟩ := old
      exact OR.up up ((z _ _ ex id).trans ex.symm) (o := .ins c fs) ⟨C, dx, xs, e0, ex, qx⟩
  · rcases q b with ⟨m, _⟩ | ⟨e, _⟩
    · exact absurd m nb
    · exact e
  · rcases q b with ⟨_, u, od, l, e1, e2⟩ | ⟨e1, _⟩
    · rw [e] at e2; cases e2
    · rw [← e1, e]
theorem unlock_Rl {ι ι1 : List Addr} {H1 : Hp} {h h1 : Hm} {s0 : Shared} {σ0 : St} {H0 : Hp} (I0 : Inv X pins σ0 H0 s0) (r0 : Rl (tx X) ι H0 h) (pre : ∃ t, ι1 = ι ++ t) (I : Inv X pins σ H1 s) (r : Rl (tx X) ι1 H1 h1) :
    ∃ H2, Inv X pins σ H2 s ∧ Rl (tx X) ι1 H2 (unlH h h1) ∧ Up (tx X) ι1 H1 ι1 H2 ∧ (∀ b, b ∉ ι → H2 b = H1 b) ∧ (∀ b o u, H0 b = some (.frz o u) → H2 b = H1 b) := by
  classical
  obtain ⟨t, et⟩ := pre
  -- the places that are unlocked
  let W : Addr → Prop := fun a => ∃ (i : Nat) (kvs kvs' : List (D × D)), ι[i]? = some a ∧ ((h[i]? = some (O.dic kvs) ∧ h1[i]? = some (O.ldic kvs')) ∨ (h[i]? = some (O.tdc kvs) ∧ h1[i]? = some (O.ltdc kvs')))
  have key : ∃ L : List Addr, ∀ a, a ∈ L ↔ W a := ⟨ι.filter fun a => decide (W a), fun a => by
    rw [List.mem_filter, decide_eq_true_eq]
    exact ⟨fun z => z.2, fun z => ⟨by obtain ⟨i, _, _, e, _⟩ := z; exact List.mem_of_getElem? e, z⟩⟩⟩
  obtain ⟨L, hL⟩ := key
  have hH0 : ∀ a ∈ L, ∃ u, Lk u ∧ H0 a = some u := fun a m => by
    obtain ⟨i, kvs, _, e1, ⟨e2, _⟩ | ⟨e2, _⟩⟩ := (hL a).mp m
    · obtain ⟨ks, ek, _⟩ := r0.obj i a _ e1 e2
      exact ⟨.dK ks, trivial, ek⟩
    · obtain ⟨ks, ek, _⟩ := r0.obj i a _ e1 e2
      exact ⟨.ext _, trivial, ek⟩
  obtain ⟨H2, I2, q⟩ := unlock_list L H1 (fun a m o' u' => by
    obtain ⟨u, l, ek⟩ := hH0 a m
    exact I0.nofrz ek l.mut o' u') I
  have z : ∀ b u, H1 b = some u → (∀ od u', Lk u' → u ≠ .frz od u') → H2 b = some u := fun b u e n => by
    rcases q b with ⟨_, od, u', l, e1, _⟩ | ⟨e1, _⟩
    · rw [e] at e1; exact absurd (Option.some.inj e1) (n od u' l)
    · rw [e1, e]
  have up : Up (tx X) ι1 H1 ι1 H2 := by
    refine ⟨fun _ _ e => e, fun a xs s => ?_, fun a xs s => ?_⟩
    · rcases s with (s | ⟨o, s⟩) | s
      · exact .inl (.inl (z _ _ s fun od u l e => by cases e))
      · exact .inl (.inr ⟨o, z _ _ s fun od u l e => by cases e; exact l.elim⟩)
      · exact .inr s
    · rcases s with ⟨o, s⟩ | s
      · exact .inl ⟨o, z _ _ s fun od u l e => by cases e; exact l.elim⟩
      · exact .inr s
  refine ⟨H2, I2, ⟨by unfold unlH; rw [List.length_mapIdx, r.len], r.nd, fun i a o e1 e2 => ?_⟩, up, fun b nb => ?_, fun b o u e => ?_⟩
  · unfold unlH at e2
    rw [List.getElem?_mapIdx] at e2
    obtain ⟨o', e3, e4⟩ := Option.map_eq_some_iff.mp e2
    subst e4
    have old := r.obj i a o' e1 e3
    have same : a ∉ L → H2 a = H1 a := fun n => by
      rcases q a with ⟨m, _⟩ | ⟨e, _⟩
      · exact absurd m n
      · exact e
    have inL : a ∈ L → ∃ kvs kvs', (h[i]? = some (.dic kvs) ∧ o' = .ldic kvs') ∨ (h[i]? = some (.tdc kvs) ∧ o' = .ltdc kvs') := fun m => by
      obtain ⟨j, kvs, kvs', f1, f⟩ := (hL a).mp m
      have f1' : ι1[j]? = some a := by rw [et, List.getElem?_append_left (List.getElem?_eq_some_iff.mp f1).1]; exact f1
      have ij := nd_ix r.nd f1' e1
      subst ij
      rw [e3] at f
      rcases f with ⟨f2, f3⟩ | ⟨f2, f3⟩
      · exact ⟨kvs, kvs', .inl ⟨f2, Option.some.inj f3⟩⟩
      · exact ⟨kvs, kvs', .inr ⟨f2, Option.some.inj f3⟩⟩
    by_cases hm : a ∈ L
    · obtain ⟨kvs, kvs', ⟨f2, f3⟩ | ⟨f2, f3⟩⟩ := inL hm
      · subst f3
        rw [f2]
        obtain ⟨od, ks, ek, qk⟩ := old
        rcases q a with ⟨_, od', u', l, e5, e6⟩ | ⟨_, n⟩
        · rw [ek] at e5
          cases e5
          exact ⟨ks, e6, KRs.up up _ _ qk⟩
        · exact absurd ek (n hm od _ trivial)
      · subst f3
        rw [f2]
        obtain ⟨od, ks, ek, qk⟩ := old
        rcases q a with ⟨_, od', u', l, e5, e6⟩ | ⟨_, n⟩
        · rw [ek] at e5
          cases e5
          exact ⟨ks, e6, TRs.up up _ _ qk⟩
        · exact absurd ek (n hm od _ trivial)
    · have hi : ∀ {o'' : O}, h[i]? = some o'' → ι[i]? = some a := fun f2 => by
        have hi : i < ι.length := by rw [r0.len]; exact (List.getElem?_eq_some_iff.mp f2).1
        rw [et, List.getElem?_append_left hi] at e1
        exact e1
      have eo : unlO h[i]? o' = o' := by
        unfold unlO
        split
        · rename_i kvs kvs' f2
          exact absurd ((hL a).mpr ⟨i, kvs, kvs', hi f2, .inl ⟨f2, e3⟩⟩) hm
        · rename_i kvs kvs' f2
          exact absurd ((hL a).mpr ⟨i, kvs, kvs', hi f2, .inr ⟨f2, e3⟩⟩) hm
        · rfl
      rw [eo]
      exact OR.up up (same hm) old
  · rcases q b with ⟨m, _⟩ | ⟨e, _⟩
    · obtain ⟨i, _, _, e, _⟩ := (hL b).mp m
      exact absurd (List.mem_of_getElem? e) nb
    · exact e
  · rcases q b with ⟨m, _⟩ | ⟨e', _⟩
    · obtain ⟨u', l, ek⟩ := hH0 b m
      rw [e] at ek; cases ek; exact l.elim
    · exact e'
theorem l_lock {e : Expr} {ms : Sm → M (List D)} (he : PE X e (lfL (tx X) ms)) : PE X e (lfL (tx X) (lockL ms)) := by
  refine ⟨fun pins s σ H Q I q => ?_⟩
  obtain ⟨ι, σm, h, d, h1, r, rs, e1, k⟩ := q
  unfold lockL at e1
  cases e2 : ms σm (h.map lockO) with
  | none => rw [e2] at e1; cases e1
  | some p =>
    obtain ⟨ds, h2⟩ := p
    rw [e2] at e1
    obtain ⟨e3, e4⟩ := some_pair e1
    subst e3 e4
    obtain ⟨H', I', r', up, n1, n2, n3⟩ := lock_Rl I r
    refine thn (he.run pins s σ H' (fun v H1 => ∃ ι1 a xs, v = .ref a ∧ Ex ι H' ι1 H1 ∧ Rl (tx X) ι1 H1 h2 ∧ H' a = none ∧ a ∉ ι1 ∧ H1 a = some (.lst xs) ∧ RVs (tx X) ι1 H1 ds xs) I' ⟨ι, σm, h.map lockO, ds, h2, r', rs.up up, e2, fun ι1 H1 a xs x r1 ha na ea q1 => ⟨ι1, a, xs, rfl, x, r1, ha, na, ea, q1⟩⟩) fun v s1 hv => ?_
    obtain ⟨v', H1, I1, rv, ι1, a, xs, ev, x, r1, ha, na, ea, q1⟩ := hv
    subst ev
    obtain ⟨H2, I2, r2, up2, m1, m2⟩ := unlock_Rl I r (by obtain ⟨t, et, _⟩ := x.pre; exact ⟨t, et⟩) I1 r1
    have nai : a ∉ ι := fun z => by
      obtain ⟨t, et, _⟩ := x.pre
      exact na (by rw [et]; exact List.mem_append_left _ z)
    refine ⟨.ref a, H2, I2, rv, k ι1 H2 a xs ⟨?_, fun b o eb nb => ?_, fun b o u eb => ?_⟩ r2 (n3 a ha) na (by rw [m1 a nai]; exact ea) (RVs.up up2 _ _ q1)⟩
    · obtain ⟨t, et, nt⟩ := x.pre
      exact ⟨t, et, fun b mb => n3 b (nt b mb)⟩
    · rw [m1 b nb]
      exact x.fr b o (by rw [n1 b nb]; exact eb) nb
    · rw [m2 b o u eb]
      exact x.fz b o u (n2 b o u eb)
end
end ML

set_option Elab.async false
set_option linter.all false
set_option maxRecDepth 100000
set_option autoImplicit false
namespace ML
open PySem L2
/-! ### a locked dict is walked -/
def keyD (d : D) : M (List D × Src) := fun h => match d with
  | .ref k => (match h[k]? with
    | some (.ldic kvs) => some ((kvs.map (·.1), []), h)
    | _ => none)
  | _ => none
def itK (m : Sm → M D) : Sm → M (List D × Src) := fun σ => m σ >>= keyD
theorem kD_RV {T : Tx} {ι : List Addr} {H : Hp} {d : D} {k : Key} (e : kD d = some k) : RV T ι H d (kV k) := by
  cases d with
  | int i => cases e; rw [RV]; rfl
  | str x => cases e; rw [RV]; rfl
  | _ => cases e
theorem KRs.get {T : Tx} {ι : List Addr} {H : Hp} : ∀ {kvs : List (D × D)} {ks : List (Key × V)} {i : Nat} {p : D × D}, KRs T ι H kvs ks → kvs[i]? = some p → ∃ k v, ks[i]? = some (k, v) ∧ kD p.1 = some k ∧ RV T ι H p.2 v
  | [], _, _, _, _, h => by simp at h
  | q :: kvs, ks, 0, p, r, h => by
    obtain ⟨k, v, s, e, ek, qv, _⟩ := r
    simp only [List.getElem?_cons_zero, Option.some.injEq] at h
    subst h e
    exact ⟨k, v, rfl, ek, qv⟩
  | q :: kvs, ks, i + 1, p, r, h => by
    obtain ⟨k, v, s, e, ek, qv, t⟩ := r
    subst e
    exact KRs.get (i := i) t h
section
variable {X : Cx} {tg l : Expr} {m : Sm → M D}
theorem i_key (hl : PE X l (lf (tx X) m)) : PI X tg l (lfI (tx X) (itK m)) := (pi_keys hl).imp fun σ H R q => by
  obtain ⟨ι, σm, h, p, h1, r, rs, e, k⟩ := q
  refine lf_then r rs e (P := fun ι2 H2 => ∀ J, Rl (tx X) ι2 H2 h1 → Wk (tx X) ι2 H2 J p.1 p.2 → R J H2) (fun ι2 H2 y J => k ι2 H2 J y) fun ι1 H1 x d h' x1 r1 rs1 q1 e1 k1 => ?_
  cases d with
  | ref kk =>
    have e1 : (match h'[kk]? with | some (.ldic kvs) => some ((kvs.map (·.1), ([] : Src)), h') | _ => none) = some (p, h1) := e1
    cases q2 : h'[kk]? with
    | none => rw [q2] at e1; cases e1
    | some ob =>
      rw [q2] at e1
      cases ob with
      | ldic kvs =>
        obtain ⟨e2, e3⟩ := some_pair e1
        subst e2 e3
        obtain ⟨a, o, ks, ex, ha, hy, qk⟩ := at_ldic r1 q1 q2
        refine ⟨a, o, ex, .inl ⟨ks, hy, k1 _ _ (Ex.refl _ _) _ r1 ?_⟩⟩
        refine ⟨fun ι2 H2 h2 i x2 r2 _ hi => ?_, fun ι2 H2 h2 x2 r2 _ => ⟨x2.fz a o _ hy, by rw [List.length_map, qk.length]; exact Nat.le_refl _⟩⟩
        have hi' : i < kvs.length := by rw [List.length_map] at hi; exact hi
        refine ⟨⟨x2.fz a o _ hy, by rw [qk.length]; exact hi'⟩, fun y H' hyl => ?_⟩
        obtain ⟨eH, kk2, v, ek, ey⟩ := hyl
        subst eH
        obtain ⟨key, v', ek', ed, _⟩ := qk.get (List.getElem?_eq_getElem hi')
        rw [ek] at ek'
        cases ek'
        exact ⟨Ex.refl _ _, r2, kvs[i].1, by rw [List.getElem?_map, List.getElem?_eq_getElem hi']; rfl, by rw [ey]; exact kD_RV ed⟩
      | _ => cases e1
  | _ => cases e1
end
/-! ### the turns of a comprehension, whose list or dict is ours -/
open Classical in
noncomputable def cpR (items : List D) (src : Src) (tg : D → Sm → Option Sm) (tt : Sm → M Bool) (body : Sm → M Unit) : List D → Sm → M Unit
  | [], _ => fun h => if Chk items src h then some ((), h) else none
  | d :: r, σ => fun h => if Chk items src h then (match tg d σ with
    | none => none
    | some σ1 => match tt σ1 h with
      | none => none
      | some (false, h2) => cpR items src tg tt body r σ h2
      | some (true, h2) => match body σ1 h2 with
        | none => none
        | some (_, h3) => cpR items src tg tt body r σ h3) else none
theorem cp_walk {T : Tx} {J : It} {p : List D × Src} {ιw ι0 : List Addr} {Hw H0 : Hp} {hw h0 h' : Hm} (wk : Wk T ιw Hw J p.1 p.2) (rw' : Rl T ιw Hw hw) (xw : Ex ιw Hw ι0 H0) (r0 : Rl T ι0 H0 h0) {g : D → Sm → Option Sm} {tt : Sm → M Bool} {body : Sm → M Unit} {vs : List Nat} {σm : Sm} {σ : St} (rs : RS T ι0 H0 σm σ)
    {TB : St → Hp → (Hp → Prop) → Prop} (hb : ∀ (ι : List Addr) (H : Hp) (h : Hm) (σm : Sm) (σ : St) (h' : Hm) (Nx : Hp → Prop), Ex ι0 H0 ι H → Rl T ι H h → RS T ι H σm σ → body σm h = some ((), h') → (∀ ι1 H1, Ex ι H ι1 H1 → Rl T ι1 H1 h' → Nx H1) → TB σ H Nx)
    (e : cpR p.1 p.2 g tt body p.1 (wipeM σm vs) h0 = some ((), h')) {Fin : Hp → Prop} (fin : ∀ ι1 H1, Ex ι0 H0 ι1 H1 → Rl T ι1 H1 h' → Fin H1) :
    ∃ W : Nat → Nat → Hp → Prop, (∃ m, W 0 m H0) ∧ ∀ i m H, W i m H → (J.stop i H ∧ Fin H) ∨ (J.go i H ∧ ∃ Nx : Hp → Prop, (∀ H', Nx H' → ∃ m', m' < m ∧ W (i + 1) m' H') ∧ ∀ x H', J.yld i H x H' → lfG T vs g x (wipe σ vs) H' fun σ2 H2 => wipe σ2 vs = wipe σ vs ∧ lfT T tt σ2 H2 fun b H3 => if b = true then TB σ2 H3 Nx else Nx H3) := by
  refine ⟨fun i m H1 => m = p.1.length - i ∧ i ≤ p.1.length ∧ ∃ ι1 h2, Ex ι0 H0 ι1 H1 ∧ Rl T ι1 H1 h2 ∧ cpR p.1 p.2 g tt body (p.1.drop i) (wipeM σm vs) h2 = some ((), h'), ⟨p.1.length, by simp, Nat.zero_le _, ι0, h0, Ex.refl _ _, r0, by simpa using e⟩, ?_⟩
  rintro i m H1 ⟨rfl, hi, ι1, h2, x1, r1, e6⟩
  have xw1 := xw.trans r0 x1
  have rsw : RS T ι1 H1 (wipeM σm vs) (wipe σ vs) := (rs.up (x1.up r0)).wipe _
  by_cases hlt : i < p.1.length
  · rw [List.drop_eq_getElem_cons hlt] at e6
    unfold cpR at e6
    by_cases hk : Chk p.1 p.2 h2
    · rw [if_pos hk] at e6
      obtain ⟨go, yl⟩ := wk.go ι1 H1 h2 i xw1 r1 hk hlt
      refine .inr ⟨go, fun H' => ∃ ι1 h2, Ex ι0 H0 ι1 H' ∧ Rl T ι1 H' h2 ∧ cpR p.1 p.2 g tt body (p.1.drop (i + 1)) (wipeM σm vs) h2 = some ((), h'), fun H' hN => ⟨p.1.length - (i + 1), by omega, rfl, hlt, hN⟩, fun x H' y => ?_⟩
      obtain ⟨x2, r2, dd, edd, qd⟩ := yl x H' y
      rw [List.getElem?_eq_getElem hlt] at edd
      cases edd
      cases q5 : g p.1[i] (wipeM σm vs) with
      | none => rw [q5] at e6; cases e6
      | some σm2 =>
        rw [q5] at e6
        have e6 : (match tt σm2 h2 with | none => none | some (false, h2) => cpR p.1 p.2 g tt body (p.1.drop (i + 1)) (wipeM σm vs) h2 | some (true, h2) => match body σm2 h2 with | none => none | some (_, h3) => cpR p.1 p.2 g tt body (p.1.drop (i + 1)) (wipeM σm vs) h3) = some ((), h') := e6
        refine ⟨ι1, wipeM σm vs, h2, p.1[i], σm2, r2, rsw.up (x2.up r1), qd, q5, fun σ2 rs2 l2 o2 => ⟨(wipe_same l2 o2).trans wipe_wipe, ?_⟩⟩
        cases q6 : tt σm2 h2 with
        | none => rw [q6] at e6; cases e6
        | some bp =>
          obtain ⟨b, h3⟩ := bp
          rw [q6] at e6
          refine ⟨ι1, σm2, h2, b, h3, r2, rs2, q6, fun ι3 H3 x3 r3 => ?_⟩
          have x03 := (x1.trans r1 x2).trans r2 x3
          cases b with
          | false =>
            refine iteF ?_
            exact ⟨ι3, h3, x03, r3, e6⟩
          | true =>
            refine iteT ?_
            have e6 : (match body σm2 h3 with | none => none | some (_, h3) => cpR p.1 p.2 g tt body (p.1.drop (i + 1)) (wipeM σm vs) h3) = some ((), h') := e6
            cases q7 : body σm2 h3 with
            | none => rw [q7] at e6; cases e6
            | some yp =>
              obtain ⟨u, h4⟩ := yp
              rw [q7] at e6
              exact hb ι3 H3 h3 σm2 σ2 h4 _ x03 r3 (rs2.up (x3.up r2)) q7 fun ι4 H4 x4 r4 => ⟨ι4, h4, x03.trans r3 x4, r4, e6⟩
    · rw [if_neg hk] at e6; cases e6
  · have ei : i = p.1.length := by omega
    subst ei
    rw [List.drop_length] at e6
    unfold cpR at e6
    by_cases hk : Chk p.1 p.2 h2
    · rw [if_pos hk] at e6
      obtain ⟨_, e7⟩ := some_pair e6
      subst e7
      exact .inl ⟨wk.stop ι1 H1 _ xw1 r1 hk, fin ι1 H1 x1 r1⟩
    · rw [if_neg hk] at e6; cases e6
/-- one more item of the list at k -/
def appB (k : Nat) (el : Sm → M D) : Sm → M Unit := fun σ => el σ >>= fun d => appL (.ref k) [d] >>= fun _ => pure ()
theorem app_body {T : Tx} {k : Nat} {el : Sm → M D} {Dn : Addr} {ι : List Addr} {H : Hp} {h h' : Hm} {σm : Sm} {σ : St} {Nx : Hp → Prop} (hD : ι[k]? = some Dn) (r : Rl T ι H h) (rs : RS T ι H σm σ) (e : appB k el σm h = some ((), h')) (nx : ∀ ι1 H1, Ex ι H ι1 H1 → Rl T ι1 H1 h' → Nx H1) :
    lf T el σ H fun y H4 => ∃ acc, H4 Dn = some (.lst acc) ∧ acc.length < sizeLine ∧ Nx (upd H4 Dn (.lst (acc ++ [y]))) := by
  refine lf_then r rs e (P := fun ι2 H2 => Rl T ι2 H2 h' → Nx H2) nx fun ι1 H1 y d h2 x1 r1 rs1 q1 e1 k1 => ?_
  obtain ⟨z, h3, e2, e3⟩ := bind_some e1
  obtain ⟨_, e4⟩ := pure_some e3
  subst e4
  have hD1 : ι1[k]? = some Dn := (x1.up r).ix k Dn hD
  have e2 : (match h2[k]? with | some (.lst xs) => if xs.length < sizeLine then some (D.non, h2.set k (.lst (xs ++ [d]))) else none | _ => none) = some (z, h3) := e2
  cases q2 : h2[k]? with
  | none => rw [q2] at e2; cases e2
  | some ob =>
    rw [q2] at e2
    cases ob with
    | lst xs =>
      have e2 : (if xs.length < sizeLine then some (D.non, h2.set k (.lst (xs ++ [d]))) else none) = some (z, h3) := e2
      by_cases hl : xs.length < sizeLine
      · rw [if_pos hl] at e2
        obtain ⟨_, e5⟩ := some_pair e2
        subst e5
        obtain ⟨zs, hz, qz⟩ := r1.obj k Dn _ hD1 q2
        refine ⟨zs, hz, by rw [qz.length]; exact hl, ?_⟩
        obtain ⟨x4, r4⟩ := r1.put (u := .lst (zs ++ [y])) (o := .lst (xs ++ [d])) hD1 hz trivial fun up => ⟨_, upd_same, RVs.append (RVs.up up _ _ qz) (by rw [RVs]; exact ⟨y, [], rfl, RV.up up _ _ q1, by rw [RVs]⟩)⟩
        exact k1 _ _ x4 r4
      · rw [if_neg hl] at e2; cases e2
    | _ => cases e2
end ML

set_option Elab.async false
set_option linter.all false
set_option maxRecDepth 100000
set_option autoImplicit false
namespace ML
open PySem L2
noncomputable def body2 (it1 : Sm → M (List D × Src)) (g1 : D → Sm → Option Sm) (tt1 : Sm → M Bool) (vs1 : List Nat) (b : Sm → M Unit) : Sm → M Unit := fun σ1 => it1 σ1 >>= fun p1 => cpR p1.1 p1.2 g1 tt1 b p1.1 (wipeM σ1 vs1)
noncomputable def cpM (o : O) (it : Sm → M (List D × Src)) (g : D → Sm → Option Sm) (tt : Sm → M Bool) (vs : List Nat) (b : Nat → Sm → M Unit) : Sm → M D := fun σ => it σ >>= fun p => fun h => match cpR p.1 p.2 g tt (b h.length) p.1 (wipeM σ vs) (h ++ [o]) with
  | some (_, h1) => some (.ref h.length, h1)
  | none => none
/-- [el for .. for ..] -/
noncomputable def lc2M (it : Sm → M (List D × Src)) (g : D → Sm → Option Sm) (tt : Sm → M Bool) (it1 : Sm → M (List D × Src)) (g1 : D → Sm → Option Sm) (tt1 : Sm → M Bool) (el : Sm → M D) (vs vs1 : List Nat) : Sm → M D := cpM (.lst []) it g tt vs fun k => body2 it1 g1 tt1 vs1 (appB k el)
/-- {mk: mv for ..} -/
def setB (k : Nat) (kd vd : D) : M Unit := fun h => match h[k]? with
  | some (.dic kvs) => if (kD kd).isSome = true ∧ kvs.length < sizeLine then some ((), h.set k (.dic (putKD kvs kd vd))) else none
  | _ => none
def putB (k : Nat) (mk mv : Sm → M D) : Sm → M Unit := fun σ => mk σ >>= fun kd => mv σ >>= fun vd => setB k kd vd
noncomputable def dcM (it : Sm → M (List D × Src)) (g : D → Sm → Option Sm) (tt : Sm → M Bool) (mk mv : Sm → M D) (vs : List Nat) : Sm → M D := cpM (.dic []) it g tt vs fun k => putB k mk mv
theorem new_at {T : Tx} {ι : List Addr} {H : Hp} {h : Hm} (r : Rl T ι H h) (p : Addr) : (ι ++ [p])[h.length]? = some p := by
  rw [← r.len, List.getElem?_append_right (Nat.le_refl _), Nat.sub_self]
  rfl
theorem cp_start {T : Tx} {it : Sm → M (List D × Src)} {g : D → Sm → Option Sm} {tt : Sm → M Bool} {vs : List Nat} {b : Nat → Sm → M Unit} {σ : St} {H : Hp} {Q : VK} {o : O} {u : HO} (ho : ∀ (ι : List Addr) (H : Hp) (a : Addr), H a = some u → OR T ι H a o) {TB : Addr → St → Hp → (Hp → Prop) → Prop}
    (hb : ∀ (k : Nat) (Dn : Addr) (ι : List Addr) (H : Hp) (h : Hm) (σm : Sm) (σ : St) (h' : Hm) (Nx : Hp → Prop), ι[k]? = some Dn → Rl T ι H h → RS T ι H σm σ → b k σm h = some ((), h') → (∀ ι1 H1, Ex ι H ι1 H1 → Rl T ι1 H1 h' → Nx H1) → TB Dn σ H Nx)
    (q : lf T (cpM o it g tt vs b) σ H Q) : lfI T it σ H fun J H1 => ∀ Dn, H1 Dn = none → ∃ W : Nat → Nat → Hp → Prop, (∃ m, W 0 m (upd H1 Dn u)) ∧ ∀ i m H, W i m H →
      (J.stop i H ∧ Q (.ref Dn) H) ∨ (J.go i H ∧ ∃ Nx : Hp → Prop, (∀ H', Nx H' → ∃ m', m' < m ∧ W (i + 1) m' H') ∧ ∀ x H', J.yld i H x H' → lfG T vs g x (wipe σ vs) H' fun σ2 H2 => wipe σ2 vs = wipe σ vs ∧ lfT T tt σ2 H2 fun b H3 => if b = true then TB Dn σ2 H3 Nx else Nx H3) := by
  obtain ⟨ι, σm, h, d, h1, r, rs, e, k⟩ := q
  obtain ⟨p, h', e1, e0⟩ := bind_some e
  refine ⟨ι, σm, h, p, h', r, rs, e1, fun ι0 H0 J x0 r0 wk Dn hD => ?_⟩
  have e0 : (match cpR p.1 p.2 g tt (b h'.length) p.1 (wipeM σm vs) (h' ++ [o]) with | some (_, h1) => some (D.ref h'.length, h1) | none => none) = some (d, h1) := e0
  cases e2 : cpR p.1 p.2 g tt (b h'.length) p.1 (wipeM σm vs) (h' ++ [o]) with
  | none => rw [e2] at e0; cases e0
  | some pp =>
    obtain ⟨_, h2⟩ := pp
    rw [e2] at e0
    obtain ⟨e3, e4⟩ := some_pair e0
    subst e3 e4
    obtain ⟨xn, rn⟩ := r0.new (u := u) (o := o) hD fun up => ho _ _ _ upd_same
    have hat := new_at r0 Dn
    have x1 := x0.trans r0 xn
    refine cp_walk (TB := TB Dn) wk r0 xn rn (rs.up (x1.up r)) (fun ι3 H3 h3 σ3 σ4 h4 Nx x3 r3 rs3 e5 nx => hb h'.length Dn ι3 H3 h3 σ3 σ4 h4 Nx ((x3.up rn).ix _ _ hat) r3 rs3 e5 nx) e2 fun ι5 H5 x5 r5 => ?_
    refine k ι5 H5 (.ref Dn) (x1.trans rn x5) r5 ?_
    rw [RV]
    exact ⟨Dn, (x5.up rn).ix _ _ hat, rfl⟩
theorem lc2_rd {T : Tx} {it it1 : Sm → M (List D × Src)} {g g1 : D → Sm → Option Sm} {tt tt1 : Sm → M Bool} {el : Sm → M D} {vs vs1 : List Nat} {σ : St} {H : Hp} {Q : VK} (q : lf T (lc2M it g tt it1 g1 tt1 el vs vs1) σ H Q) :
    tLc2 (lfI T it) (lfG T vs g) (lfT T tt) (lfI T it1) (lfG T vs1 g1) (lfT T tt1) (lf T el) vs vs1 σ H Q := by
  refine cp_start (o := .lst []) (u := .lst []) (TB := fun Dn σ2 H3 Nx => lfI T it1 σ2 H3 fun J1 H4 => ∃ W1 : Nat → Nat → Hp → Prop, (∃ m, W1 0 m H4) ∧ ∀ j k H, W1 j k H →
      (J1.stop j H ∧ Nx H) ∨ (J1.go j H ∧ ∃ Nx1 : Hp → Prop, (∀ H', Nx1 H' → ∃ k', k' < k ∧ W1 (j + 1) k' H') ∧ ∀ x H', J1.yld j H x H' → lfG T vs1 g1 x (wipe σ2 vs1) H' fun σ3 H5 => wipe σ3 vs1 = wipe σ2 vs1 ∧ lfT T tt1 σ3 H5 fun b H6 =>
        if b = true then lf T el σ3 H6 fun y H7 => ∃ acc, H7 Dn = some (.lst acc) ∧ acc.length < sizeLine ∧ Nx1 (upd H7 Dn (.lst (acc ++ [y]))) else Nx1 H6)) (fun ι H a e => ⟨[], e, by rw [RVs]⟩) (fun k Dn ι H h σm σ h' Nx hat r rs e nx => ?_) q
  obtain ⟨p1, h2, e1, e2⟩ := bind_some (show (it1 σm >>= fun p1 => cpR p1.1 p1.2 g1 tt1 (appB k el) p1.1 (wipeM σm vs1)) h = some ((), h') from e)
  refine ⟨ι, σm, h, p1, h2, r, rs, e1, fun ι1 H1 J1 x1 r1 wk1 => ?_⟩
  exact cp_walk (TB := fun σ3 H6 Nx1 => lf T el σ3 H6 fun y H7 => ∃ acc, H7 Dn = some (.lst acc) ∧ acc.length < sizeLine ∧ Nx1 (upd H7 Dn (.lst (acc ++ [y])))) wk1 r1 (Ex.refl _ _) r1 (rs.up (x1.up r))
    (fun ι3 H3 h3 σ3 σ4 h4 Nx1 x3 r3 rs3 e5 nx1 => app_body ((x3.up r1).ix _ _ ((x1.up r).ix _ _ hat)) r3 rs3 e5 nx1) e2 fun ι5 H5 x5 r5 => nx ι5 H5 (x1.trans r1 x5) r5
theorem put_body {T : Tx} {k : Nat} {mk mv : Sm → M D} {Dn : Addr} {ι : List Addr} {H : Hp} {h h' : Hm} {σm : Sm} {σ : St} {Nx : Hp → Prop} (hD : ι[k]? = some Dn) (r : Rl T ι H h) (rs : RS T ι H σm σ) (e : putB k mk mv σm h = some ((), h')) (nx : ∀ ι1 H1, Ex ι H ι1 H1 → Rl T ι1 H1 h' → Nx H1) :
    lf T mk σ H fun y H4 => lf T mv σ H4 fun z H5 => ∃ kvs kk, y = kV kk ∧ H5 Dn = some (.dK kvs) ∧ kvs.length < sizeLine ∧ Nx (upd H5 Dn (.dK (putK kvs kk z))) := by
  refine lf_then r rs e (P := fun ι2 H2 => Rl T ι2 H2 h' → Nx H2) nx fun ι1 H1 y kd h2 x1 r1 rs1 q1 e1 k1 => ?_
  refine lf_then r1 rs1 e1 k1 fun ι2 H2 z vd h3 x2 r2 rs2 q2 e2 k2 => ?_
  have hD2 : ι2[k]? = some Dn := (x2.up r1).ix k Dn ((x1.up r).ix k Dn hD)
  have q1' := RV.up (x2.up r1) _ _ q1
  unfold setB at e2
  cases q4 : h3[k]? with
  | none => rw [q4] at e2; cases e2
  | some ob =>
    rw [q4] at e2
    cases ob with
    | dic kvs =>
      have e2 : (if (kD kd).isSome = true ∧ kvs.length < sizeLine then some ((), h3.set k (.dic (putKD kvs kd vd))) else none) = some ((), h') := e2
      by_cases c : (kD kd).isSome = true ∧ kvs.length < sizeLine
      · rw [if_pos c] at e2
        obtain ⟨_, e5⟩ := some_pair e2
        subst e5
        obtain ⟨key, ek⟩ := Option.isSome_iff_exists.mp c.1
        obtain ⟨ks, hy, q⟩ := r2.obj k Dn _ hD2 q4
        refine ⟨ks, key, kD_V ek q1', hy, by rw [q.length]; exact c.2, ?_⟩
        obtain ⟨x4, r4⟩ := r2.put (u := .dK (putK ks key z)) (o := .dic (putKD kvs kd vd)) hD2 hy trivial fun up => ⟨_, upd_same, KRs.up up _ _ (KRs.put ek q2 q)⟩
        exact k2 _ _ x4 r4
      · rw [if_neg c] at e2; cases e2
    | _ => cases e2
theorem dc_rd {T : Tx} {it : Sm → M (List D × Src)} {g : D → Sm → Option Sm} {tt : Sm → M Bool} {mk mv : Sm → M D} {vs : List Nat} {σ : St} {H : Hp} {Q : VK} (q : lf T (dcM it g tt mk mv vs) σ H Q) :
    tDc (lfI T it) (lfG T vs g) (lfT T tt) (lf T mk) (lf T mv) vs σ H Q :=
  cp_start (o := .dic []) (u := .dK []) (TB := fun Dn σ2 H3 Nx => lf T mk σ2 H3 fun y H4 => lf T mv σ2 H4 fun z H5 => ∃ kvs k, y = kV k ∧ H5 Dn = some (.dK kvs) ∧ kvs.length < sizeLine ∧ Nx (upd H5 Dn (.dK (putK kvs k z)))) (fun ι H a e => ⟨[], e, rfl⟩)
    (fun k Dn ι H h σm σ h' Nx hat r rs e nx => put_body hat r rs e nx) q
section
variable {X : Cx} {elt kx vx tg iter tg1 iter1 : Expr} {ifs ifs1 : List Expr} {scope : Scope} {own : List (Str × Nat)} {vs1 : List Nat} {pos spos : Pos} {it it1 : Sm → M (List D × Src)} {g g1 : D → Sm → Option Sm} {tt tt1 : Sm → M Bool} {el mk mv : Sm → M D}
theorem m_lc2 (hc : X.calm = true) (hN : X.N.Nodup) (hi : PI X tg iter (lfI (tx X) it)) (ok : BlkOk X.N X.env.scope scope own) (hv : ∀ i ∈ vs1, i ∈ own.map (·.2))
    (hg : ∀ (s : Shared) (H : Hp) (C : Addr) (cl : List (Str × Addr)) (fp : List Addr), PG (X.blk s H scope (compEnvC scope cl C X.env) fp) tg (lfG (tx X) (own.map (·.2)) g))
    (ht : ∀ (s : Shared) (H : Hp) (C : Addr) (cl : List (Str × Addr)) (fp : List Addr), PTs (X.blk s H scope (compEnvC scope cl C X.env) fp) ifs (lfT (tx X) tt))
    (hi1 : ∀ (s : Shared) (H : Hp) (C : Addr) (cl : List (Str × Addr)) (fp : List Addr), PI (X.blk s H scope (compEnvC scope cl C X.env) fp) tg1 iter1 (lfI (tx X) it1))
    (hg1 : ∀ (s : Shared) (H : Hp) (C : Addr) (cl : List (Str × Addr)) (fp : List Addr), PG (X.blk s H scope (compEnvC scope cl C X.env) fp) tg1 (lfG (tx X) vs1 g1))
    (ht1 : ∀ (s : Shared) (H : Hp) (C : Addr) (cl : List (Str × Addr)) (fp : List Addr), PTs (X.blk s H scope (compEnvC scope cl C X.env) fp) ifs1 (lfT (tx X) tt1))
    (he : ∀ (s : Shared) (H : Hp) (C : Addr) (cl : List (Str × Addr)) (fp : List Addr), PE (X.blk s H scope (compEnvC scope cl C X.env) fp) elt (lf (tx X) el)) (hs : ∀ x, foldedSetIterable iter X.env x = pure x := by intro _; rfl) (hs1 : ∀ env x, foldedSetIterable iter1 env x = pure x := by intro _ _; rfl) :
    PE X (.ListComp elt [⟨tg, iter, ifs, 0⟩, ⟨tg1, iter1, ifs1, 0⟩] scope pos) (lf (tx X) (lc2M it g tt it1 g1 tt1 el (own.map (·.2)) vs1)) := (pe_lc2 hc hN hi ok hv hg ht hi1 hg1 ht1 he hs hs1).imp fun _ _ _ q => lc2_rd q
theorem m_dc (hc : X.calm = true) (hN : X.N.Nodup) (hi : PI X tg iter (lfI (tx X) it)) (ok : BlkOk X.N X.env.scope scope own)
    (hg : ∀ (s : Shared) (H : Hp) (C : Addr) (cl : List (Str × Addr)) (fp : List Addr), PG (X.blk s H scope (compEnvC scope cl C X.env) fp) tg (lfG (tx X) (own.map (·.2)) g))
    (ht : ∀ (s : Shared) (H : Hp) (C : Addr) (cl : List (Str × Addr)) (fp : List Addr), PTs (X.blk s H scope (compEnvC scope cl C X.env) fp) ifs (lfT (tx X) tt))
    (hk : ∀ (s : Shared) (H : Hp) (C : Addr) (cl : List (Str × Addr)) (fp : List Addr), PE (X.blk s H scope (compEnvC scope cl C X.env) fp) kx (lf (tx X) mk))
    (he : ∀ (s : Shared) (H : Hp) (C : Addr) (cl : List (Str × Addr)) (fp : List Addr), PE (X.blk s H scope (compEnvC scope cl C X.env) fp) vx (lf (tx X) mv)) (hs : ∀ x, foldedSetIterable iter X.env x = pure x := by intro _; rfl) :
    PE X (.DictComp kx vx [⟨tg, iter, ifs, 0⟩] scope pos) (lf (tx X) (dcM it g tt mk mv (own.map (·.2)))) := (pe_dc hc hN hi ok hg ht hk he hs).imp fun _ _ _ q => dc_rd q
end
end ML

set_option Elab.async false
set_option linter.all false
set_option maxRecDepth 100000
set_option autoImplicit false
/-! ### the law itself, called as the claim's caller calls it: no repr stands open around it -/
namespace ML
open PySem L2 PySem.Spec PyProof.Rows
structure FnAt (P : Program) (w : World) (K : PySem.W.Frag) (mg : Str → Option Value) (base : Heap) (f : Addr) (fd : FuncData) (ps : List Str) (sp : Sp) : Prop where
  run : ∀ (s : Shared) (H : Hp) (args : Args) (us : List Value) (vs : List V) (Q : VK) (E : XK), Env0 P w K mg base callerA [] s H → BindsTo s fd args (ps.zip us) → Vals vs us → sp vs H Q E →
    codeAny (model P w) callerA (.call (.ref f) args) (CR CX0 [] P w H s Q E) s
theorem fn_at {P : Program} {w : World} {K : PySem.W.Frag} {mg : Str → Option Value} {base : Heap} {k : Nat} {f : Addr} {x qual : Str} {st : Stmt} {fd : FuncData} {N ps : List Str} {sp : Sp} (F : Fun K x qual st f fd) (S : FnScope N ps (defScope st)) (len : ∀ vs H Q E, sp vs H Q E → vs.length = ps.length)
    (hr : Room (k + 1) callerA)
    (hbody : ∀ (cdv : Value) (A : Around) (s : Shared) (H : Hp) (vs : List V) (Q : VK) (E : XK), Room k A → A.guards = some [] → A = callerA.deeper (envOfC qual (defScope st) s.heap.objs.size f cdv) → sp vs H Q E →
      ∃ t, PSs (cxOf CX0 P w K mg base N qual (defScope st) f cdv callerA [] s H E).nox (defBody st) t ∧ t { nx := fun _ H' => Q .non H', rt := Q } (start N vs) H) : FnAt P w K mg base f fd ps sp := by
  obtain ⟨oc, od, kV, doc, pm, an, cdv, ct, osl, rfl, lk, hcd⟩ := F.ex
  refine ⟨fun s H args us vs Q E e0 hb r hsp => ?_⟩
  have hl := len _ _ _ _ hsp
  have inK : K.In s.heap := e0.mod.kin.keeps fun b o e => (e0.bs b o e).1
  have nolim : s.heap.NoLimit := e0.mod.nolimit.keeps fun b o e => (e0.bs b o e).1
  have kinds : ∀ y ∈ ps.zip us, (defScope st).names.lookup y.1 = some .local ∨ ((defScope st).names.lookup y.1 = some .cell ∧ ((cellsFrom (s.heap.objs.size + 1) (defScope st).names []).lookup y.1).isSome = true) := by
    rintro ⟨n, v⟩ hy
    rcases S.par n (List.of_mem_zip hy).1 with q | q
    · exact .inl q
    · exact .inr ⟨q, PySem.W.cellsFrom_some _ _ _ (.inl q)⟩
  refine codeAny_call_function hr.depth (inK _ _ lk) rfl S.co S.gen rfl (PySem.W.codeRec_of inK hcd) (hb _ _ _ _ ?_)
  refine wpAny_newFunctionEnv_cells S.kind kinds fun env he s1 xx => ?_
  subst he
  refine ⟨nolim.keeps xx.toInCall.keep, codeAny_func ?_⟩
  obtain ⟨t, ht, hq⟩ := hbody cdv _ s H vs Q E (hr.deeper _) rfl rfl hsp
  have J0 : Inv (cxOf CX0 P w K mg base N qual (defScope st) f cdv callerA [] s H E) [] (start N vs) H s1 := inv_start S hr.hd e0 hl r xx
  refine wpAny_mono (ht.nox.run [] s1 (start N vs) H _ J0 hq) (fun fl s' hs => ?_) fun e s' hs => hs
  cases fl with
  | ret u => obtain ⟨v, σ', H', J, rv, q⟩ := hs; exact ⟨v, H', J.os, J.bare, J.base, J.hok, rv, q⟩
  | next => obtain ⟨σ', H', J, q⟩ := hs; exact ⟨V.non, H', J.os, J.bare, J.base, J.hok, rfl, q⟩
  | brk => obtain ⟨_, _, _, q⟩ := hs; exact False.elim q
  | cont => obtain ⟨_, _, _, q⟩ := hs; exact False.elim q
/-- the promise at the heap behind the top -/
theorem law_at {P : Program} {w : World} {K : PySem.W.Frag} {mg mb : Str → Option Value} {fa a : Addr} {fd : FuncData} {x : Str} {sp : Sp} {sA : Shared} {vals : List Value} {ns : List Int} (KX : K.In sA.heap) (hns : sA.heap.Ns mainGlobals mg) (hb : sA.heap.Ns builtinsNs mb)
    (hbb : ∀ x : Str, x ≠ "__name__" → mb x = bootBuiltins x) (hlim : sA.heap.NoLimit) (hg : sA.gens = #[]) (ha : sA.heap.get? a = some { cls := .type "list", data := .seq vals.toArray }) (hi : IntsAre vals ns) (hl : ns.length ≤ sizeLine)
    (F : ∀ base : Heap, K.In base → base.Ns mainGlobals mg → FnAt P w K mg base fa fd [x] sp) (hbind : ∀ (s : Shared) (u : Value), BindsTo s fd ⟨[u], []⟩ [(x, u)]) (hsp : ∀ H : Hp, Only H → SqL K H a (ns.map V.int) → sp [.ref a] H (fun v _ => v = .bl true) fun _ _ _ => False) :
    codeAny (model P w) callerA (.call (.ref fa) ⟨[.ref a], []⟩) (fun r s' => r = .ok (.ret (.bool true)) ∧ OldK sA.heap s'.heap ∧ s'.os = sA.os ∧ AllBare s'.gens) sA := by
  have rv := vals_ints hi
  have lenV := hi.length
  have main : ∀ H : Hp, Only H → SqL K H a (ns.map V.int) → HOk P w H sA.heap → (∀ b, H b ≠ none → b = a) → (H a ≠ none → K.lookup a = none) → codeAny (model P w) callerA (.call (.ref fa) ⟨[.ref a], []⟩) (fun r s' => r = .ok (.ret (.bool true)) ∧ OldK sA.heap s'.heap ∧ s'.os = sA.os ∧ AllBare s'.gens) sA := fun H hO hS hok hA hK => by
    have one : ∀ {b : Addr} {u : HO}, H b = some u → b = a := fun {b u} q => hA b (by rw [q]; simp)
    have noD : ∀ {b : Addr} {o : Obj} {es : Array DictEntry} {ep : Nat}, sA.heap.get? b = some o → o.data = .dict es ep → H b = none := fun {b o es ep} e d => by
      cases q : H b with
      | none => rfl
      | some u =>
        have z := one q
        subst z
        rw [ha] at e; cases e
        cases (show Data.seq vals.toArray _ = Data.dict es ep from d)
    have nsH : ∀ {b : Addr} {m : Str → Option Value}, sA.heap.Ns b m → (hidT sA.heap H).Ns b m := fun {b m} ⟨o, es, ep, e, d, r⟩ => ⟨o, es, ep, hidT_get e (noD e d), d, r⟩
    have inK : K.In (hidT sA.heap H) := fun b o e => hidT_get (KX b o e) (by
      cases q : H b with
      | none => rfl
      | some u =>
        have z := one q
        subst z
        rw [hK (by rw [q]; simp)] at e; cases e)
    have md : Mod K mg (hidT sA.heap H) := ⟨inK, nsH hns, ⟨mb, nsH hb, hbb⟩, let ⟨mc, h1, h2⟩ := hlim; ⟨mc, nsH h1, h2⟩⟩
    have env : Env0 P w K mg (hidT sA.heap H) callerA [] sA H := ⟨rfl, md, fun b o e => of_hidT e, Nat.le_of_eq (hidT_size _ _), trivial, fun b hb => absurd (show b ∈ ([] : List Addr) from hb) (by simp), hok, .of_eq hg⟩
    refine codeAny_mono ((F _ inK (nsH hns)).run sA H ⟨[.ref a], []⟩ [.ref a] [.ref a] _ _ env (hbind sA (.ref a)) (.cons rfl .nil) (hsp H hO hS)) fun r s' h => ?_
    cases r with
    | error e => exact False.elim h
    | ok fl =>
      cases fl with
      | ret u =>
        obtain ⟨v, H', os, bare, un, hok', r', q⟩ := h
        have q' : v = .bl true := q
        subst q'
        obtain rfl : u = Value.bool true := r'
        refine ⟨rfl, OldK.of_keep fun b o e => ?_, os, bare⟩
        cases q : H b with
        | none => exact un.keep b o e q (fun z => absurd (show b ∈ ([] : List Addr) from z) (by simp)) (by simp)
        | some u =>
          rcases hO b with z | ⟨ob, xs, z⟩
          · rw [q] at z; cases z
          · obtain ⟨e1, _⟩ := hok b _ z
            obtain ⟨e2, _⟩ := hok' b _ (un.frzs b ob _ z)
            rw [e] at e1; cases e1
            exact e2
      | next => exact False.elim h
      | brk => exact False.elim h
      | cont => exact False.elim h
  cases hk : K.lookup a with
  | some o =>
    have e := KX a o hk
    rw [ha] at e
    cases e
    exact main (fun _ => none) (fun _ => .inl rfl) (.inr ⟨_, vals.toArray, _, hk, rfl, rfl, rfl, by rw [List.size_toArray, lenV]; exact hl, by simpa using rv⟩) (fun b u z => by cases (show (none : Option HO) = some u from z)) (fun b z => absurd rfl z) fun z => absurd rfl z
  | none =>
    refine main (fun b => if b = a then some (.frz { cls := .type "list", data := .seq vals.toArray } (.lst (ns.map V.int))) else none) (fun b => ?_) (.inl (.inr ⟨{ cls := .type "list", data := .seq vals.toArray }, if_pos rfl⟩)) (fun b u z => ?_) (fun b z => ?_) fun _ => hk
    · rcases Classical.em (b = a) with hb | hb
      · exact .inr ⟨_, _, if_pos hb⟩
      · exact .inl (if_neg hb)
    · rcases Classical.em (b = a) with hb | hb
      · cases (if_pos hb).symm.trans z
        subst hb
        exact ⟨ha, by rw [List.length_map]; exact hl, vals, _, rv, ha⟩
      · cases (if_neg hb).symm.trans z
    · rcases Classical.em (b = a) with hb | hb
      · exact hb
      · exact absurd (if_neg hb) z
theorem walk_at {l : PySem.W.OpenLaw} {n : Nat} {q : Program} {loose : List Str} {XP : (Str → Option Value) → Heap → Prop} {YP : World → Heap → Prop} {d : DefRec} {K : Params → PySem.W.Frag} {x : Str} (hn : l.most = some n) (hn2 : n ≤ sizeLine) (hdf : d.params.defaults = []) (hn63 : n = 63)
    (hY : ∀ (w : World) (h : Heap), YP w h → (K w.params).In h)
    (F : ∀ (w : World) (mg : Str → Option Value) (fa : Addr) (h : Heap), (K w.params).In h → h.Ns mainGlobals mg → mg d.name = some (.ref fa) → ∃ fd : FuncData, (∀ (s : Shared) (u : Value), BindsTo s fd ⟨[u], []⟩ [(x, u)]) ∧ ∀ base : Heap, (K w.params).In base → base.Ns mainGlobals mg → FnAt l.prog w (K w.params) mg base fa fd [x] (spLawM (K w.params))) :
    PySem.W.WalkO q loose XP YP l.row.toRowW d [] (fun f vs => PySem.call f vs) := by
  refine Att.attach_call hn hdf fun w sB sA mg mb fa o pm cd doc a vals ns G Y ho hd hcd hmg hobj hints hlen hgens => ?_
  have KX := hY w _ Y
  obtain ⟨fd, hb, hF⟩ := F w mg fa _ KX G.T.g hmg
  exact law_at KX G.T.g G.T.b G.T.builtins G.T.nolimit hgens hobj hints (Nat.le_trans hlen hn2) hF hb fun H hO hS => ⟨a, ns, rfl, hO, hS, by rw [← hn63]; exact hlen, fun _ => rfl⟩
/-- the law by its body -/
theorem law_ok {P : Program} {w : World} {K : PySem.W.Frag} {mg : Str → Option Value} {base : Heap} {k : Nat} {f : Addr} {x qual : Str} {st : Stmt} {fd : FuncData} {N ps : List Str} {b : Sm → M Fl} (F : Fun K x qual st f fd) (S : FnScope N ps (defScope st)) (hp : ps.length = 1) (hr : Room (k + 1) callerA)
    (hbody : ∀ (cdv : Value) (A : Around) (s : Shared) (H : Hp) (E : XK), Room k A → A.guards = some [] → A = callerA.deeper (envOfC qual (defScope st) s.heap.objs.size f cdv) → PSs (cxOf CX0 P w K mg base N qual (defScope st) f cdv callerA [] s H E).nox (defBody st) (lfS ⟨K, mg, P, w⟩ b))
    (hF : ∀ ns : List Int, ns.length ≤ 63 → ∃ h1, runB N.length b [.fro (ns.map .int)] [] = some (.bl true, h1)) : FnAt P w K mg base f fd ps (spLawM K) := by
  refine fn_at (k := k) F S (fun vs H Q E h => ?_) hr fun cdv A s H vs Q E r g e h => ⟨_, hbody cdv A s H E r g e, ?_⟩
  · obtain ⟨a, ns, rfl, _⟩ := h
    exact hp.symm
  obtain ⟨ι, h0, ds, d, h1, hn, rl, rv, e0, kk⟩ := law_in (T := ⟨K, mg, P, w⟩) hF vs H Q E h
  obtain ⟨fl, h', e1, e2⟩ := bind_some e0
  refine ⟨ι, _, h0, fl, h', rl, start_RS rv, e1, fun ι1 H1 x1 r1 => ?_⟩
  cases fl with
  | nx σ1 =>
    obtain ⟨e3, e4⟩ := pure_some e2
    subst e3 e4
    exact fun σ' _ => kk ι1 H1 .non x1 r1 (by rw [RV])
  | rt d' =>
    obtain ⟨e3, e4⟩ := pure_some e2
    subst e3 e4
    exact fun v q => kk ι1 H1 v x1 r1 q
  | bk σ1 => cases e2
  | ct σ1 => cases e2
end ML

set_option Elab.async false
set_option linter.all false
set_option maxRecDepth 100000
set_option autoImplicit false
namespace ML
open PySem L2
/-! ### repr of a tuple, list(..), lists joined -/
def reprD : List D → M D
  | [.tup xs] => if okD (.tup xs) = true ∧ (toP (.tup xs)).hasDict = false ∧ (toP (.tup xs)).showable = true ∧ (toP (.tup xs)).shown.length ≤ sizeLine then pure (.str (toP (.tup xs)).shown) else M.bad
  | _ => M.bad
def rRepr (K : PySem.W.Frag) : List V → Hp → VK → Prop := fun xs H Q => ∃ a d, xs = [V.ref a] ∧ Dp K H (.ref a) d ∧ SeqAt.shaped d = true ∧ d.hasDict = false ∧ d.showable = true ∧ d.shown.length ≤ sizeLine ∧ Q (.str d.shown) H
section
variable {X : Cx}
theorem c_repr (hgd : X.A.guards = some []) (hu : X.A.units + 100 < cLine) : CallR X (.builtin "repr") (rRepr X.K) := by
  intro pins s σ H xs us Q I r h
  obtain ⟨a, d, rfl, hd, sd, nd, sh, sz, q⟩ := h
  obtain rfl := Vals.ref1 r
  obtain ⟨as, rd⟩ := Dp.reads I d (.ref a) (.ref a) hd rfl
  have dl := SeqAt.depth_of_shaped sd
  exact repr_of_reads' rd sh (fun z => by rw [nd] at z; cases z) hgd (by omega) (fun _ _ e => e) (fun h' u tk hk => ⟨.str d.shown, H, I.kept hk, ⟨_, rfl⟩, q⟩) sz
theorem cm_repr : CallM (tx X) (rRepr X.K) reprD := by
  intro ι H h xs ds d h1 Q r q e k
  unfold reprD at e
  split at e
  · rename_i ys
    obtain ⟨c, e1, e2⟩ := ifp e
    subst e1 e2
    obtain ⟨x, ex, q1⟩ := RVs1 q
    have q0 := q1
    rw [RV] at q0
    obtain ⟨p, zs, ep, _, _⟩ := q0
    subst ex ep
    exact ⟨p, _, rfl, dp_of _ _ q1 (okD_lay c.1), c.1, c.2.1, c.2.2.1, c.2.2.2, k _ _ _ (Ex.refl _ _) r (by rw [RV])⟩
  · cases e
/-- list(d): the items, the keys -/
def listC (d : D) : M (List D) := fun h => match d with
  | .tup xs => some (xs, h)
  | .fro xs => some (xs, h)
  | .ref k => (match h[k]? with
    | some (.lst xs) => some (xs, h)
    | some (.dic kvs) => some (kvs.map (·.1), h)
    | some (.ldic kvs) => some (kvs.map (·.1), h)
    | _ => none)
  | _ => none
def lisM (m : Sm → M D) : Sm → M (List D) := fun σ => m σ >>= listC
/-- of a locked dict -/
def rListF : List V → Hp → VK → Prop := fun vs H Q => ∃ a od ks, vs = [V.ref a] ∧ H a = some (.frz od (.dK ks)) ∧ ∀ l, H l = none → Q (.ref l) (upd H l (.lst (ks.map fun p => kV p.1)))
theorem c_listF (cal : X.calm = true) : CallR X (.type "list") rListF := by
  intro pins σ0 σ H vs us Q I rel w
  obtain ⟨a, od, ks, ev, ea, fin⟩ := w
  subst ev
  obtain rfl := Vals.ref1 rel
  have ob := I.hok a _ ea
  obtain ⟨_, sz, lo, vs, pr, dk⟩ := ob
  obtain ⟨ep, dat⟩ := dk.dictAt
  have same : ks.length = vs.length := Paired.length pr
  refine PySem.W.kdl_call (PySem.W.kdl_dict (knd := mixKind X.prog X.w) (kvs := vs) (ep := ep) lo) (I.ok.hd cal) dat (same ▸ sz) fun h1 tk out cap kp at_ items => ?_
  have ne : H σ0.heap.objs.size = none := I.hok.fresh (Nat.le_refl _)
  have look : ObjOk X.prog X.w (upd H σ0.heap.objs.size (.lst (ks.map fun p => kV p.1))) h1 σ0.heap.objs.size (.lst (ks.map fun p => kV p.1)) := by
    refine ⟨by rw [List.length_map]; exact sz, out.toList, cap, ?_, by rw [Array.toArray_toList]; exact at_⟩
    refine vals_of_at ?_ fun j x w e1 e2 => ?_
    · have el : out.toList.length = vs.length := by simpa using items.1
      rw [List.length_map, el, same]
    · rw [Array.getElem?_toList] at e2
      obtain ⟨k, y, kat, is⟩ := items.2 j w e2
      have e3 : (ks.map (·.1))[j]? = some k := by
        rw [KV.keys pr, List.getElem?_map, kat]
        rfl
      rw [List.getElem?_map] at e1 e3
      cases q : ks[j]? with
      | none => rw [q] at e3; cases e3
      | some p =>
        rw [q] at e1 e3
        cases e1
        cases e3
        exact keyIs_rel is
  exact ⟨.ref σ0.heap.objs.size, _, I.laid kp (Nat.le_refl _) look, rfl, fin _ ne⟩
def rListA (K : PySem.W.Frag) : List V → Hp → VK → Prop := fun xs H Q => (∃ p ys, xs = [V.ref p] ∧ (SqL K H p ys ∨ SqT K H p ys) ∧ ∀ l, H l = none → Q (.ref l) (upd H l (.lst ys))) ∨ rListD xs H Q ∨ rListF xs H Q
theorem c_list (hc : X.calm = true) : CallR X (.type "list") (rListA X.K) := call_list_of.or ((call_list_dK hc).or (c_listF hc))
theorem keys_RVs {T : Tx} {ι : List Addr} {H : Hp} : ∀ {kvs : List (D × D)} {ks : List (Key × V)}, KRs T ι H kvs ks → RVs T ι H (kvs.map (·.1)) (ks.map fun kv => kV kv.1)
  | [], ks, r => by have e : ks = [] := r; rw [e]; show RVs T ι H [] []; rw [RVs]
  | p :: kvs, ks, r => by
    obtain ⟨k, v, s, e, ek, _, t⟩ := r
    rw [e]
    show RVs T ι H (p.1 :: kvs.map (·.1)) (kV k :: s.map fun kv => kV kv.1)
    rw [RVs]
    exact ⟨_, _, rfl, kD_RV ek, keys_RVs t⟩
theorem fresh_of {T : Tx} {ι ι1 : List Addr} {H H1 : Hp} {h1 : Hm} (x : Ex ι H ι1 H1) (r1 : Rl T ι1 H1 h1) {p : Addr} (hp : H1 p = none) : p ∉ ι1 ∧ H p = none := by
  have np : p ∉ ι1 := fun mm => by
    obtain ⟨u', e', _⟩ := r1.at mm
    rw [hp] at e'; cases e'
  refine ⟨np, ?_⟩
  cases q5 : H p with
  | none => rfl
  | some o =>
    by_cases hi : p ∈ ι
    · obtain ⟨s, es', _⟩ := x.pre
      exact absurd (by rw [es']; exact List.mem_append_left _ hi) np
    · have := x.fr p o q5 hi
      rw [hp] at this; cases this
theorem l_list {e : Expr} {m : Sm → M D} {p pos : Pos} (hc : X.calm = true) (hg : Gl X "list") (hm : X.mg "list" = none) (he : PE X e (lf (tx X) m))
    (hs : starEach [e] X.env = (false, eval e X.env) :: starEach [] X.env := by rfl) (hpl : (backTo pos (starEach [] X.env)).any (·.1) = false := by rfl) : PE X (.Call (.Name "list" p) [e] [] pos) (lfL (tx X) (lisM m)) :=
  (pe_callTy (c_list hc) hg hm (by decide +kernel) (pa_cons he pa_nil hs) (by decide) (by decide) hs hpl).imp fun σ H Q q => by
  obtain ⟨ι, σm, h, d, h1, r, rs, e, k⟩ := q
  show lf (tx X) m σ H fun v H1 => rListA X.K [v] H1 Q
  refine lf_then r rs e (P := fun ι2 H2 => ∀ a xs, Rl (tx X) ι2 H2 h1 → H a = none → a ∉ ι2 → H2 a = some (.lst xs) → RVs (tx X) ι2 H2 d xs → Q (.ref a) H2) (fun ι2 H2 y a xs => k ι2 H2 a xs y) fun ι1 H1 v dv h' x1 r1 rs1 q1 e1 k1 => ?_
  have fin : ∀ {ds : List D} {xs : List V} {l : Addr}, RVs (tx X) ι1 H1 ds xs → d = ds → h1 = h' → H1 l = none → Q (.ref l) (upd H1 l (.lst xs)) := fun {ds xs l} qx ed eh hl => by
    subst ed eh
    obtain ⟨x4, r4⟩ := r1.other (u := .lst xs) hl
    obtain ⟨np, hH⟩ := fresh_of x1 r1 hl
    exact k1 _ _ x4 _ _ r4 hH np upd_same (RVs.up (x4.up r1) _ _ qx)
  cases dv with
  | tup ds =>
    obtain ⟨e2, e3⟩ := some_pair e1
    rw [RV] at q1
    obtain ⟨a, xs, ea, s, q⟩ := q1
    subst ea
    exact .inl ⟨a, xs, rfl, .inr s, fun l hl => fin q e2.symm e3.symm hl⟩
  | fro ds =>
    obtain ⟨e2, e3⟩ := some_pair e1
    rw [RV] at q1
    obtain ⟨a, xs, ea, s, q⟩ := q1
    subst ea
    exact .inl ⟨a, xs, rfl, .inl s.sq, fun l hl => fin q e2.symm e3.symm hl⟩
  | ref kk =>
    have e1 : (match h'[kk]? with | some (.lst xs) => some (xs, h') | some (.dic kvs) => some (kvs.map (·.1), h') | some (.ldic kvs) => some (kvs.map (·.1), h') | _ => none) = some (d, h1) := e1
    cases q2 : h'[kk]? with
    | none => rw [q2] at e1; cases e1
    | some ob =>
      rw [q2] at e1
      cases ob with
      | lst ds =>
        obtain ⟨e2, e3⟩ := some_pair e1
        obtain ⟨a, ys, ex, _, hy, q⟩ := at_lst r1 q1 q2
        subst ex
        exact .inl ⟨a, ys, rfl, .inl (SqL.of hy), fun l hl => fin q e2.symm e3.symm hl⟩
      | dic kvs =>
        obtain ⟨e2, e3⟩ := some_pair e1
        obtain ⟨a, ks, ex, _, hy, q⟩ := at_dic r1 q1 q2
        subst ex
        exact .inr (.inl ⟨a, ks, rfl, hy, fun l hl => fin (keys_RVs q) e2.symm e3.symm hl⟩)
      | ldic kvs =>
        obtain ⟨e2, e3⟩ := some_pair e1
        obtain ⟨a, od, ks, ex, _, hy, q⟩ := at_ldic r1 q1 q2
        subst ex
        exact .inr (.inr ⟨a, od, ks, rfl, hy, fun l hl => fin (keys_RVs q) e2.symm e3.symm hl⟩)
      | _ => cases e1
  | _ => cases e1
/-- xs + ys, two lists of ours -/
def catD (a b : D) : M D := fun h => match a, b with
  | .ref k, .ref j => (match h[k]?, h[j]? with
    | some (.lst xs), some (.lst ys) => if xs.length + ys.length ≤ sizeLine then some (.ref h.length, h ++ [.lst (xs ++ ys)]) else none
    | _, _ => none)
  | _, _ => none
theorem o2_cat : Op2 (tx X) rCat catD := by
  intro ι H h x y a b d h1 Q r qa qb e k
  unfold catD at e
  split at e
  · rename_i kk jj
    cases q2 : h[kk]? with
    | none => rw [q2] at e; cases e
    | some ob =>
      cases q3 : h[jj]? with
      | none => rw [q2, q3] at e; cases ob <;> cases e
      | some ob2 =>
        rw [q2, q3] at e
        cases ob with
        | lst xs =>
          cases ob2 with
          | lst ys =>
            obtain ⟨a, zs, ex, ha, hz, qz⟩ := at_lst r qa q2
            obtain ⟨b, vs, ex2, hb, hv, qv⟩ := at_lst r qb q3
            have e : (if xs.length + ys.length ≤ sizeLine then some (D.ref h.length, h ++ [.lst (xs ++ ys)]) else none) = some (d, h1) := e
            by_cases hl : xs.length + ys.length ≤ sizeLine
            · rw [if_pos hl] at e
              obtain ⟨e1, e2⟩ := some_pair e
              subst e1 e2
              refine ⟨a, b, zs, vs, ex, ex2, hz, hv, by rw [qz.length, qv.length]; exact hl, fun p hp => ?_⟩
              obtain ⟨xn, rn⟩ := r.new (u := .lst (zs ++ vs)) (o := .lst (xs ++ ys)) hp fun up => ⟨_, upd_same, RVs.append (RVs.up up _ _ qz) (RVs.up up _ _ qv)⟩
              exact k _ _ _ xn rn (by rw [RV]; exact ⟨p, new_at r p, rfl⟩)
            · rw [if_neg hl] at e; cases e
          | _ => cases e
        | _ => cases e
  · cases e
/-- an expression read while all dicts are locked -/
def lockM (m : Sm → M D) : Sm → M D := fun σ h => match m σ (h.map lockO) with
  | some (d, h1) => some (d, unlH h h1)
  | none => none
theorem m_lock {e : Expr} {m : Sm → M D} (he : PE X e (lf (tx X) m)) : PE X e (lf (tx X) (lockM m)) := by
  refine ⟨fun pins s σ H Q I q => ?_⟩
  obtain ⟨ι, σm, h, d, h1, r, rs, e1, k⟩ := q
  unfold lockM at e1
  cases e2 : m σm (h.map lockO) with
  | none => rw [e2] at e1; cases e1
  | some p =>
    obtain ⟨dv, h2⟩ := p
    rw [e2] at e1
    obtain ⟨e3, e4⟩ := some_pair e1
    subst e3 e4
    obtain ⟨H', I', r', up, n1, n2, n3⟩ := lock_Rl I r
    refine thn (he.run pins s σ H' (fun v H1 => ∃ ι1, Ex ι H' ι1 H1 ∧ Rl (tx X) ι1 H1 h2 ∧ RV (tx X) ι1 H1 dv v) I' ⟨ι, σm, h.map lockO, dv, h2, r', rs.up up, e2, fun ι1 H1 v x r1 q1 => ⟨ι1, x, r1, q1⟩⟩) fun v s1 hv => ?_
    obtain ⟨v', H1, I1, rv, ι1, x, r1, q1⟩ := hv
    obtain ⟨H2, I2, r2, up2, m1, m2⟩ := unlock_Rl I r (by obtain ⟨t, et, _⟩ := x.pre; exact ⟨t, et⟩) I1 r1
    refine ⟨v', H2, I2, rv, k ι1 H2 v' ⟨?_, fun b o eb nb => ?_, fun b o u eb => ?_⟩ r2 (RV.up up2 _ _ q1)⟩
    · obtain ⟨t, et, nt⟩ := x.pre
      exact ⟨t, et, fun b mb => n3 b (nt b mb)⟩
    · rw [m1 b nb]
      exact x.fr b o (by rw [n1 b nb]; exact eb) nb
    · rw [m2 b o u eb]
      exact x.fz b o u (n2 b o u eb)
end
end ML

set_option Elab.async false
set_option linter.all false
set_option maxRecDepth 100000
set_option autoImplicit false
namespace ML
open PySem L2
/-! ### dicts whose keys are tuples -/
theorem tdx_ok {P : Program} {w : World} {H : Hp} {h : Heap} {a : Addr} {xs : List (NestedKey × Addr × Value)} (t : TDx P w a xs h) : ObjOk P w H h a (.ext (TDx P w a xs)) := by
  obtain ⟨t1, t2, o, es, ep, e, t3, t4, t5, t6⟩ := id t
  exact ⟨t, ⟨o, e⟩, fun h1 h2 ⟨q1, q2, o, es, ep, e, q3⟩ k => ⟨q1, q2, o, es, ep, k o e, q3⟩⟩
mutual
theorem nested_of {X : Cx} {pins : List (Addr × Obj)} {σ : St} {H : Hp} {s : Shared} (I : Inv X pins σ H s) {ι : List Addr} : ∀ (d : D) (nk : NestedKey) (v : V) (u : Value), kN d = some nk → RV (tx X) ι H d v → RelV v u → NestedIs s.heap nk u
  | .non, nk, v, u, e, q, r => by
    cases e
    rw [RV] at q
    subst q
    obtain rfl : u = Value.none := r
    exact .none
  | .int i, nk, v, u, e, q, r => by
    cases e
    rw [RV] at q
    subst q
    obtain ⟨t, rfl⟩ := (show ∃ t, u = Value.int i t from r)
    exact .int i t
  | .str x, nk, v, u, e, q, r => by
    cases e
    rw [RV] at q
    subst q
    obtain ⟨t, rfl⟩ := (show ∃ t, u = Value.str x t from r)
    exact .text x t
  | .tup ds, nk, v, u, e, q, r => by
    obtain ⟨ks, e1, e2⟩ := Option.map_eq_some_iff.mp (show (kNs ds).map NestedKey.tup = some nk from by rw [← e, kN])
    subst e2
    rw [RV] at q
    obtain ⟨a, xs, ev, sq, qs⟩ := q
    subst ev
    obtain rfl : u = Value.ref a := r
    obtain ⟨its, rv, ⟨o, ho, hc, n, hd⟩, hz⟩ := I.tuple sq
    exact .tup ho hc hd (by simpa using nesteds_of I ds ks xs its e1 qs rv)
  | .bl _, nk, v, u, e, q, r => by rw [kN] at e <;> first | cases e | simp
  | .ref _, nk, v, u, e, q, r => by rw [kN] at e <;> first | cases e | simp
  | .glob _, nk, v, u, e, q, r => by rw [kN] at e <;> first | cases e | simp
  | .fro _, nk, v, u, e, q, r => by rw [kN] at e <;> first | cases e | simp
theorem nesteds_of {X : Cx} {pins : List (Addr × Obj)} {σ : St} {H : Hp} {s : Shared} (I : Inv X pins σ H s) {ι : List Addr} : ∀ (ds : List D) (ks : List NestedKey) (vs : List V) (us : List Value), kNs ds = some ks → RVs (tx X) ι H ds vs → Vals vs us → NestedAll s.heap ks us
  | [], ks, vs, us, e, q, r => by
    rw [RVs] at q
    subst q
    rw [kNs] at e
    cases e
    cases r
    exact .nil
  | d :: ds, ks, vs, us, e, q, r => by
    rw [RVs] at q
    obtain ⟨x, s', ex, q1, q2⟩ := q
    subst ex
    cases r with
    | cons r1 r2 =>
      rw [kNs] at e
      cases e1 : kN d with
      | none => rw [e1] at e; cases e
      | some k =>
        cases e2 : kNs ds with
        | none => rw [e1, e2] at e; cases e
        | some ks' =>
          rw [e1, e2] at e
          cases e
          exact .cons (nested_of I d k x _ e1 q1 r1) (nesteds_of I ds ks' s' _ e2 q2 r2)
end
mutual
theorem kN_inj : ∀ (a b : D) (k : NestedKey), kN a = some k → kN b = some k → a = b
  | .non, b, k, ha, hb => by rw [kN] at ha; cases ha; cases b <;> simp [kN] at hb; rfl
  | .int i, b, k, ha, hb => by rw [kN] at ha; cases ha; cases b <;> simp [kN] at hb; rw [hb]
  | .str i, b, k, ha, hb => by rw [kN] at ha; cases ha; cases b <;> simp [kN] at hb; rw [hb]
  | .tup xs, b, k, ha, hb => by
    obtain ⟨ks, e1, e2⟩ := Option.map_eq_some_iff.mp (show (kNs xs).map NestedKey.tup = some k from by rw [← ha, kN])
    subst e2
    cases b with
    | tup ys =>
      obtain ⟨ls, e3, e4⟩ := Option.map_eq_some_iff.mp (show (kNs ys).map NestedKey.tup = some (NestedKey.tup ks) from by rw [← hb, kN])
      injection e4 with e4
      subst e4
      rw [kNs_inj xs ys ls e1 e3]
    | _ => simp [kN] at hb
  | .bl _, b, k, ha, hb => by simp [kN] at ha
  | .ref _, b, k, ha, hb => by simp [kN] at ha
  | .glob _, b, k, ha, hb => by simp [kN] at ha
  | .fro _, b, k, ha, hb => by simp [kN] at ha
theorem kNs_inj : ∀ (as bs : List D) (ks : List NestedKey), kNs as = some ks → kNs bs = some ks → as = bs
  | [], bs, ks, ha, hb => by
    rw [kNs] at ha
    cases ha
    cases bs with
    | nil => rfl
    | cons b bs =>
      rw [kNs] at hb
      cases e1 : kN b with
      | none => rw [e1] at hb; cases hb
      | some k => cases e2 : kNs bs with
        | none => rw [e1, e2] at hb; cases hb
        | some ks => rw [e1, e2] at hb; cases hb
  | a :: as, bs, ks, ha, hb => by
    rw [kNs] at ha
    cases e1 : kN a with
    | none => rw [e1] at ha; cases ha
    | some k =>
      cases e2 : kNs as with
      | none => rw [e1, e2] at ha; cases ha
      | some ks' =>
        rw [e1, e2] at ha
        cases ha
        cases bs with
        | nil => rw [kNs] at hb; cases hb
        | cons b bs =>
          rw [kNs] at hb
          cases e3 : kN b with
          | none => rw [e3] at hb; cases hb
          | some k2 =>
            cases e4 : kNs bs with
            | none => rw [e3, e4] at hb; cases hb
            | some ks2 =>
              rw [e3, e4] at hb
              injection hb with hb
              injection hb with h1 h2
              subst h1 h2
              rw [kN_inj a b _ e1 e3, kNs_inj as bs _ e2 e4]
end
/-- a dict of ours with tuple keys, perhaps locked -/
def RdT (X : Cx) (H : Hp) (a : Addr) (xs : List (NestedKey × Addr × Value)) : Prop := H a = some (.ext (TDx X.prog X.w a xs)) ∨ ∃ o, H a = some (.frz o (.ext (TDx X.prog X.w a xs)))
/-- .. in the heap -/
theorem td_heap {X : Cx} {pins : List (Addr × Obj)} {σ : St} {H : Hp} {s : Shared} (I : Inv X pins σ H s) {ι : List Addr} {a : Addr} {kvs : List (D × D)} {xs : List (NestedKey × Addr × Value)} (hy : RdT X H a xs) (q : TRs (tx X) ι H kvs xs) :
    (a == sysModules) = false ∧ xs.length ≤ sizeLine ∧ s.heap.DictOfH (nestedKind X.prog X.w) a xs := by
  have td : TDx X.prog X.w a xs s.heap := by
    rcases hy with hy | ⟨o, hy⟩
    · exact (I.hok a _ hy).1
    · exact (I.hok a _ hy).2.1
  obtain ⟨t1, t2, o, es, ep, e, t3, t4, t5, t6⟩ := td
  refine ⟨t1, t2, o, es, ep, e, t3, t4, t5, ?_, t6⟩
  have all : ∀ (kvs : List (D × D)) (xs : List (NestedKey × Addr × Value)), TRs (tx X) ι H kvs xs → ∀ x ∈ xs, (nestedKind X.prog X.w).is s.heap x.1 x.2.1 := by
    intro kvs
    induction kvs with
    | nil => intro xs r x hx; have e : xs = [] := r; rw [e] at hx; simp at hx
    | cons p kvs ih =>
      intro xs r x hx
      obtain ⟨nk, b, u, v, s', e, e1, e2, q1, q2, q3, t⟩ := r
      subst e
      rcases List.mem_cons.mp hx with z | z
      · subst z
        exact ⟨nested_of I p.1 nk (.ref b) (.ref b) e1 q1 rfl, e2⟩
      · exact ih s' t x z
  exact all kvs xs q
theorem TRs.at {T : Tx} {ι : List Addr} {H : Hp} {key : D} {nk : NestedKey} (hk : kN key = some nk) : ∀ {kvs : List (D × D)} {xs : List (NestedKey × Addr × Value)}, TRs T ι H kvs xs → (atKey xs nk).isSome = (kvs.any fun p => decide (p.1 = key))
  | [], xs, r => by have e : xs = [] := r; subst e; rfl
  | p :: kvs, xs, r => by
    obtain ⟨nk', b, u, v, s', e, e1, e2, q1, q2, q3, t⟩ := r
    subst e
    have ih := TRs.at hk t
    by_cases hp : p.1 = key
    · have : nk' = nk := by rw [hp, hk] at e1; exact (Option.some.inj e1).symm
      subst this
      rw [List.any_cons, decide_eq_true hp]
      simp [atKey]
    · have : ¬ nk' = nk := fun z => hp (kN_inj _ _ nk (by rw [e1, z]) hk)
      rw [List.any_cons, decide_eq_false hp, Bool.false_or, ← ih]
      simp [atKey, List.find?_cons, this]
theorem TRs.length {T : Tx} {ι : List Addr} {H : Hp} : ∀ {kvs : List (D × D)} {xs : List (NestedKey × Addr × Value)}, TRs T ι H kvs xs → xs.length = kvs.length
  | [], xs, r => by have e : xs = [] := r; rw [e]; rfl
  | p :: kvs, xs, r => by
    obtain ⟨nk', b, u, v, s', e, e1, e2, q1, q2, q3, t⟩ := r
    rw [e, List.length_cons, List.length_cons, TRs.length t]
theorem TRs.repl {T : Tx} {ι : List Addr} {H : Hp} {key d : D} {nk : NestedKey} {w : V} {u : Value} (hk : kN key = some nk) (qw : RV T ι H d w) (rw' : RelV w u) : ∀ {kvs : List (D × D)} {xs : List (NestedKey × Addr × Value)}, TRs T ι H kvs xs → TRs T ι H (kvs.map fun p => if p.1 = key then (p.1, d) else p) (xs.map (putAt nk u))
  | [], xs, r => by have e : xs = [] := r; rw [e]; exact rfl
  | p :: kvs, xs, r => by
    obtain ⟨nk', b, u', v, s', e, e1, e2, q1, q2, q3, t⟩ := r
    subst e
    rw [List.map_cons, List.map_cons]
    have ih := TRs.repl hk qw rw' t
    unfold putAt
    by_cases hp : p.1 = key
    · have : nk' = nk := by rw [hp, hk] at e1; exact (Option.some.inj e1).symm
      rw [if_pos hp, if_pos this]
      exact ⟨nk', b, u, w, _, rfl, e1, e2, q1, qw, rw', ih⟩
    · have : ¬ nk' = nk := fun z => hp (kN_inj _ _ nk (by rw [e1, z]) hk)
      rw [if_neg hp, if_neg this]
      exact ⟨nk', b, u', v, _, rfl, e1, e2, q1, q2, q3, ih⟩
theorem TRs.snoc {T : Tx} {ι : List Addr} {H : Hp} {key d : D} {nk : NestedKey} {w : V} {u : Value} {b : Addr} (hk : kN key = some nk) (hd : nk.depth ≤ 8) (qk : RV T ι H key (.ref b)) (qw : RV T ι H d w) (rw' : RelV w u) : ∀ {kvs : List (D × D)} {xs : List (NestedKey × Addr × Value)}, TRs T ι H kvs xs → TRs T ι H (kvs ++ [(key, d)]) (xs ++ [(nk, b, u)])
  | [], xs, r => by have e : xs = [] := r; rw [e]; exact ⟨nk, b, u, w, [], rfl, hk, hd, qk, qw, rw', rfl⟩
  | p :: kvs, xs, r => by
    obtain ⟨nk', b', u', v, s', e, e1, e2, q1, q2, q3, t⟩ := r
    rw [e]
    exact ⟨nk', b', u', v, s' ++ [(nk, b, u)], rfl, e1, e2, q1, q2, q3, TRs.snoc hk hd qk qw rw' t⟩
theorem TRs.put {T : Tx} {ι : List Addr} {H : Hp} {key d : D} {nk : NestedKey} {w : V} {u : Value} {b : Addr} (hk : kN key = some nk) (hd : nk.depth ≤ 8) (qk : RV T ι H key (.ref b)) (qw : RV T ι H d w) (rw' : RelV w u) {kvs : List (D × D)} {xs : List (NestedKey × Addr × Value)} (t : TRs T ι H kvs xs) :
    TRs T ι H (putKD kvs key d) (storedH xs nk b u) := by
  unfold putKD storedH
  rw [TRs.at hk t]
  split
  · exact TRs.repl hk qw rw' t
  · exact TRs.snoc hk hd qk qw rw' t
end ML

set_option Elab.async false
set_option linter.all false
set_option maxRecDepth 100000
set_option autoImplicit false
namespace ML
open PySem L2
def isTK (d : D) : Bool := match d with
  | .tup _ => match kN d with
    | some k => decide (k.depth ≤ 8)
    | none => false
  | _ => false
def inT (neg : Bool) (x y : D) : M D := fun h => match y with
  | .ref k => (match h[k]? with
    | some (.tdc kvs) => if isTK x = true then some (.bl (if neg then !(kvs.any fun p => decide (p.1 = x)) else kvs.any fun p => decide (p.1 = x)), h) else none
    | some (.ltdc kvs) => if isTK x = true then some (.bl (if neg then !(kvs.any fun p => decide (p.1 = x)) else kvs.any fun p => decide (p.1 = x)), h) else none
    | _ => none)
  | _ => none
def rInT (X : Cx) (neg : Bool) : R2 := fun x y H Q => ∃ ι d nk a b kvs xs, RV (tx X) ι H d x ∧ x = .ref b ∧ kN d = some nk ∧ nk.depth ≤ 8 ∧ y = .ref a ∧ RdT X H a xs ∧ TRs (tx X) ι H kvs xs ∧
  Q (.bl (if neg then !(kvs.any fun p => decide (p.1 = d)) else kvs.any fun p => decide (p.1 = d))) H
theorem isTK_of {d : D} (h : isTK d = true) : ∃ ds nk, d = .tup ds ∧ kN d = some nk ∧ nk.depth ≤ 8 := by
  cases d with
  | tup ds =>
    unfold isTK at h
    cases e : kN (.tup ds) with
    | none => simp [e] at h
    | some k => simp only [e, decide_eq_true_eq] at h; exact ⟨ds, k, rfl, rfl, h⟩
  | _ => cases h
section
variable {X : Cx}
theorem roomN (hu : X.A.units + 100 < cLine) : (nestedKind X.prog X.w).room X.A.in1 := by
  show X.A.units + 1 + 8 < cLine
  omega
theorem o_inT (hu : X.A.units + 100 < cLine) : OpR X (compareOp .In) (rInT X false) := by
  intro pins s σ H x y v u Q I rx ry h
  obtain ⟨ι, d, nk, a, b, kvs, xs, q, rfl, ek, dk, rfl, hy, t, fin⟩ := h
  cases rx
  cases ry
  obtain ⟨t1, t2, t3⟩ := td_heap I hy t
  refine wpAny_in_heap (knd := nestedKind X.prog X.w) (roomN hu) ⟨nested_of I d nk _ _ ek q rfl, dk⟩ t1 t3 ?_
  rw [TRs.at ek t]
  exact ⟨.bl _, H, I.tok _, rfl, fin⟩
theorem o_notInT (hu : X.A.units + 100 < cLine) : OpR X (compareOp .NotIn) (rInT X true) := by
  intro pins s σ H x y v u Q I rx ry h
  obtain ⟨ι, d, nk, a, b, kvs, xs, q, rfl, ek, dk, rfl, hy, t, fin⟩ := h
  cases rx
  cases ry
  obtain ⟨t1, t2, t3⟩ := td_heap I hy t
  refine PyProof.Rows.wpAny_notIn_heap (knd := nestedKind X.prog X.w) (roomN hu) ⟨nested_of I d nk _ _ ek q rfl, dk⟩ t1 t3 ?_
  rw [TRs.at ek t]
  exact ⟨.bl _, H, I.tok _, rfl, fin⟩
theorem at_tdc {ι : List Addr} {H : Hp} {h : Hm} {T : Tx} {k : Nat} {x : V} {kvs : List (D × D)} (r : Rl T ι H h) (q : RV T ι H (.ref k) x) (e : h[k]? = some (.tdc kvs)) : ∃ a xs, x = .ref a ∧ ι[k]? = some a ∧ H a = some (.ext (TDx T.P T.w a xs)) ∧ TRs T ι H kvs xs := by
  rw [RV] at q
  obtain ⟨a, ha, ea⟩ := q
  obtain ⟨ys, hy, qs⟩ := r.obj k a _ ha e
  exact ⟨a, ys, ea, ha, hy, qs⟩
theorem at_ltdc {ι : List Addr} {H : Hp} {h : Hm} {T : Tx} {k : Nat} {x : V} {kvs : List (D × D)} (r : Rl T ι H h) (q : RV T ι H (.ref k) x) (e : h[k]? = some (.ltdc kvs)) : ∃ a o xs, x = .ref a ∧ ι[k]? = some a ∧ H a = some (.frz o (.ext (TDx T.P T.w a xs))) ∧ TRs T ι H kvs xs := by
  rw [RV] at q
  obtain ⟨a, ha, ea⟩ := q
  obtain ⟨o, ys, hy, qs⟩ := r.obj k a _ ha e
  exact ⟨a, o, ys, ea, ha, hy, qs⟩
theorem at_rtd {ι : List Addr} {H : Hp} {h : Hm} {k : Nat} {x : V} {kvs : List (D × D)} (r : Rl (tx X) ι H h) (q : RV (tx X) ι H (.ref k) x) (e : h[k]? = some (.tdc kvs) ∨ h[k]? = some (.ltdc kvs)) : ∃ a xs, x = .ref a ∧ RdT X H a xs ∧ TRs (tx X) ι H kvs xs := by
  rcases e with e | e
  · obtain ⟨a, xs, ex, _, hy, t⟩ := at_tdc r q e
    exact ⟨a, xs, ex, .inl hy, t⟩
  · obtain ⟨a, o, xs, ex, _, hy, t⟩ := at_ltdc r q e
    exact ⟨a, xs, ex, .inr ⟨o, hy⟩, t⟩
theorem o2_inT {neg : Bool} : Op2 (tx X) (rInT X neg) (inT neg) := by
  intro ι H h x y a b d h1 Q r qa qb e k
  unfold inT at e
  cases b with
  | ref kk =>
    have go : ∀ kvs, (h[kk]? = some (.tdc kvs) ∨ h[kk]? = some (.ltdc kvs)) → (if isTK a = true then some (D.bl (if neg then !(kvs.any fun p => decide (p.1 = a)) else kvs.any fun p => decide (p.1 = a)), h) else none) = some (d, h1) → rInT X neg x y H Q := fun kvs q2 e => by
      by_cases c : isTK a = true
      · rw [if_pos c] at e
        obtain ⟨e1, e2⟩ := some_pair e
        subst e1 e2
        obtain ⟨ds, nk, ed, ek, dk⟩ := isTK_of c
        subst ed
        obtain ⟨p, xs, ep, hy, q⟩ := at_rtd r qb q2
        have q0 := qa
        rw [RV] at q0
        obtain ⟨b, zs, eb, _, _⟩ := q0
        exact ⟨ι, .tup ds, nk, p, b, kvs, xs, qa, eb, ek, dk, ep, hy, q, k _ _ _ (Ex.refl _ _) r (by rw [RV])⟩
      · rw [if_neg c] at e; cases e
    dsimp only at e
    cases q2 : h[kk]? with
    | none => rw [q2] at e; cases e
    | some ob =>
      rw [q2] at e
      cases ob with
      | tdc kvs => exact go kvs (.inl q2) e
      | ltdc kvs => exact go kvs (.inr q2) e
      | _ => cases e
  | _ => cases e
/-- {}, for tuple keys -/
def newT : Sm → M D := fun _ h => some (.ref h.length, h ++ [.tdc []])
theorem m_newT {pos : Pos} : PE X (.Dict [] [] pos) (lf (tx X) newT) := by
  refine ⟨fun pins s σ H Q I q => ?_⟩
  obtain ⟨ι, σm, h, d, h1, r, rs, e, k⟩ := q
  obtain ⟨e1, e2⟩ := some_pair (show some (D.ref h.length, h ++ [O.tdc []]) = some (d, h1) from e)
  subst e1 e2
  have hn : H s.heap.objs.size = none := I.hok.fresh (Nat.le_refl _)
  have t : TDx X.prog X.w s.heap.objs.size [] (s.heap.push { cls := .type "dict", data := .dict #[] }) :=
    ⟨beq_eq_false_iff_ne.mpr (Ne.symm (Nat.ne_of_lt I.big)), Nat.zero_le _, _, #[], 0, Heap.get?_push_size _ rfl, ⟨rfl, rfl, rfl⟩, rfl, rfl, List.nodup_nil⟩
  obtain ⟨xn, rn⟩ := r.new (u := .ext (TDx X.prog X.w s.heap.objs.size [])) (o := .tdc []) hn fun up => ⟨[], upd_same, rfl⟩
  refine wpAny_Dict_empty ⟨.ref s.heap.objs.size, _, I.laid (a := s.heap.objs.size) (o := .ext (TDx X.prog X.w s.heap.objs.size [])) (t' := s.toks) (fun _ _ q => Heap.get?_push_of_some _ q) (Nat.le_refl _) (tdx_ok t), rfl, k _ _ _ xn rn ?_⟩
  rw [RV]
  exact ⟨_, new_at r _, rfl⟩
/-- d[..] = v, a tuple as key -/
def setT (o key v : D) : Hm → Option Hm := fun h => match o with
  | .ref k => (match h[k]? with
    | some (.tdc kvs) => if isTK key = true ∧ kvs.length < sizeLine then some (h.set k (.tdc (putKD kvs key v))) else none
    | _ => none)
  | _ => none
def rSetT (X : Cx) : TSet := fun o i v H Q => ∃ ι d dv nk a b kvs xs, RV (tx X) ι H d i ∧ i = .ref b ∧ kN d = some nk ∧ nk.depth ≤ 8 ∧ RV (tx X) ι H dv v ∧ o = .ref a ∧ H a = some (.ext (TDx X.prog X.w a xs)) ∧ TRs (tx X) ι H kvs xs ∧ kvs.length < sizeLine ∧
  ∀ u, RelV v u → Q (upd H a (.ext (TDx X.prog X.w a (storedH xs nk b u))))
theorem p_setT (hu : X.A.units + 100 < cLine) : PSet X (rSetT X) := by
  intro pins s σ H o i v ov iv u Q I ro ri rv h
  obtain ⟨ι, d, dv, nk, a, b, kvs, xs, q, rfl, ek, dk, qv, rfl, hy, t, hl, fin⟩ := h
  cases ro
  cases ri
  obtain ⟨t1, t2, t3⟩ := td_heap I (.inl hy) t
  refine wpAny_setItem_heap (knd := nestedKind X.prog X.w) (hsz := t2) (roomN hu) ⟨nested_of I d nk _ _ ek q rfl, dk⟩ t3 fun h' dd' hs => ⟨_, ?_, fin u rv⟩
  obtain ⟨o, es, ep, e1, e2, e3, e4, e5, e6⟩ := dd'
  have sz : (storedH xs nk b u).length ≤ sizeLine := by
    have l1 := t.length
    unfold storedH
    split
    · rw [List.length_map]; exact t2
    · rw [List.length_append, List.length_singleton]; omega
  exact d_write I (by rw [hy]; exact True.intro) hs ⟨o, e1⟩ (tdx_ok ⟨t1, sz, o, es, ep, e1, e2, e3, e4, e6⟩)
def subT (mv mo mi : Sm → M D) : Sm → M Fl := fun σ => mv σ >>= fun v => mo σ >>= fun o => mi σ >>= fun i => fun h => (setT o i v h).map fun h1 => (.nx σ, h1)
variable {e o i : Expr} {mv mo mi : Sm → M D} {tpos pos : Pos}
theorem s_subT (hu : X.A.units + 100 < cLine) (he : PE X e (lf (tx X) mv)) (ho : PE X o (lf (tx X) mo)) (hi : PE X i (lf (tx X) mi))
    (ha : ∀ v, assign (.Subscript o i tpos) X.env v = (do
      let ov ← holding [v] (eval o X.env)
      let iv ← holding [v, ov] (eval i X.env)
      standAt tpos
      holding [v, ov, iv] (setItem ov iv v)
      release [v, ov, iv] []) := by intro _; rfl)
    (hs : swapsWithSole [.Subscript o i tpos] e pos.line X.env = pure false := by rfl) (hw : swappedStores [.Subscript o i tpos] e X.env = pure none := by rfl)
    (h1 : (assignEach [.Subscript o i tpos] X.env).map (·.2) = [assign (.Subscript o i tpos) X.env] := by rfl) : PS X (.Assign [.Subscript o i tpos] e pos) (lfS (tx X) (subT mv mo mi)) :=
  (ps_asg he (pg_sub ho hi (p_setT hu) ha) hs hw h1).imp fun D σ H q => by
  obtain ⟨ι, σm, h, f, h1, r, rs, e, k⟩ := q
  refine lf_then r rs e (P := fun ι2 H2 => Rl (tx X) ι2 H2 h1 → EndF (tx X) ι2 H2 D f) k fun ι1 H1 v dv h' x1 r1 rs1 q1 e1 k1 => ?_
  refine lf_then r1 rs1 e1 k1 fun ι2 H2 ov do' h2 x2 r2 rs2 q2 e2 k2 => ?_
  refine lf_then r2 rs2 e2 k2 fun ι3 H3 iv di h3 x3 r3 rs3 q3 e3 k3 => ?_
  obtain ⟨h4, e4, e5⟩ := Option.map_eq_some_iff.mp e3
  injection e5 with e6 e7
  subst e6 e7
  have qv := RV.up (x3.up r2) _ _ (RV.up (x2.up r1) _ _ q1)
  have qo := RV.up (x3.up r2) _ _ q2
  cases do' with
  | ref kk =>
    have e4 : (match h3[kk]? with | some (.tdc kvs) => if isTK di = true ∧ kvs.length < sizeLine then some (h3.set kk (.tdc (putKD kvs di dv))) else none | _ => none) = some h4 := e4
    cases q5 : h3[kk]? with
    | none => rw [q5] at e4; cases e4
    | some ob =>
      rw [q5] at e4
      cases ob with
      | tdc kvs =>
        have e4 : (if isTK di = true ∧ kvs.length < sizeLine then some (h3.set kk (.tdc (putKD kvs di dv))) else none) = some h4 := e4
        by_cases c : isTK di = true ∧ kvs.length < sizeLine
        · rw [if_pos c] at e4
          cases e4
          obtain ⟨ds, nk, ed, ek, dk⟩ := isTK_of c.1
          subst ed
          obtain ⟨p, xs, ep, hp, hy, q⟩ := at_tdc r3 qo q5
          have q0 := q3
          rw [RV] at q0
          obtain ⟨b, zs, eb, _, _⟩ := q0
          refine ⟨ι3, .tup ds, dv, nk, p, b, kvs, xs, q3, eb, ek, dk, qv, ep, hy, q, c.2, fun u ru => ?_⟩
          rw [eb] at q3
          obtain ⟨x4, r4⟩ := r3.put (u := .ext (TDx X.prog X.w p (storedH xs nk b u))) (o := .tdc (putKD kvs (.tup ds) dv)) hp hy trivial fun up => ⟨_, upd_same, TRs.up up _ _ (TRs.put ek dk q3 qv ru q)⟩
          exact k3 _ _ x4 r4 σ (rs3.up (x4.up r3))
        · rw [if_neg c] at e4; cases e4
      | _ => cases e4
  | _ => cases e4
end
end ML

set_option Elab.async false
set_option linter.all false
set_option maxRecDepth 100000
set_option autoImplicit false
namespace ML
open PySem L2
section
variable {X : Cx}
/-- {}, for keys that are numbers and texts -/
def newK : Sm → M D := fun _ h => some (.ref h.length, h ++ [.dic []])
theorem m_newK {pos : Pos} : PE X (.Dict [] [] pos) (lf (tx X) newK) := pe_dnewK.imp fun σ H Q q p hp => by
  obtain ⟨ι, σm, h, d, h1, r, rs, e, k⟩ := q
  obtain ⟨e1, e2⟩ := some_pair (show some (D.ref h.length, h ++ [O.dic []]) = some (d, h1) from e)
  subst e1 e2
  obtain ⟨xn, rn⟩ := r.new (u := .dK []) (o := .dic []) hp fun up => ⟨[], upd_same, rfl⟩
  refine k _ _ _ xn rn ?_
  rw [RV]
  exact ⟨_, new_at r _, rfl⟩
theorem g_more {e : Expr} {vs vs' : List Nat} {g : D → Sm → Option Sm} (h : PG X e (lfG (tx X) vs g)) (sub : ∀ j ∈ vs, j ∈ vs') : PG X e (lfG (tx X) vs' g) := h.imp fun v σ H Q q => by
  obtain ⟨ι, σm, h, d, σm1, r, rs, rv, e, k⟩ := q
  exact ⟨ι, σm, h, d, σm1, r, rs, rv, e, fun σ1 rs1 l1 o1 => k σ1 rs1 l1 fun j hj => o1 j fun z => hj (sub j z)⟩
variable {elt kx vx tg iter tg1 iter1 : Expr} {ifs ifs1 : List Expr} {scope : Scope} {own : List (Str × Nat)} {vs1 : List Nat} {pos spos py : Pos} {y : Str} {it it1 : Sm → M (List D × Src)} {g g1 : D → Sm → Option Sm} {tt tt1 : Sm → M Bool} {el mk mv : Sm → M D}
theorem s_setLc2 (i : Nat) (hc : X.calm = true) (hN : X.N.Nodup) (hy : X.N[i]? = some y) (hyl : X.env.scope.names.lookup y = some .local) (hsw : swapsWith (.ListComp elt [⟨tg, iter, ifs, 0⟩, ⟨tg1, iter1, ifs1, 0⟩] scope pos) (some (.Name y py)) spos.line X.env = pure true)
    (hi : PI X tg iter (lfI (tx X) it)) (ok : BlkOk X.N X.env.scope scope own) (hv : ∀ i ∈ vs1, i ∈ own.map (·.2))
    (hg : ∀ (s : Shared) (H : Hp) (C : Addr) (cl : List (Str × Addr)) (fp : List Addr), PG (X.blk s H scope (compEnvC scope cl C X.env) fp) tg (lfG (tx X) (own.map (·.2)) g))
    (ht : ∀ (s : Shared) (H : Hp) (C : Addr) (cl : List (Str × Addr)) (fp : List Addr), PTs (X.blk s H scope (compEnvC scope cl C X.env) fp) ifs (lfT (tx X) tt))
    (hi1 : ∀ (s : Shared) (H : Hp) (C : Addr) (cl : List (Str × Addr)) (fp : List Addr), PI (X.blk s H scope (compEnvC scope cl C X.env) fp) tg1 iter1 (lfI (tx X) it1))
    (hg1 : ∀ (s : Shared) (H : Hp) (C : Addr) (cl : List (Str × Addr)) (fp : List Addr), PG (X.blk s H scope (compEnvC scope cl C X.env) fp) tg1 (lfG (tx X) vs1 g1))
    (ht1 : ∀ (s : Shared) (H : Hp) (C : Addr) (cl : List (Str × Addr)) (fp : List Addr), PTs (X.blk s H scope (compEnvC scope cl C X.env) fp) ifs1 (lfT (tx X) tt1))
    (he : ∀ (s : Shared) (H : Hp) (C : Addr) (cl : List (Str × Addr)) (fp : List Addr), PE (X.blk s H scope (compEnvC scope cl C X.env) fp) elt (lf (tx X) el)) (hs : ∀ x, foldedSetIterable iter X.env x = pure x := by intro _; rfl) (hs1 : ∀ env x, foldedSetIterable iter1 env x = pure x := by intro _ _; rfl) :
    PS X (.Assign [.Name y py] (.ListComp elt [⟨tg, iter, ifs, 0⟩, ⟨tg1, iter1, ifs1, 0⟩] scope pos) spos) (lfS (tx X) (setS i (lc2M it g tt it1 g1 tt1 el (own.map (·.2)) vs1))) := (ps_setLc2 hc hN hy hyl hsw hi ok hv hg ht hi1 hg1 ht1 he hs hs1).imp fun D σ H q => lc2_rd (set_rd q)
/-- name = {..}: the dict is stored within the comprehension's frame -/
theorem ps_setD {wi : TI} {g : TG} {tt : TT} {tk tv : TE} (i : Nat) (hc : X.calm = true) (hN : X.N.Nodup) (hy : X.N[i]? = some y) (hyl : X.env.scope.names.lookup y = some .local) (hsw : swapsWith (.DictComp kx vx [⟨tg, iter, ifs, 0⟩] scope pos) (some (.Name y py)) spos.line X.env = pure true) (hi : PI X tg iter wi)
    (ok : BlkOk X.N X.env.scope scope own) (hg : ∀ (s : Shared) (H : Hp) (C : Addr) (cl : List (Str × Addr)) (fp : List Addr), PG (X.blk s H scope (compEnvC scope cl C X.env) fp) tg g)
    (ht : ∀ (s : Shared) (H : Hp) (C : Addr) (cl : List (Str × Addr)) (fp : List Addr), PTs (X.blk s H scope (compEnvC scope cl C X.env) fp) ifs tt) (hk : ∀ (s : Shared) (H : Hp) (C : Addr) (cl : List (Str × Addr)) (fp : List Addr), PE (X.blk s H scope (compEnvC scope cl C X.env) fp) kx tk)
    (hv : ∀ (s : Shared) (H : Hp) (C : Addr) (cl : List (Str × Addr)) (fp : List Addr), PE (X.blk s H scope (compEnvC scope cl C X.env) fp) vx tv) (hs : ∀ x, foldedSetIterable iter X.env x = pure x := by intro _; rfl) :
    PS X (.Assign [.Name y py] (.DictComp kx vx [⟨tg, iter, ifs, 0⟩] scope pos) spos) (tAsg (tDc wi g tt tk tv (own.map (·.2))) (gName i)) := by
  refine ⟨fun pins s σ H D I q => ?_⟩
  rw [exec_Assign_Name_used _ _ _ _ hsw]
  refine wpAny_bind (wpAny_standAt (wpAny_bind ?_))
  show wpAny _ X.A (comprehension (.DictComp kx vx [⟨tg, iter, ifs, 0⟩] scope pos) scope X.env (firstIterPos [⟨tg, iter, ifs, 0⟩] pos) newDict false (eval iter X.env) (some (assign (.Name y py) X.env)) >>= _) _ _ s
  have q' : tDc wi g tt tk tv (own.map (·.2)) σ H (fun x H1 => gName i x σ H1 D.nx) := q
  refine wpAny_bind (thn (dc_core (Qf := fun _ s' => SP X pins D .next s') hc hN I hi ok hg ht hk hv hs q' fun L C s' m H' J q2 hn f => ?_) fun _ s' hq => wpAny_pure (wpAny_pure hq))
  obtain ⟨f0, f1, f2, f3, f4, f5⟩ := f
  show wpAny _ _ (assign (.Name y py) X.env (.ref L)) _ _ _
  refine wpAny_assign_Name (store_ok2 (v := V.ref L) J hN hy (.inl hyl) rfl (fun s2 I2 ⟨a, sb, ha⟩ => ?_) (.inr hyl))
  have neC : C ≠ a := ha.elim (fun z => by rw [z]; exact f1) fun z e => f4 y a z e.symm
  exact ⟨m, hn.sameBut sb neC, fun h3 sb3 => ⟨_, H', I2.turned (t' := s2.toks) (fun b o hb e => (sb3.2 b hb).trans e) f0 f1 f3 f4 f5, q2⟩⟩
theorem s_setDc (i : Nat) (hc : X.calm = true) (hN : X.N.Nodup) (hy : X.N[i]? = some y) (hyl : X.env.scope.names.lookup y = some .local) (hsw : swapsWith (.DictComp kx vx [⟨tg, iter, ifs, 0⟩] scope pos) (some (.Name y py)) spos.line X.env = pure true) (hi : PI X tg iter (lfI (tx X) it)) (ok : BlkOk X.N X.env.scope scope own)
    (hg : ∀ (s : Shared) (H : Hp) (C : Addr) (cl : List (Str × Addr)) (fp : List Addr), PG (X.blk s H scope (compEnvC scope cl C X.env) fp) tg (lfG (tx X) (own.map (·.2)) g))
    (ht : ∀ (s : Shared) (H : Hp) (C : Addr) (cl : List (Str × Addr)) (fp : List Addr), PTs (X.blk s H scope (compEnvC scope cl C X.env) fp) ifs (lfT (tx X) tt))
    (hk : ∀ (s : Shared) (H : Hp) (C : Addr) (cl : List (Str × Addr)) (fp : List Addr), PE (X.blk s H scope (compEnvC scope cl C X.env) fp) kx (lf (tx X) mk))
    (he : ∀ (s : Shared) (H : Hp) (C : Addr) (cl : List (Str × Addr)) (fp : List Addr), PE (X.blk s H scope (compEnvC scope cl C X.env) fp) vx (lf (tx X) mv)) (hs : ∀ x, foldedSetIterable iter X.env x = pure x := by intro _; rfl) :
    PS X (.Assign [.Name y py] (.DictComp kx vx [⟨tg, iter, ifs, 0⟩] scope pos) spos) (lfS (tx X) (setS i (dcM it g tt mk mv (own.map (·.2))))) := (ps_setD i hc hN hy hyl hsw hi ok hg ht hk he hs).imp fun D σ H q => dc_rd (set_rd q)
theorem sw_D {gs : List Comprehension} {l : Nat} {env : Env} (kd : env.scope.kind = .function) (hy : env.scope.names.lookup y = some .local) (hl : (py.line == pos.line) = true) (ha : (scope.names.any fun (n, k) => n == y && (k == .local || k == .cell)) = false) :
    swapsWith (.DictComp kx vx gs scope pos) (some (.Name y py)) l env = pure true := by
  have k1 : env.kindOf y = some .local := hy
  have k2 : env.blockKind = .function := by rw [Env.blockKind, kd]; rfl
  unfold swapsWith
  simp only [k2, k1, ha, Expr.pos, hl]
  rfl
/-- a statement that is run while all dicts are locked -/
def lockS (b : Sm → M Fl) : Sm → M Fl := fun σ h => match b σ (h.map lockO) with
  | some (f, h1) => some (f, unlH h h1)
  | none => none
theorem endF_up {T : Tx} {ι ι2 : List Addr} {H H2 : Hp} {f : Fl} {D : Ends} (k : EndF T ι2 H2 D f) (u : Up T ι H ι2 H2) : match f with
    | .nx σm => ∀ σ, RS T ι H σm σ → D.nx σ H2
    | .rt d => ∀ v, RV T ι H d v → D.rt v H2
    | .bk σm => ∀ σ, RS T ι H σm σ → D.bk σ H2
    | .ct σm => ∀ σ, RS T ι H σm σ → D.ct σ H2 := by
  cases f with
  | nx σm => exact fun σ r => k σ (r.up u)
  | rt d => exact fun v r => k v (r.up u)
  | bk σm => exact fun σ r => k σ (r.up u)
  | ct σm => exact fun σ r => k σ (r.up u)
theorem s_lock {st : Stmt} {b : Sm → M Fl} (hs : PS X st (lfS (tx X) b)) : PS X st (lfS (tx X) (lockS b)) := by
  refine ⟨fun pins s σ H D I q => ?_⟩
  obtain ⟨ι, σm, h, f, h1, r, rs, e1, k⟩ := q
  unfold lockS at e1
  cases e2 : b σm (h.map lockO) with
  | none => rw [e2] at e1; cases e1
  | some p =>
    obtain ⟨fl, h2⟩ := p
    rw [e2] at e1
    obtain ⟨e3, e4⟩ := some_pair e1
    subst e3 e4
    obtain ⟨H', I', r', up, n1, n2, n3⟩ := lock_Rl I r
    have open_ : ∀ {s1 : Shared} {σ1 : St} {H1 : Hp} {ι1 : List Addr}, Inv X pins σ1 H1 s1 → Ex ι H' ι1 H1 → Rl (tx X) ι1 H1 h2 → ∃ H2, Inv X pins σ1 H2 s1 ∧ Up (tx X) ι1 H1 ι1 H2 ∧ EndF (tx X) ι1 H2 D fl := fun {s1 σ1 H1 ι1} I1 x r1 => by
      obtain ⟨H2, I2, r2, up2, m1, m2⟩ := unlock_Rl I r (by obtain ⟨t, et, _⟩ := x.pre; exact ⟨t, et⟩) I1 r1
      refine ⟨H2, I2, up2, k ι1 H2 ⟨?_, fun b o eb nb => ?_, fun b o u eb => ?_⟩ r2⟩
      · obtain ⟨t, et, nt⟩ := x.pre
        exact ⟨t, et, fun b mb => n3 b (nt b mb)⟩
      · rw [m1 b nb]
        exact x.fr b o (by rw [n1 b nb]; exact eb) nb
      · rw [m2 b o u eb]
        exact x.fz b o u (n2 b o u eb)
    refine thn (hs.run pins s σ H' ⟨fun σ1 H1 => ∃ ι1 σm1, fl = .nx σm1 ∧ Ex ι H' ι1 H1 ∧ Rl (tx X) ι1 H1 h2 ∧ RS (tx X) ι1 H1 σm1 σ1, fun v H1 => ∃ ι1 d, fl = .rt d ∧ Ex ι H' ι1 H1 ∧ Rl (tx X) ι1 H1 h2 ∧ RV (tx X) ι1 H1 d v,
      fun σ1 H1 => ∃ ι1 σm1, fl = .bk σm1 ∧ Ex ι H' ι1 H1 ∧ Rl (tx X) ι1 H1 h2 ∧ RS (tx X) ι1 H1 σm1 σ1, fun σ1 H1 => ∃ ι1 σm1, fl = .ct σm1 ∧ Ex ι H' ι1 H1 ∧ Rl (tx X) ι1 H1 h2 ∧ RS (tx X) ι1 H1 σm1 σ1⟩ I' ⟨ι, σm, h.map lockO, fl, h2, r', rs.up up, e2, fun ι1 H1 x r1 => ?_⟩) fun f2 s1 hf => ?_
    · cases fl with
      | nx σ1 => exact fun σ2 r2 => ⟨ι1, σ1, rfl, x, r1, r2⟩
      | rt d => exact fun v q => ⟨ι1, d, rfl, x, r1, q⟩
      | bk σ1 => exact fun σ2 r2 => ⟨ι1, σ1, rfl, x, r1, r2⟩
      | ct σ1 => exact fun σ2 r2 => ⟨ι1, σ1, rfl, x, r1, r2⟩
    · cases f2 with
      | next =>
        obtain ⟨σ1, H1, I1, ι1, σm1, ef, x, r1, rs1⟩ := hf
        obtain ⟨H2, I2, u2, kk⟩ := open_ I1 x r1
        subst ef
        exact ⟨σ1, H2, I2, kk σ1 (rs1.up u2)⟩
      | brk =>
        obtain ⟨σ1, H1, I1, ι1, σm1, ef, x, r1, rs1⟩ := hf
        obtain ⟨H2, I2, u2, kk⟩ := open_ I1 x r1
        subst ef
        exact ⟨σ1, H2, I2, kk σ1 (rs1.up u2)⟩
      | cont =>
        obtain ⟨σ1, H1, I1, ι1, σm1, ef, x, r1, rs1⟩ := hf
        obtain ⟨H2, I2, u2, kk⟩ := open_ I1 x r1
        subst ef
        exact ⟨σ1, H2, I2, kk σ1 (rs1.up u2)⟩
      | ret v =>
        obtain ⟨v', σ1, H1, I1, rv, ι1, d, ef, x, r1, q1⟩ := hf
        obtain ⟨H2, I2, u2, kk⟩ := open_ I1 x r1
        subst ef
        exact ⟨v', σ1, H2, I2, rv, kk v' (q1.up u2 _ _)⟩
/-- any(xs), all(xs), a list of ours -/
def anyD : List D → M D := fun ds h => match ds with
  | [.ref k] => (match h[k]? with
    | some (.lst xs) => (blsD xs).map fun bs => (.bl (bs.any id), h)
    | _ => none)
  | _ => none
def allD : List D → M D := fun ds h => match ds with
  | [.ref k] => (match h[k]? with
    | some (.lst xs) => (blsD xs).map fun bs => (.bl (bs.all id), h)
    | _ => none)
  | _ => none
theorem bl_at {ι : List Addr} {H : Hp} {h : Hm} {xs : List V} {k : Nat} {ys : List D} {bs : List Bool} (r : Rl (tx X) ι H h) (q : RVs (tx X) ι H [.ref k] xs) (e : h[k]? = some (.lst ys)) (eb : blsD ys = some bs) : ∃ a, xs = [.ref a] ∧ SqL X.K H a (bs.map V.bl) := by
  obtain ⟨x, ex, qx⟩ := RVs1 q
  obtain ⟨a, zs, ea, _, hz, qz⟩ := at_lst r qx e
  exact ⟨a, by rw [ex, ea], SqL.of (by rw [hz, bls_of eb qz])⟩
theorem cm_any : CallM (tx X) (rAny X.K) anyD := by
  intro ι H h xs ds d h1 Q r q e k
  unfold anyD at e
  split at e
  · rename_i kk
    cases q2 : h[kk]? with
    | none => rw [q2] at e; cases e
    | some ob =>
      rw [q2] at e
      cases ob with
      | lst ys =>
        obtain ⟨bs, eb, e2⟩ := Option.map_eq_some_iff.mp (show (blsD ys).map (fun bs => (D.bl (bs.any id), h)) = some (d, h1) from e)
        injection e2 with e3 e4
        subst e3 e4
        obtain ⟨a, ex, sq⟩ := bl_at r q q2 eb
        exact ⟨a, bs, ex, sq, k _ _ _ (Ex.refl _ _) r (by rw [RV])⟩
      | _ => cases e
  · cases e
theorem cm_all : CallM (tx X) (rAll X.K) allD := by
  intro ι H h xs ds d h1 Q r q e k
  unfold allD at e
  split at e
  · rename_i kk
    cases q2 : h[kk]? with
    | none => rw [q2] at e; cases e
    | some ob =>
      rw [q2] at e
      cases ob with
      | lst ys =>
        obtain ⟨bs, eb, e2⟩ := Option.map_eq_some_iff.mp (show (blsD ys).map (fun bs => (D.bl (bs.all id), h)) = some (d, h1) from e)
        injection e2 with e3 e4
        subst e3 e4
        obtain ⟨a, ex, sq⟩ := bl_at r q q2 eb
        exact ⟨a, bs, ex, sq, k _ _ _ (Ex.refl _ _) r (by rw [RV])⟩
      | _ => cases e
  · cases e
end
end ML

set_option Elab.async false
set_option linter.all false
set_option maxRecDepth 100000
set_option autoImplicit false
/-! ### {k: v for .. for ..} -/
namespace ML
open PySem PySem.Spec PyProof.Rows L2
abbrev D2 (kx vx ta ia : Expr) (fa : List Expr) (tb ib : Expr) (fb : List Expr) (sc : Scope) (ps : Pos) : Expr := .DictComp kx vx [⟨ta, ia, fa, 0⟩, ⟨tb, ib, fb, 0⟩] sc ps
section
variable {kx vx ta ia tb ib : Expr} {fa fb : List Expr} {sc : Scope} {ps : Pos} {it acc : Value} {env : Env} {Dn : Addr}
theorem turn_a : compTurn (D2 kx vx ta ia fa tb ib fb sc ps) 0 it acc env = (do
    standAt ia.pos
    match ← pyNext it with
    | none => pure (.done .next)
    | some u =>
      letOwnedTupleGo ta it u
      assign ta env u
      let mut good := true
      for c in fa do
        if good then good ← isTrue c env (eval c env)
      if good then
        let x ← eval ib env
        standAt ib.pos
        let x ← foldedSetIterable ib env x
        let _ ← runOwn (.compStart (D2 kx vx ta ia fa tb ib fb sc ps) 1 (← holding [x] (pyIter x)) acc env) env
      again (.compLoop (D2 kx vx ta ia fa tb ib fb sc ps) 0 it acc env)) := by rfl
theorem turn_b : compTurn (D2 kx vx ta ia fa tb ib fb sc ps) 1 it (.ref Dn) env = (do
    standAt ib.pos
    match ← pyNext it with
    | none => pure (.done .next)
    | some u =>
      letOwnedTupleGo tb it u
      assign tb env u
      let mut good := true
      for c in fb do
        if good then good ← isTrue c env (eval c env)
      if good then
        (do
          let ku ← eval kx env
          let vu ← holding [ku] (eval vx env)
          standAt { kx.pos with endLine := vx.pos.endLine, endCol := vx.pos.endCol }
          holding [ku, vu] (dictSet Dn ku vu))
      again (.compLoop (D2 kx vx ta ia fa tb ib fb sc ps) 1 it (.ref Dn) env)) := by rfl
variable {prog : Program} {w : World} {A : Around} {R : Result → Shared → Prop} {s : Shared}
/-- what an iterable's turn leaves: the store, the tests, then k -/
def StepD (prog : Program) (w : World) (A : Around) (R : Result → Shared → Prop) (env : Env) (tg : Expr) (ifs : List Expr) (it : Value) (stop : Shared → Prop) (yes no : Shared → Prop) (s : Shared) : Prop :=
  wpAny (model prog w) A (pyNext it) (fun r s1 => match r with
    | none => stop s1
    | some u => wpAny (model prog w) A (letOwnedTupleGo tg it u) (fun _ s2 => wpAny (model prog w) A (assign tg env u) (fun _ s3 =>
        wpAny (model prog w) A (forIn ifs true fun c r => if r = true then do let good ← isTrue c env (eval c env); pure (ForInStep.yield good) else pure (ForInStep.yield r)) (fun good s4 => if good = true then yes s4 else no s4)
          (notedBy (model prog w) A env fun e s' => R (.error e) s') s3) (notedBy (model prog w) A env fun e s' => R (.error e) s') s2) (notedBy (model prog w) A env fun e s' => R (.error e) s') s1) (notedBy (model prog w) A env fun e s' => R (.error e) s') s
theorem loop_a (plain : ∀ x, foldedSetIterable ib env x = pure x) (J : Nat → Shared → Prop)
    (turn : ∀ n s, J n s → StepD prog w A R env ta fa it (R (.ok .next)) (fun s4 => wpAny (model prog w) A (eval ib env) (fun x s5 => wpAny (model prog w) A (pyIter x) (fun it1 s6 =>
        codeAny (model prog w) A (.compStart (D2 kx vx ta ia fa tb ib fb sc ps) 1 it1 acc env) (fun r s' => match r with
          | .ok _ => ∃ m, m < n ∧ J m s'
          | .error _ => False) s6) (notedBy (model prog w) A env fun e s' => R (.error e) s') s5) (notedBy (model prog w) A env fun e s' => R (.error e) s') s4) (fun s4 => ∃ m, m < n ∧ J m s4) s)
    (n : Nat) (h : J n s) : codeAny (model prog w) A (.compLoop (D2 kx vx ta ia fa tb ib fb sc ps) 0 it acc env) R s := by
  refine codeAny_loop rfl J (fun n s hI => ?_) n h
  show wpAny _ A ((compTurn (D2 kx vx ta ia fa tb ib fb sc ps) 0 it acc env).onRaise (fun x => do noteFrame x env; theTreesLotGoes x)) _ _ s
  refine wpAny_noted ?_
  rw [turn_a]
  refine wpAny_bind (wpAny_standAt (wpAny_bind (wpAny_mono (turn n s hI) (fun r s1 h1 => ?_) fun _ _ z => z)))
  cases r with
  | none => exact wpAny_pure h1
  | some u =>
    refine wpAny_bind (wpAny_mono h1 (fun _ s2 h2 => wpAny_bind (wpAny_mono h2 (fun _ s3 h3 => wpAny_bind (wpAny_mono h3 (fun good s4 h4 => ?_) fun _ _ z => z)) fun _ _ z => z)) fun _ _ z => z)
    cases good with
    | false => exact wpAny_pure ⟨rfl, h4⟩
    | true =>
      refine wpAny_bind (wpAny_mono h4 (fun x s5 h5 => wpAny_bind (wpAny_standAt (wpAny_bind (wpAny_of_eq (plain x) (wpAny_bind (wpAny_holding (wpAny_mono h5 (fun it1 s6 h6 => wpAny_bind (wpAny_runOwn ?_)) fun _ _ z => z))))))) fun _ _ z => z)
      rw [Around.mark_none]
      refine codeAny_mono h6 fun r s' hr => ?_
      cases r with
      | error e => exact hr.elim
      | ok f =>
        first
          | exact wpAny_bind (wpAny_pure (wpAny_pure ⟨rfl, hr⟩))
          | exact wpAny_pure ⟨rfl, hr⟩
theorem loop_b (J : Nat → Shared → Prop)
    (turn : ∀ n s, J n s → StepD prog w A R env tb fb it (R (.ok .next)) (fun s4 => wpAny (model prog w) A (eval kx env) (fun ku s5 => wpAny (model prog w) A (eval vx env) (fun vu s6 => wpAny (model prog w) A (dictSet Dn ku vu) (fun _ s7 => ∃ m, m < n ∧ J m s7)
        (notedBy (model prog w) A env fun e s' => R (.error e) s') s6) (notedBy (model prog w) A env fun e s' => R (.error e) s') s5) (notedBy (model prog w) A env fun e s' => R (.error e) s') s4) (fun s4 => ∃ m, m < n ∧ J m s4) s)
    (n : Nat) (h : J n s) : codeAny (model prog w) A (.compLoop (D2 kx vx ta ia fa tb ib fb sc ps) 1 it (.ref Dn) env) R s := by
  refine codeAny_loop rfl J (fun n s hI => ?_) n h
  show wpAny _ A ((compTurn (D2 kx vx ta ia fa tb ib fb sc ps) 1 it (.ref Dn) env).onRaise (fun x => do noteFrame x env; theTreesLotGoes x)) _ _ s
  refine wpAny_noted ?_
  rw [turn_b]
  refine wpAny_bind (wpAny_standAt (wpAny_bind (wpAny_mono (turn n s hI) (fun r s1 h1 => ?_) fun _ _ z => z)))
  cases r with
  | none => exact wpAny_pure h1
  | some u =>
    refine wpAny_bind (wpAny_mono h1 (fun _ s2 h2 => wpAny_bind (wpAny_mono h2 (fun _ s3 h3 => wpAny_bind (wpAny_mono h3 (fun good s4 h4 => ?_) fun _ _ z => z)) fun _ _ z => z)) fun _ _ z => z)
    cases good with
    | false => exact wpAny_pure ⟨rfl, h4⟩
    | true => exact wpAny_bind (wpAny_bind (wpAny_mono h4 (fun ku s5 h5 => wpAny_bind (wpAny_holding (wpAny_mono h5 (fun vu s6 h6 => wpAny_bind (wpAny_standAt (wpAny_holding (wpAny_mono h6 (fun _ s7 h7 => wpAny_pure ⟨rfl, h7⟩) fun _ _ z => z)))) fun _ _ z => z))) fun _ _ z => z))
theorem start_b (h0 : codeAny (model prog w) A (.compLoop (D2 kx vx ta ia fa tb ib fb sc ps) 1 it acc env) R s)
    (h : wpAny (model prog w) A (pyIter it) (fun it' s' => codeAny (model prog w) A (.compLoop (D2 kx vx ta ia fa tb ib fb sc ps) 1 it' acc env) R s') (notedBy (model prog w) A env fun x s' => R (.error x) s') s) :
    codeAny (model prog w) A (.compStart (D2 kx vx ta ia fa tb ib fb sc ps) 1 it acc env) R s := by
  refine codeAny_of_tree ?_
  show wpAny _ _ ((compStart (D2 kx vx ta ia fa tb ib fb sc ps) 1 it acc env).onRaise (fun x => do noteFrame x env; standAt theWindowsPlace)) _ _ s
  refine wpAny_notedAt ?_
  unfold compStart
  show wpAny _ _ (ask >>= _) _ _ s
  refine wpAny_bind (wpAny_askSetting (wpAny_ite ?_))
  split
  · first
      | exact wpAny_bind (wpAny_pure (wpAny_pure ⟨rfl, h0⟩))
      | exact wpAny_pure ⟨rfl, h0⟩
  · first
      | exact wpAny_bind (wpAny_rule (wpAny_bind (wpAny_standAt (wpAny_bind (wpAny_mono h (fun it' s' q => wpAny_pure ⟨rfl, q⟩) fun _ _ z => z)))))
      | (refine wpAny_bind (wpAny_rule ?_); show wpAny _ _ (standAt ib.pos >>= _) _ _ s; exact wpAny_bind (wpAny_standAt (wpAny_bind (wpAny_mono h (fun it' s' q => wpAny_pure ⟨rfl, q⟩) fun _ _ z => z))))
end
end ML

set_option Elab.async false
set_option linter.all false
set_option maxRecDepth 100000
set_option autoImplicit false
namespace ML
open PySem PySem.Spec PyProof.Rows L2
/-- {k: v for tg in iter if .. for tg1 in iter1 if ..} -/
def tDc2 (wi : TI) (g : TG) (tt : TT) (wi1 : TI) (g1 : TG) (tt1 : TT) (tk tv : TE) (vs vs1 : List Nat) : TE := fun σ H Q => wi σ H fun J H1 => ∀ Dn, H1 Dn = none → ∃ W : Nat → Nat → Hp → Prop, (∃ m, W 0 m (upd H1 Dn (.dK []))) ∧ ∀ i m H, W i m H →
  (J.stop i H ∧ Q (.ref Dn) H) ∨ (J.go i H ∧ ∃ Nx : Hp → Prop, (∀ H', Nx H' → ∃ m', m' < m ∧ W (i + 1) m' H') ∧ ∀ x H', J.yld i H x H' → g x (wipe σ vs) H' fun σ2 H2 => wipe σ2 vs = wipe σ vs ∧ tt σ2 H2 fun b H3 => if b = true then
    wi1 σ2 H3 fun J1 H4 => ∃ W1 : Nat → Nat → Hp → Prop, (∃ m, W1 0 m H4) ∧ ∀ j k H, W1 j k H → (J1.stop j H ∧ Nx H) ∨ (J1.go j H ∧ ∃ Nx1 : Hp → Prop, (∀ H', Nx1 H' → ∃ k', k' < k ∧ W1 (j + 1) k' H') ∧ ∀ x H', J1.yld j H x H' → g1 x (wipe σ2 vs1) H' fun σ3 H5 =>
      wipe σ3 vs1 = wipe σ2 vs1 ∧ tt1 σ3 H5 fun b H6 => if b = true then tk σ3 H6 fun y H7 => tv σ3 H7 fun z H8 => ∃ kvs k, y = kV k ∧ H8 Dn = some (.dK kvs) ∧ kvs.length < sizeLine ∧ Nx1 (upd H8 Dn (.dK (putK kvs k z))) else Nx1 H6) else Nx H3)
abbrev InBlk (X : Cx) (sc : Scope) (p : Cx → Prop) : Prop := ∀ (s : Shared) (H : Hp) (C : Addr) (cl : List (Str × Addr)) (fp : List Addr), p (X.blk s H sc (compEnvC sc cl C X.env) fp)
variable {X : Cx}
theorem d2_core {pins : List (Addr × Obj)} {s : Shared} {σ : L2.St} {H : Hp} {Q : VK} {kx vx ta ia tb ib : Expr} {fa fb : List Expr} {sc : Scope} {own : List (Str × Nat)} {vs1 : List Nat} {ps ps' : Pos} {wi wi1 : TI} {g g1 : TG} {tt tt1 : TT} {tk tv : TE} {use : Option (Value → Sem Unit)} {Qf : Value → Shared → Prop}
    (hc : X.calm = true) (hN : X.N.Nodup) (I : L2.Inv X pins σ H s) (hi : PI X ta ia wi) (ok : BlkOk X.N X.env.scope sc own) (sub : ∀ i ∈ vs1, i ∈ own.map (·.2)) (hg : InBlk X sc fun Y => PG Y ta g) (ht : InBlk X sc fun Y => PTs Y fa tt) (hi1 : InBlk X sc fun Y => PI Y tb ib wi1) (hg1 : InBlk X sc fun Y => PG Y tb g1)
    (ht1 : InBlk X sc fun Y => PTs Y fb tt1) (hk : InBlk X sc fun Y => PE Y kx tk) (he : InBlk X sc fun Y => PE Y vx tv) (hs : ∀ x, foldedSetIterable ia X.env x = pure x) (hs1 : ∀ env x, foldedSetIterable ib env x = pure x) (q0 : tDc2 wi g tt wi1 g1 tt1 tk tv (own.map (·.2)) vs1 σ H Q)
    (out : ∀ Dn C s' m H', L2.Inv X pins σ H' s' → Q (.ref Dn) H' → s'.heap.Ns C m → FpOk X pins H' C → compPost (model X.prog X.w) X.A X.xe use Qf (.ref Dn) C (.ok .next) s') :
    wpAny (model X.prog X.w) X.A (comprehension (D2 kx vx ta ia fa tb ib fb sc ps) sc X.env ps' newDict false (eval ia X.env) use) Qf X.xe s := by
  have caps : ∀ y ∈ sc.names, y.2 = .free → ∃ c, X.env.cells.lookup y.1 = some c := fun y hy e => (ok.free y hy e).elim (fun k => I.ok.has _ (.inl k)) fun k => I.ok.has _ (.inr k)
  refine wpAny_comprehension_free (use := use) rfl hs (closure_ok caps) ok.kind (fun y hy e => by rw [ok.uniq y hy, e]) (thn (hi.run pins s σ H _ I q0) fun xv sa hx => thn hx fun itv sb hb => ?_)
  obtain ⟨it, fp, tn, J, Hb, e, Ib, T, stb, fpb, q⟩ := hb
  subst e
  refine wpAny_newObj_type (newEnv_comp ?_)
  generalize eD : sb.heap.objs.size = Dn
  have freeD : Hb Dn = none := Ib.hok.fresh (Nat.le_of_eq eD)
  obtain ⟨W, ⟨m0, w0⟩, turn⟩ := q Dn freeD
  generalize es3 : ({ sb with heap := sb.heap.push { cls := .type "dict", data := .dict #[] } } : Shared) = s3
  have hp3 : s3.heap = sb.heap.push { cls := .type "dict", data := .dict #[] } := by rw [← es3]
  have I3 : L2.Inv X pins σ (upd Hb Dn (.dK [])) s3 := by
    rw [← es3]
    exact Ib.laid (t' := sb.toks) (fun b o e => Heap.get?_push_of_some _ e) (Nat.le_of_eq eD) (by rw [← eD]; exact dk_empty sb.heap Ib.big)
  have small : ∀ b ∈ fp, b < sb.heap.objs.size := fun b hb => let ⟨o, e, _⟩ := T.obj _ _ stb b hb; Heap.lt_size e
  have fp3 : ∀ b ∈ fp, FpOk X pins (upd Hb Dn (.dK [])) b ∧ b < s3.heap.objs.size := fun b hb =>
    ⟨⟨by rw [upd_ne (by rw [← eD]; exact Nat.ne_of_lt (small b hb))]; exact (fpb b hb).1, (fpb b hb).2⟩, by rw [hp3, Heap.size_push]; exact Nat.lt_succ_of_lt (small b hb)⟩
  have st3 : tn 0 s3.heap := T.keep _ _ _ stb fun b _ o e => by rw [hp3]; exact Heap.get?_push_of_some _ e
  have I4 := block_start I3 ok hN fp3
  have at_ : ∀ {p : Cx → Prop}, InBlk X sc p → p (X.blk s3 (upd Hb Dn (.dK [])) sc (compEnvC sc (cellsFrom (s3.heap.objs.size + 1) sc.names (cloFrom X.env.cells sc.names [])) s3.heap.objs.size X.env) fp) := fun h => h _ _ _ _ _
  have pg := at_ hg
  have pt := at_ ht
  have pi1 := at_ hi1
  have pg1 := at_ hg1
  have pt1 := at_ ht1
  have pk := at_ hk
  have pv := at_ he
  show codeAny _ _ (.compStart (D2 kx vx ta ia fa tb ib fb sc ps) 0 (.ref it) (.ref Dn) (compEnvC sc (cellsFrom (s3.heap.objs.size + 1) sc.names (cloFrom X.env.cells sc.names [])) s3.heap.objs.size X.env)) (compPost (model X.prog X.w) X.A X.xe use Qf (.ref Dn) s3.heap.objs.size) { s3 with heap := pushCells (s3.heap.push { cls := .type "dict", data := .dict #[] }) sc.names }
  have none3 : ∀ b ∈ fp, (upd Hb Dn (.dK [])) b = none := fun b hb => (fp3 b hb).1.1
  clear at_
  generalize ece : compEnvC sc (cellsFrom (s3.heap.objs.size + 1) sc.names (cloFrom X.env.cells sc.names [])) s3.heap.objs.size X.env = ce at I4 pg pt pk pv pi1 pg1 pt1 ⊢
  have locC : ce.locals = s3.heap.objs.size := by subst ece; rfl
  generalize eH3 : upd Hb Dn (.dK []) = H3 at I3 I4 pg pt pk pv pi1 pg1 pt1 w0 none3 fp3
  generalize es4 : ({ s3 with heap := pushCells (s3.heap.push { cls := .type "dict", data := .dict #[] }) sc.names } : Shared) = s4 at I4 ⊢
  have st4 : tn 0 s4.heap := T.keep _ _ _ st3 fun b _ o e => by rw [← es4]; exact pushCells_keeps _ _ _ _ (Heap.get?_push_of_some _ e)
  have fpY : ∀ {σ' : L2.St} {H' : Hp} {s' : Shared}, L2.Inv (X.blk s3 H3 sc ce fp) [] σ' H' s' → (∀ b ∈ fp, H' b = none) → ∀ b ∈ fp, FpOk (X.blk s3 H3 sc ce fp) [] H' b := fun {σ' H' s'} J' hn b hb =>
    ⟨hn b hb, (J'.ok.exf b hb).1, J'.ok.exfs b hb, .inl hb, fun x c e => (J'.ok.exf b hb).2 x c e, fun p hp => absurd (show p ∈ ([] : List (Addr × Obj)) ++ [] from hp) (by simp)⟩
  have loop : codeAny (model X.prog X.w) X.A (.compLoop (D2 kx vx ta ia fa tb ib fb sc ps) 0 (.ref it) (.ref Dn) ce) (compPost (model X.prog X.w) X.A X.xe use Qf (.ref Dn) s3.heap.objs.size) s4 := by
    refine loop_a (hs1 ce) (fun n s' => ∃ i H', L2.Inv (X.blk s3 H3 sc ce fp) [] (wipe σ (own.map (·.2))) H' s' ∧ tn i s'.heap ∧ (∀ b ∈ fp, H' b = none) ∧ W i n H') ?_ m0 ⟨0, H3, I4, st4, none3, w0⟩
    rintro n s5 ⟨i, H5, I5, st5, n5, w5⟩
    unfold StepD
    rcases turn i n H5 w5 with ⟨stop, qq⟩ | ⟨go, Nx, hNx, step⟩
    · refine thnF (T.done (X.blk s3 H3 sc ce fp) rfl rfl rfl hc i [] s5 _ H5 (fun _ _ => False) I5 (fpY I5 n5) st5 stop) fun r s6 ⟨hr, I6⟩ => ?_
      subst hr
      have I7 : L2.Inv X pins σ H5 s6 := I3.call' (ch := fp) I6.os I6.base I6.hok I6.bare fun b hb => ⟨(fp3 b hb).1.2.2.2.1, (fp3 b hb).1.2.1, (fp3 b hb).1.2.2.2.2.1, (fp3 b hb).1.2.2.2.2.2⟩
      have freeC : H5 s3.heap.objs.size = none := by rw [← locC]; exact I6.free
      obtain ⟨m, hn, _⟩ := I6.loc
      have hn : s6.heap.Ns s3.heap.objs.size m := by rw [← locC]; exact hn
      exact out Dn s3.heap.objs.size s6 m H5 I7 qq hn (I3.fpOk (Nat.le_refl _) freeC)
    · refine thnF (T.item (X.blk s3 H3 sc ce fp) rfl rfl rfl hc i [] s5 _ H5 (fun _ _ => False) I5 (fpY I5 n5) st5 go) fun r s6 ⟨u, hr, h6⟩ => ?_
      subst hr
      refine thnF h6 fun _ s7 ⟨x, H7, I7, r7, y7, st7, n7⟩ => ?_
      have I7' := I7.pinned (fpY I7 n7) (T.obj _ _ st7)
      refine thnF (pg.run _ s7 _ H7 x u _ I7' r7 (step x H7 y7)) fun _ s8 ⟨σ8, H8, I8, hw8, q8⟩ => thnF (pt.run _ s8 σ8 H8 _ I8 q8) fun b s9 ⟨H9, I9, q9⟩ => ?_
      have done1 : ∀ {σ9 : L2.St} {s' : Shared} {H' : Hp}, L2.Inv (X.blk s3 H3 sc ce fp) ([] ++ pinsAt fp s7.heap) σ9 H' s' → (wipe σ (own.map (·.2))).length = σ9.length → (∀ (j : Nat) v, (wipe σ (own.map (·.2)))[j]? = some (some v) → σ9[j]? = some (some v)) → Nx H' →
          ∃ m, m < n ∧ ∃ i H', L2.Inv (X.blk s3 H3 sc ce fp) [] (wipe σ (own.map (·.2))) H' s' ∧ tn i s'.heap ∧ (∀ b ∈ fp, H' b = none) ∧ W i m H' := fun {σ9 s' H'} J' hl kn nx => by
        obtain ⟨m', hm, w'⟩ := hNx H' nx
        have held : ∀ b ∈ fp, ∀ o, s7.heap.get? b = some o → s'.heap.get? b = some o ∧ H' b = none := fun b hb o e => by
          obtain ⟨z1, z2, _⟩ := J'.pin (b, o) (List.mem_append_right _ (List.mem_append_right _ (mem_pinsAt hb e)))
          exact ⟨z1, z2⟩
        exact ⟨m', hm, i + 1, H', (J'.unpinned (pins := [])).weak hl kn, T.keep _ _ _ st7 fun b hb o e => (held b hb o e).1, fun b hb => let ⟨o, e, _⟩ := T.obj _ _ st7 b hb; (held b hb o e).2, w'⟩
      have len8 : (wipe σ (own.map (·.2))).length = σ8.length := by rw [← hw8, wipe_length]
      have kn8 : ∀ (j : Nat) v, (wipe σ (own.map (·.2)))[j]? = some (some v) → σ8[j]? = some (some v) ∧ j ∉ vs1 := fun j v e => by
        rw [← hw8] at e
        exact ⟨(wipe_some e).1, fun z => (wipe_some e).2 (sub j z)⟩
      cases b with
      | false =>
        refine iteF ?_
        exact done1 I9 len8 (fun j v e => (kn8 j v e).1) q9
      | true =>
        refine iteT ?_
        refine thnF (pi1.run _ s9 σ8 H9 _ I9 q9) fun xv s10 hx => thnF hx fun itv s11 h11 => ?_
        obtain ⟨it1, fp1, tn1, J1, H11, e1, I11, T1, st11, f11, W1, ⟨m1, w1⟩, turn1⟩ := h11
        subst e1
        have fpZ : ∀ {H' : Hp}, (∀ b ∈ fp1, H' b = none) → ∀ b ∈ fp1, FpOk (X.blk s3 H3 sc ce fp) ([] ++ pinsAt fp s7.heap) H' b := fun hn b hb => ⟨hn b hb, (f11 b hb).2⟩
        have inner : codeAny (model X.prog X.w) X.A (.compLoop (D2 kx vx ta ia fa tb ib fb sc ps) 1 (.ref it1) (.ref Dn) ce) (fun r s' => match r with
            | .ok _ => ∃ m, m < n ∧ ∃ i H', L2.Inv (X.blk s3 H3 sc ce fp) [] (wipe σ (own.map (·.2))) H' s' ∧ tn i s'.heap ∧ (∀ b ∈ fp, H' b = none) ∧ W i m H'
            | .error _ => False) s11 := by
          refine loop_b (fun k s' => ∃ j H', L2.Inv (X.blk s3 H3 sc ce fp) ([] ++ pinsAt fp s7.heap) (wipe σ8 vs1) H' s' ∧ tn1 j s'.heap ∧ (∀ b ∈ fp1, H' b = none) ∧ W1 j k H') ?_ m1 ⟨0, H11, I11.weak (wipe_length _ _) (fun j v e => (wipe_some e).1), st11, fun b hb => (f11 b hb).1, w1⟩
          rintro k s12 ⟨j, H12, I12, st12, n12, w12⟩
          unfold StepD
          rcases turn1 j k H12 w12 with ⟨stop1, nx1⟩ | ⟨go1, Nx1, hNx1, step1⟩
          · refine thnF (T1.done (X.blk s3 H3 sc ce fp) rfl rfl rfl hc j _ s12 (wipe σ8 vs1) H12 (fun _ _ => False) I12 (fpZ n12) st12 stop1) fun r s13 ⟨hr, I13⟩ => ?_
            subst hr
            exact done1 I13 (len8.trans (wipe_length σ8 vs1).symm) (fun j v e => by rw [wipe_out (kn8 j v e).2]; exact (kn8 j v e).1) nx1
          · refine thnF (T1.item (X.blk s3 H3 sc ce fp) rfl rfl rfl hc j _ s12 (wipe σ8 vs1) H12 (fun _ _ => False) I12 (fpZ n12) st12 go1) fun r s13 ⟨u1, hr, h13⟩ => ?_
            subst hr
            refine thnF h13 fun _ s14 ⟨x1, H14, I14, r14, y14, st14, n14⟩ => ?_
            have I14' := I14.pinned (fpZ n14) (T1.obj _ _ st14)
            refine thnF (pg1.run _ s14 (wipe σ8 vs1) H14 x1 u1 _ I14' r14 (step1 x1 H14 y14)) fun _ s15 ⟨σ15, H15, I15, hw15, q15⟩ => thnF (pt1.run _ s15 σ15 H15 _ I15 q15) fun b1 s16 ⟨H16, I16, q16⟩ => ?_
            have done2 : ∀ {s' : Shared} {H' : Hp}, L2.Inv (X.blk s3 H3 sc ce fp) (([] ++ pinsAt fp s7.heap) ++ pinsAt fp1 s14.heap) σ15 H' s' → Nx1 H' → ∃ m, m < k ∧ ∃ j H', L2.Inv (X.blk s3 H3 sc ce fp) ([] ++ pinsAt fp s7.heap) (wipe σ8 vs1) H' s' ∧ tn1 j s'.heap ∧ (∀ b ∈ fp1, H' b = none) ∧ W1 j m H' := fun {s' H'} J' nx => by
              obtain ⟨m', hm, w'⟩ := hNx1 H' nx
              have held : ∀ b ∈ fp1, ∀ o, s14.heap.get? b = some o → s'.heap.get? b = some o ∧ H' b = none := fun b hb o e => by
                obtain ⟨z1, z2, _⟩ := J'.pin (b, o) (List.mem_append_right _ (List.mem_append_right _ (mem_pinsAt hb e)))
                exact ⟨z1, z2⟩
              exact ⟨m', hm, j + 1, H', J'.unpinned.weak (by rw [← hw15, wipe_length]) (fun j v e => by rw [← hw15] at e; exact (wipe_some e).1), T1.keep _ _ _ st14 fun b hb o e => (held b hb o e).1, fun b hb => let ⟨o, e, _⟩ := T1.obj _ _ st14 b hb; (held b hb o e).2, w'⟩
            cases b1 with
            | false =>
              refine iteF ?_
              exact done2 I16 q16
            | true =>
              refine iteT ?_
              refine thnF (pk.run _ s16 σ15 H16 _ I16 q16) fun ku s17 ⟨yk, H17, I17, r17, q17⟩ => thnF (pv.run _ s17 σ15 H17 _ I17 q17) fun vu s18 ⟨yv, H18, I18, r18, kvs, key, ek, hD, hz, nx⟩ => ?_
              subst ek
              exact d_dictSet (X := X.blk s3 H3 sc ce fp) I18 hD hz r17 r18 fun s19 I19 => done2 I19 nx
        exact start_b inner (T1.self X.A 0 _ _ _ st11 inner)
  exact codeAny_compStart_dict loop (T.self X.A 0 _ _ _ st4 loop)
end ML

set_option Elab.async false
set_option linter.all false
set_option maxRecDepth 100000
set_option autoImplicit false
namespace ML
open PySem L2
noncomputable def dc2M (it : Sm → M (List D × Src)) (g : D → Sm → Option Sm) (tt : Sm → M Bool) (it1 : Sm → M (List D × Src)) (g1 : D → Sm → Option Sm) (tt1 : Sm → M Bool) (mk mv : Sm → M D) (vs vs1 : List Nat) : Sm → M D := cpM (.dic []) it g tt vs fun k => body2 it1 g1 tt1 vs1 (putB k mk mv)
theorem dc2_rd {T : Tx} {it it1 : Sm → M (List D × Src)} {g g1 : D → Sm → Option Sm} {tt tt1 : Sm → M Bool} {mk mv : Sm → M D} {vs vs1 : List Nat} {σ : St} {H : Hp} {Q : VK} (q : lf T (dc2M it g tt it1 g1 tt1 mk mv vs vs1) σ H Q) :
    tDc2 (lfI T it) (lfG T vs g) (lfT T tt) (lfI T it1) (lfG T vs1 g1) (lfT T tt1) (lf T mk) (lf T mv) vs vs1 σ H Q := by
  refine cp_start (o := .dic []) (u := .dK []) (TB := fun Dn σ2 H3 Nx => lfI T it1 σ2 H3 fun J1 H4 => ∃ W1 : Nat → Nat → Hp → Prop, (∃ m, W1 0 m H4) ∧ ∀ j k H, W1 j k H → (J1.stop j H ∧ Nx H) ∨ (J1.go j H ∧ ∃ Nx1 : Hp → Prop, (∀ H', Nx1 H' → ∃ k', k' < k ∧ W1 (j + 1) k' H') ∧
      ∀ x H', J1.yld j H x H' → lfG T vs1 g1 x (wipe σ2 vs1) H' fun σ3 H5 => wipe σ3 vs1 = wipe σ2 vs1 ∧ lfT T tt1 σ3 H5 fun b H6 => if b = true then lf T mk σ3 H6 fun y H7 => lf T mv σ3 H7 fun z H8 => ∃ kvs k, y = kV k ∧ H8 Dn = some (.dK kvs) ∧ kvs.length < sizeLine ∧ Nx1 (upd H8 Dn (.dK (putK kvs k z))) else Nx1 H6))
    (fun ι H a e => ⟨[], e, rfl⟩) (fun k Dn ι H h σm σ h' Nx hat r rs e nx => ?_) q
  obtain ⟨p1, h2, e1, e2⟩ := bind_some (show (it1 σm >>= fun p1 => cpR p1.1 p1.2 g1 tt1 (putB k mk mv) p1.1 (wipeM σm vs1)) h = some ((), h') from e)
  refine ⟨ι, σm, h, p1, h2, r, rs, e1, fun ι1 H1 J1 x1 r1 wk1 => ?_⟩
  exact cp_walk (TB := fun σ3 H6 Nx1 => lf T mk σ3 H6 fun y H7 => lf T mv σ3 H7 fun z H8 => ∃ kvs k, y = kV k ∧ H8 Dn = some (.dK kvs) ∧ kvs.length < sizeLine ∧ Nx1 (upd H8 Dn (.dK (putK kvs k z)))) wk1 r1 (Ex.refl _ _) r1 (rs.up (x1.up r))
    (fun ι3 H3 h3 σ3 σ4 h4 Nx1 x3 r3 rs3 e5 nx1 => put_body ((x3.up r1).ix _ _ ((x1.up r).ix _ _ hat)) r3 rs3 e5 nx1) e2 fun ι5 H5 x5 r5 => nx ι5 H5 (x1.trans r1 x5) r5
section
variable {X : Cx} {kx vx tg iter tg1 iter1 : Expr} {ifs ifs1 : List Expr} {scope : Scope} {own : List (Str × Nat)} {vs1 : List Nat} {pos spos py : Pos} {y : Str} {it it1 : Sm → M (List D × Src)} {g g1 : D → Sm → Option Sm} {tt tt1 : Sm → M Bool} {mk mv : Sm → M D}
theorem m_dc2 (hc : X.calm = true) (hN : X.N.Nodup) (hi : PI X tg iter (lfI (tx X) it)) (ok : BlkOk X.N X.env.scope scope own) (sub : ∀ i ∈ vs1, i ∈ own.map (·.2)) (hg : InBlk X scope fun Y => PG Y tg (lfG (tx X) (own.map (·.2)) g)) (ht : InBlk X scope fun Y => PTs Y ifs (lfT (tx X) tt))
    (hi1 : InBlk X scope fun Y => PI Y tg1 iter1 (lfI (tx X) it1)) (hg1 : InBlk X scope fun Y => PG Y tg1 (lfG (tx X) vs1 g1)) (ht1 : InBlk X scope fun Y => PTs Y ifs1 (lfT (tx X) tt1)) (hk : InBlk X scope fun Y => PE Y kx (lf (tx X) mk)) (he : InBlk X scope fun Y => PE Y vx (lf (tx X) mv))
    (hs : ∀ x, foldedSetIterable iter X.env x = pure x := by intro _; rfl) (hs1 : ∀ env x, foldedSetIterable iter1 env x = pure x := by intro _ _; rfl) : PE X (.DictComp kx vx [⟨tg, iter, ifs, 0⟩, ⟨tg1, iter1, ifs1, 0⟩] scope pos) (lf (tx X) (dc2M it g tt it1 g1 tt1 mk mv (own.map (·.2)) vs1)) := by
  refine ⟨fun pins s σ H Q I q => ?_⟩
  rw [arm_eval_DictComp]
  refine d2_core hc hN I hi ok sub hg ht hi1 hg1 ht1 hk he hs hs1 (dc2_rd q) fun Dn C s' m H' I' q2 hn f => ⟨m, hn, fun h'' sb => ?_⟩
  obtain ⟨f0, f1, f2, f3, f4, f5⟩ := f
  exact ⟨.ref Dn, H', I'.turned (t' := s'.toks) (fun b o hb e => (sb.2 b hb).trans e) f0 f1 f3 f4 f5, rfl, q2⟩
theorem s_setDc2 (i : Nat) (hc : X.calm = true) (hN : X.N.Nodup) (hy : X.N[i]? = some y) (hyl : X.env.scope.names.lookup y = some .local) (hsw : swapsWith (.DictComp kx vx [⟨tg, iter, ifs, 0⟩, ⟨tg1, iter1, ifs1, 0⟩] scope pos) (some (.Name y py)) spos.line X.env = pure true) (hi : PI X tg iter (lfI (tx X) it))
    (ok : BlkOk X.N X.env.scope scope own) (sub : ∀ i ∈ vs1, i ∈ own.map (·.2)) (hg : InBlk X scope fun Y => PG Y tg (lfG (tx X) (own.map (·.2)) g)) (ht : InBlk X scope fun Y => PTs Y ifs (lfT (tx X) tt)) (hi1 : InBlk X scope fun Y => PI Y tg1 iter1 (lfI (tx X) it1)) (hg1 : InBlk X scope fun Y => PG Y tg1 (lfG (tx X) vs1 g1))
    (ht1 : InBlk X scope fun Y => PTs Y ifs1 (lfT (tx X) tt1)) (hk : InBlk X scope fun Y => PE Y kx (lf (tx X) mk)) (he : InBlk X scope fun Y => PE Y vx (lf (tx X) mv)) (hs : ∀ x, foldedSetIterable iter X.env x = pure x := by intro _; rfl) (hs1 : ∀ env x, foldedSetIterable iter1 env x = pure x := by intro _ _; rfl) :
    PS X (.Assign [.Name y py] (.DictComp kx vx [⟨tg, iter, ifs, 0⟩, ⟨tg1, iter1, ifs1, 0⟩] scope pos) spos) (lfS (tx X) (setS i (dc2M it g tt it1 g1 tt1 mk mv (own.map (·.2)) vs1))) := by
  refine ⟨fun pins s σ H D I q => ?_⟩
  rw [exec_Assign_Name_used _ _ _ _ hsw]
  refine wpAny_bind (wpAny_standAt (wpAny_bind ?_))
  show wpAny _ X.A (comprehension (D2 kx vx tg iter ifs tg1 iter1 ifs1 scope pos) scope X.env (firstIterPos [⟨tg, iter, ifs, 0⟩, ⟨tg1, iter1, ifs1, 0⟩] pos) newDict false (eval iter X.env) (some (assign (.Name y py) X.env)) >>= _) _ _ s
  refine wpAny_bind (thn (d2_core (Q := fun x H1 => D.nx (σ.set i (some x)) H1) (Qf := fun _ s' => SP X pins D .next s') hc hN I hi ok sub hg ht hi1 hg1 ht1 hk he hs hs1 (dc2_rd (set_rd q)) fun L C s' m H' J q2 hn f => ?_) fun _ s' hq => wpAny_pure (wpAny_pure hq))
  obtain ⟨f0, f1, f2, f3, f4, f5⟩ := f
  show wpAny _ _ (assign (.Name y py) X.env (.ref L)) _ _ _
  refine wpAny_assign_Name (store_ok2 (v := V.ref L) J hN hy (.inl hyl) rfl (fun s2 I2 ⟨a, sb, ha⟩ => ?_) (.inr hyl))
  have neC : C ≠ a := ha.elim (fun z => by rw [z]; exact f1) fun z e => f4 y a z e.symm
  exact ⟨m, hn.sameBut sb neC, fun h3 sb3 => ⟨_, H', I2.turned (t' := s2.toks) (fun b o hb e => (sb3.2 b hb).trans e) f0 f1 f3 f4 f5, q2⟩⟩
end
end ML

set_option Elab.async false
set_option linter.all false
set_option maxRecDepth 100000
set_option autoImplicit false
/-! ### the functions, run: what each combinator gives, told by equations -/
namespace ML
open PySem L2
/-! #### loops, by an invariant over what is left -/
theorem for_run {items : List D} {src : Src} {g : D → Sm → Option Sm} {b : Sm → M Fl} {J : List D → Sm → Hm → Prop} {B : Sm → Hm → Prop} {R : D → Hm → Prop}
    (step : ∀ d r σ h, J (d :: r) σ h → Chk items src h ∧ ∃ σ1, g d σ = some σ1 ∧ ((∃ σ2 h2, (b σ1 h = some (.nx σ2, h2) ∨ b σ1 h = some (.ct σ2, h2)) ∧ J r σ2 h2) ∨ (∃ σ2 h2, b σ1 h = some (.bk σ2, h2) ∧ B σ2 h2) ∨ ∃ v h2, b σ1 h = some (.rt v, h2) ∧ R v h2))
    (fin : ∀ σ h, J [] σ h → Chk items src h) : ∀ (l : List D) (σ : Sm) (h : Hm), J l σ h → (∃ σ2 h2, forR items src g b l σ h = some (.nx σ2, h2) ∧ (J [] σ2 h2 ∨ B σ2 h2)) ∨ ∃ v h2, forR items src g b l σ h = some (.rt v, h2) ∧ R v h2
  | [], σ, h, hJ => .inl ⟨σ, h, by unfold forR; exact if_pos (fin σ h hJ), .inl hJ⟩
  | d :: r, σ, h, hJ => by
    obtain ⟨c, σ1, e1, z⟩ := step d r σ h hJ
    have unf : forR items src g b (d :: r) σ h = (match b σ1 h with
      | none => none
      | some (.nx σ2, h2) => forR items src g b r σ2 h2
      | some (.ct σ2, h2) => forR items src g b r σ2 h2
      | some (.bk σ2, h2) => some (.nx σ2, h2)
      | some (.rt d, h2) => some (.rt d, h2)) := by
      rw [forR]
      refine (if_pos c).trans ?_
      rw [e1] <;> rfl
    rw [unf]
    rcases z with ⟨σ2, h2, e2, hJ2⟩ | ⟨σ2, h2, e2, hB⟩ | ⟨v, h2, e2, hR⟩
    · rcases e2 with e2 | e2 <;> (rw [e2]; exact for_run step fin r σ2 h2 hJ2)
    · rw [e2]; exact .inl ⟨σ2, h2, rfl, .inr hB⟩
    · rw [e2]; exact .inr ⟨v, h2, rfl, hR⟩
theorem cp_run {items : List D} {src : Src} {g : D → Sm → Option Sm} {tt : Sm → M Bool} {body : Sm → M Unit} {σ : Sm} {J : List D → Hm → Prop}
    (step : ∀ d r h, J (d :: r) h → Chk items src h ∧ ∃ σ1, g d σ = some σ1 ∧ ((∃ h2, tt σ1 h = some (false, h2) ∧ J r h2) ∨ ∃ h2 h3, tt σ1 h = some (true, h2) ∧ body σ1 h2 = some ((), h3) ∧ J r h3)) (fin : ∀ h, J [] h → Chk items src h) :
    ∀ (l : List D) (h : Hm), J l h → ∃ h2, cpR items src g tt body l σ h = some ((), h2) ∧ J [] h2
  | [], h, hJ => ⟨h, by unfold cpR; exact if_pos (fin h hJ), hJ⟩
  | d :: r, h, hJ => by
    obtain ⟨c, σ1, e1, z⟩ := step d r h hJ
    have unf : cpR items src g tt body (d :: r) σ h = (match tt σ1 h with
      | none => none
      | some (false, h2) => cpR items src g tt body r σ h2
      | some (true, h2) => match body σ1 h2 with
        | none => none
        | some (_, h3) => cpR items src g tt body r σ h3) := by
      rw [cpR]
      refine (if_pos c).trans ?_
      rw [e1] <;> rfl
    rw [unf]
    rcases z with ⟨h2, e2, hJ2⟩ | ⟨h2, h3, e2, e3, hJ2⟩
    · rw [e2]; exact cp_run step fin r h2 hJ2
    · rw [e2]; dsimp only; rw [e3]; exact cp_run step fin r h3 hJ2
theorem lc_run {items : List D} {src : Src} {g : D → Sm → Option Sm} {tt : Sm → M Bool} {el : Sm → M D} {σ : Sm} {J : List D → List D → Hm → Prop}
    (step : ∀ d r acc h, J (d :: r) acc h → Chk items src h ∧ ∃ σ1, g d σ = some σ1 ∧ ((∃ h2, tt σ1 h = some (false, h2) ∧ J r acc h2) ∨ ∃ h2 y h3, tt σ1 h = some (true, h2) ∧ el σ1 h2 = some (y, h3) ∧ J r (acc ++ [y]) h3)) (fin : ∀ acc h, J [] acc h → Chk items src h) :
    ∀ (l acc : List D) (h : Hm), J l acc h → ∃ ys h2, lcR items src g tt el l σ h = some (ys, h2) ∧ J [] (acc ++ ys) h2
  | [], acc, h, hJ => ⟨[], h, by unfold lcR; exact if_pos (fin acc h hJ), by rw [List.append_nil]; exact hJ⟩
  | d :: r, acc, h, hJ => by
    obtain ⟨c, σ1, e1, z⟩ := step d r acc h hJ
    have unf : lcR items src g tt el (d :: r) σ h = (match tt σ1 h with
      | none => none
      | some (false, h2) => lcR items src g tt el r σ h2
      | some (true, h2) => match el σ1 h2 with
        | none => none
        | some (y, h3) => match lcR items src g tt el r σ h3 with
          | none => none
          | some (ys, h4) => some (y :: ys, h4)) := by
      rw [lcR]
      refine (if_pos c).trans ?_
      rw [e1] <;> rfl
    rw [unf]
    rcases z with ⟨h2, e2, hJ2⟩ | ⟨h2, y, h3, e2, e3, hJ2⟩
    · rw [e2]; exact lc_run step fin r acc h2 hJ2
    · obtain ⟨ys, h4, e4, hJ4⟩ := lc_run step fin r (acc ++ [y]) h3 hJ2
      rw [e2]; dsimp only; rw [e3]; dsimp only; rw [e4]
      exact ⟨y :: ys, h4, rfl, by rw [List.append_assoc] at hJ4; exact hJ4⟩
/-- a while whose measure falls -/
theorem wh_run {t : Sm → M Bool} {b : Sm → M Fl} {J : Nat → Sm → Hm → Prop} {B : Sm → Hm → Prop} {R : D → Hm → Prop}
    (step : ∀ n σ h, J n σ h → (∃ h1, t σ h = some (false, h1) ∧ B σ h1) ∨ ∃ h1, t σ h = some (true, h1) ∧ ((∃ m σ2 h2, m < n ∧ (b σ h1 = some (.nx σ2, h2) ∨ b σ h1 = some (.ct σ2, h2)) ∧ J m σ2 h2) ∨ (∃ σ2 h2, b σ h1 = some (.bk σ2, h2) ∧ B σ2 h2) ∨ ∃ v h2, b σ h1 = some (.rt v, h2) ∧ R v h2)) :
    ∀ (n : Nat) (σ : Sm) (h : Hm), J n σ h → (∃ σ2 h2, whS t b σ h = some (.nx σ2, h2) ∧ B σ2 h2) ∨ ∃ v h2, whS t b σ h = some (.rt v, h2) ∧ R v h2 := by
  have go : ∀ (n k : Nat) (σ : Sm) (h : Hm), n ≤ k → J n σ h → (∃ σ2 h2, whR t b (k + 1) σ h = some (.nx σ2, h2) ∧ B σ2 h2) ∨ ∃ v h2, whR t b (k + 1) σ h = some (.rt v, h2) ∧ R v h2 := by
    intro n k
    induction k generalizing n with
    | zero =>
      intro σ h hn hJ
      rcases step n σ h hJ with ⟨h1, e1, hB⟩ | ⟨h1, e1, ⟨m, σ2, h2, hm, _⟩ | ⟨σ2, h2, e2, hB⟩ | ⟨v, h2, e2, hR⟩⟩
      · exact .inl ⟨σ, h1, by unfold whR; rw [e1], hB⟩
      · omega
      · exact .inl ⟨σ2, h2, by unfold whR; rw [e1]; dsimp only; rw [e2], hB⟩
      · exact .inr ⟨v, h2, by unfold whR; rw [e1]; dsimp only; rw [e2], hR⟩
    | succ k ih =>
      intro σ h hn hJ
      rcases step n σ h hJ with ⟨h1, e1, hB⟩ | ⟨h1, e1, ⟨m, σ2, h2, hm, e2, hJ2⟩ | ⟨σ2, h2, e2, hB⟩ | ⟨v, h2, e2, hR⟩⟩
      · exact .inl ⟨σ, h1, by unfold whR; rw [e1], hB⟩
      · have q := ih m σ2 h2 (by omega) hJ2
        unfold whR
        rw [e1]
        dsimp only
        rcases e2 with e2 | e2 <;> (rw [e2]; exact q)
      · exact .inl ⟨σ2, h2, by unfold whR; rw [e1]; dsimp only; rw [e2], hB⟩
      · exact .inr ⟨v, h2, by unfold whR; rw [e1]; dsimp only; rw [e2], hR⟩
  intro n σ h hJ
  rcases go n n σ h (Nat.le_refl _) hJ with ⟨σ2, h2, e, hB⟩ | ⟨v, h2, e, hR⟩
  · exact .inl ⟨σ2, h2, wh_of e, hB⟩
  · exact .inr ⟨v, h2, wh_of e, hR⟩
/-! #### one equation each -/
section
variable {σ : Sm} {h h1 h2 h3 : Hm}
theorem fld_of {c f : Str} {m : Sm → M D} {k : Nat} {fs : List (Str × D)} {v : D} (e : m σ h = some (.ref k, h1)) (ek : h1[k]? = some (.ins c fs)) (ef : fs.lookup f = some v) : op1M (fldD c f) m σ h = some (v, h1) := by
  refine (op1_of' e).trans ?_
  unfold fldD
  dsimp only
  rw [ek]
  dsimp only
  rw [if_pos rfl, ef]
  rfl
theorem fldS_of {c f : Str} {mv mo : Sm → M D} {v : D} {k : Nat} {fs : List (Str × D)} (e : mv σ h = some (v, h1)) (e2 : mo σ h1 = some (.ref k, h2)) (ek : h2[k]? = some (.ins c fs)) (hl : fs.length < 1000) : fldS c f mv mo σ h = some (.nx σ, h2.set k (.ins c (putFD f v fs))) := by
  unfold fldS
  rw [bind_of e]
  refine (bind_of e2).trans ?_
  dsimp only
  rw [ek]
  exact if_pos ⟨rfl, hl⟩
theorem tr_of {m : Sm → M D} {d : D} (e : m σ h = some (d, h1)) : trT m σ h = truD d h1 := by
  unfold trT
  rw [bind_of e]
theorem app_of {mo me : Sm → M D} {k : Nat} {d : D} {xs ys : List D} (e : mo σ h = some (.ref k, h1)) (ek : h1[k]? = some (.lst xs)) (e2 : me σ h1 = some (d, h2)) (ek2 : h2[k]? = some (.lst ys)) (hl : ys.length < sizeLine) : metL appL mo (consA me nilA) σ h = some (.non, h2.set k (.lst (ys ++ [d]))) := by
  have l1 : isL (.ref k) h1 = some (.ref k, h1) := by unfold isL; dsimp only; rw [ek]
  have a1 : consA me nilA σ h1 = some ([d], h2) := cons_of e2 nil_of
  unfold metL
  rw [bind_app, bind_of e, l1]
  dsimp only
  rw [bind_of a1]
  unfold appL
  dsimp only
  rw [ek2]
  exact if_pos hl
theorem pop_of {mo : Sm → M D} {k : Nat} {d : D} {xs : List D} (e : mo σ h = some (.ref k, h1)) (ek : h1[k]? = some (.lst (xs ++ [d]))) : metL popL mo nilA σ h = some (d, h1.set k (.lst xs)) := by
  have l1 : isL (.ref k) h1 = some (.ref k, h1) := by unfold isL; dsimp only; rw [ek]
  unfold metL
  rw [bind_app, bind_of e, l1]
  dsimp only
  rw [bind_of (show nilA σ h1 = some ([], h1) from rfl)]
  unfold popL
  dsimp only
  rw [ek]
  dsimp only
  rw [List.length_append, List.length_singleton, Nat.add_sub_cancel, List.getElem?_append_right (Nat.le_refl _), Nat.sub_self, List.dropLast_concat]
  rfl
theorem meth_of {c m : Str} {F : List D → M D} {n : Nat} {mo : Sm → M D} {ms : Sm → M (List D)} {k : Nat} {ds : List D} {fs : List (Str × D)} (e : mo σ h = some (.ref k, h1)) (ek : h1[k]? = some (.ins c fs)) (ef : fs.lookup m = none) (e2 : ms σ h1 = some (ds, h2)) (hn : ds.length + 1 = n) : metI c m F n mo ms σ h = F (.ref k :: ds) h2 := by
  have l1 : isI c m (.ref k) h1 = some (.ref k, h1) := by
    unfold isI; dsimp only; rw [ek]; exact if_pos ⟨rfl, ef⟩
  unfold metI
  rw [bind_app, bind_of e, l1]
  dsimp only
  rw [bind_of e2]
  exact congrFun (if_pos hn) h2
end
end ML

set_option Elab.async false
set_option linter.all false
set_option maxRecDepth 100000
set_option autoImplicit false
namespace ML
open PySem L2
/-! ### for i, x in enumerate(..): of a list that is made for it, of a list of ours -/
def enumI (xs : List D) : List D := (List.range xs.length).map fun (i : Nat) => D.tup [.int i, xs.getD i .non]
theorem enumI_get {xs : List D} {i : Nat} (h : i < xs.length) : (enumI xs)[i]? = some (.tup [.int i, xs[i]]) := by
  unfold enumI
  rw [List.getElem?_map, List.getElem?_range h]
  simp [List.getD_eq_getElem?_getD, List.getElem?_eq_getElem h]
theorem enumI_len (xs : List D) : (enumI xs).length = xs.length := by
  unfold enumI
  rw [List.length_map, List.length_range]
theorem wk_enum {T : Tx} {ι : List Addr} {H : Hp} {a : Addr} {ds : List D} {xs : List V} (q : RVs T ι H ds xs) (r0 : ∃ h, Rl T ι H h) (st : ∀ ι1 H1 h1, Ex ι H ι1 H1 → Rl T ι1 H1 h1 → SqL T.K H1 a xs) : Wk T ι H (Ite T.K a) (enumI ds) [] := by
  obtain ⟨h0, r0⟩ := r0
  refine ⟨fun ι1 H1 h1 i x1 r1 c hi => ?_, fun ι1 H1 h1 x1 r1 c => ⟨xs, st ι1 H1 h1 x1 r1, by rw [enumI_len, q.length]; exact Nat.le_refl _⟩⟩
  rw [enumI_len] at hi
  have hs := st ι1 H1 h1 x1 r1
  obtain ⟨x, ex, qx⟩ := q.get (List.getElem?_eq_getElem hi)
  refine ⟨⟨xs, x, hs, ex⟩, fun y H' hy => ?_⟩
  obtain ⟨Tn, x', ey, hT, eH, f⟩ := hy
  subst ey eH
  have e2 := (f xs hs).symm.trans ex
  cases e2
  have qs : RVs T ι1 H1 [.int i, ds[i]] [.int (i : Nat), x] := by
    rw [RVs]
    refine ⟨_, _, rfl, by rw [RV], ?_⟩
    rw [RVs]
    exact ⟨_, _, rfl, RV.up (x1.up r0) _ _ qx, by rw [RVs]⟩
  obtain ⟨x3, r3, q3⟩ := new_tup r1 hT qs
  exact ⟨x3, r3, _, enumI_get hi, q3⟩
def itE (m : Sm → M (List D)) : Sm → M (List D × Src) := fun σ => m σ >>= fun ds => pure (enumI ds, [])
section
variable {X : Cx}
theorem i_enum {e : Expr} {ms : Sm → M (List D)} {p pos tpos : Pos} {elts : List Expr} {kk : Nat} (hg : Gl X "enumerate") (hm : X.mg "enumerate" = none) (he : PE X e (lfL (tx X) ms)) (hs : starEach [e] X.env = (false, eval e X.env) :: starEach [] X.env := by rfl) (hs' : starEach [e] X.env = [(false, eval e X.env)] := by rfl) :
    PI X (.Tuple elts kk tpos) (.Call (.Name "enumerate" p) [e] [] pos) (lfI (tx X) (itE ms)) := (pi_enum hg hm (pa_cons he pa_nil hs) hs').imp fun σ H R q => by
  obtain ⟨ι, σm, h, p, h1, r, rs, e, k⟩ := q
  show lfL (tx X) ms σ H fun v H1 => ∃ a xs, [v] = [V.ref a] ∧ SqL X.K H1 a xs ∧ R (Ite X.K a) H1
  refine lfL_then r rs e (P := fun ι2 H2 => ∀ J, Rl (tx X) ι2 H2 h1 → Wk (tx X) ι2 H2 J p.1 p.2 → R J H2) (fun ι2 H2 y J => k ι2 H2 J y) fun ι1 H1 a xs ds h' x1 r1 rs1 ha na ea q1 e1 k1 => ?_
  obtain ⟨e2, e3⟩ := pure_some e1
  subst e2 e3
  exact ⟨a, xs, rfl, SqL.of ea, k1 _ _ (Ex.refl _ _) _ r1 (wk_enum q1 ⟨_, r1⟩ fun ι2 H2 h2 x2 r2 => SqL.of (x2.fr a _ ea na))⟩
end
end ML

set_option Elab.async false
set_option linter.all false
set_option maxRecDepth 100000
set_option autoImplicit false
namespace ML
open PySem L2
/-! ### constants of the module -/
mutual
def KV (K : PySem.W.Frag) : D → Value → Prop
  | .non, u => u = .none
  | .bl b, u => u = .bool b
  | .int i, u => ∃ t, u = .int i t
  | .str x, u => ∃ t, u = .str x t
  | .tup ds, u => ∃ a o its n, u = .ref a ∧ K.lookup a = some o ∧ o.cls = .type "tuple" ∧ o.dict = none ∧ o.data = .seq its n ∧ its.size ≤ sizeLine ∧ KVs K ds its.toList
  | .ref _, _ => False
  | .glob _, _ => False
  | .fro _, _ => False
def KVs (K : PySem.W.Frag) : List D → List Value → Prop
  | [], us => us = []
  | d :: ds, us => ∃ u r, us = u :: r ∧ KV K d u ∧ KVs K ds r
end
mutual
theorem kv_RV {T : Tx} : ∀ (d : D) (u : Value), KV T.K d u → ∃ v, RelV v u ∧ ∀ ι H, RV T ι H d v
  | .non, u, h => by rw [KV] at h; subst h; exact ⟨.non, rfl, fun _ _ => by rw [RV]⟩
  | .bl b, u, h => by rw [KV] at h; subst h; exact ⟨.bl b, rfl, fun _ _ => by rw [RV]⟩
  | .int i, u, h => by rw [KV] at h; obtain ⟨t, rfl⟩ := h; exact ⟨.int i, ⟨t, rfl⟩, fun _ _ => by rw [RV]⟩
  | .str x, u, h => by rw [KV] at h; obtain ⟨t, rfl⟩ := h; exact ⟨.str x, ⟨t, rfl⟩, fun _ _ => by rw [RV]⟩
  | .tup ds, u, h => by
    rw [KV] at h
    obtain ⟨a, o, its, n, rfl, lk, hc, hd, hs, hz, hv⟩ := h
    obtain ⟨vs, rv, qs⟩ := kvs_RVs ds its.toList hv
    exact ⟨.ref a, rfl, fun ι H => by rw [RV]; exact ⟨a, vs, rfl, .inr ⟨o, its, n, lk, hc, hs, hz, rv⟩, qs ι H⟩⟩
  | .ref _, u, h => by rw [KV] at h; exact h.elim
  | .glob _, u, h => by rw [KV] at h; exact h.elim
  | .fro _, u, h => by rw [KV] at h; exact h.elim
theorem kvs_RVs {T : Tx} : ∀ (ds : List D) (us : List Value), KVs T.K ds us → ∃ vs, Vals vs us ∧ ∀ ι H, RVs T ι H ds vs
  | [], us, h => by rw [KVs] at h; subst h; exact ⟨[], .nil, fun _ _ => by rw [RVs]⟩
  | d :: ds, us, h => by
    rw [KVs] at h
    obtain ⟨u, r, rfl, h1, h2⟩ := h
    obtain ⟨v, rv, q⟩ := kv_RV d u h1
    obtain ⟨vs, rs, qs⟩ := kvs_RVs ds r h2
    exact ⟨v :: vs, .cons rv rs, fun ι H => by rw [RVs]; exact ⟨v, vs, rfl, q ι H, qs ι H⟩⟩
end
theorem KV.tuple {K : PySem.W.Frag} {ds : List D} {a : Addr} {cls : Value} {its : Array Value} {n : Nat} {sl : Array (Option Value)} (lk : K.lookup a = some ⟨cls, none, .seq its n, sl⟩) (hc : cls = .type "tuple") (hz : its.size ≤ sizeLine) (h : KVs K ds its.toList) : KV K (.tup ds) (.ref a) := by
  rw [KV]
  exact ⟨a, _, its, n, rfl, lk, hc, rfl, rfl, hz, h⟩
theorem KV.str {K : PySem.W.Frag} {x : Str} {t : Nat} : KV K (.str x) (.str x t) := by rw [KV]; exact ⟨t, rfl⟩
theorem KV.int {K : PySem.W.Frag} {i : Int} {t : Nat} : KV K (.int i) (.int i t) := by rw [KV]; exact ⟨t, rfl⟩
theorem KV.non {K : PySem.W.Frag} : KV K .non .none := by rw [KV]
theorem KV.bl {K : PySem.W.Frag} {b : Bool} : KV K (.bl b) (.bool b) := by rw [KV]
theorem KVs.nil {K : PySem.W.Frag} : KVs K [] [] := by rw [KVs]
theorem KVs.cons {K : PySem.W.Frag} {d : D} {u : Value} {ds : List D} {us : List Value} (h : KV K d u) (t : KVs K ds us) : KVs K (d :: ds) (u :: us) := by rw [KVs]; exact ⟨u, us, rfl, h, t⟩
section
variable {X : Cx}
theorem m_const {x : Str} {pos : Pos} {u : Value} {d : D} (hg : Gl X x) (hm : X.mg x = some u) (hk : KV X.K d u) (hd : (x == ("__debug__" : Str)) = false := by decide) : PE X (.Name x pos) (lf (tx X) (cM d)) := by
  obtain ⟨v, rv, q⟩ := kv_RV (T := tx X) d u hk
  refine ⟨fun pins s σ H Q I h => ?_⟩
  refine (pe_glob hg hm (v := v) rv hd).run pins s σ H Q I ?_
  obtain ⟨ι, σm, h0, d', h1, r, rs, e, k⟩ := h
  obtain ⟨e1, e2⟩ := pure_some e
  subst e1 e2
  exact k ι H v (Ex.refl _ _) r (q ι H)
/-- a op b op2 c -/
def chM (g g' : D → D → M D) (ma mb mc : Sm → M D) : Sm → M D := fun σ => ma σ >>= fun a => mb σ >>= fun b => g a b >>= fun z => match z with
  | .bl true => mc σ >>= fun c => g' b c
  | .bl false => pure (.bl false)
  | _ => M.bad
variable {a b c : Expr} {ma mb mc : Sm → M D} {pos : Pos} {op op' : CmpOp} {r r' : R2} {g g' : D → D → M D}
theorem ch_rd (hg : Op2 (tx X) r g) (hg' : Op2 (tx X) r' g') {σ : St} {H : Hp} {Q : VK} (q : lf (tx X) (chM g g' ma mb mc) σ H Q) : tChain r r' (lf (tx X) ma) (lf (tx X) mb) (lf (tx X) mc) σ H Q := by
  obtain ⟨ι, σm, h, d, h1, rl, rs, e, k⟩ := q
  refine lf_then rl rs e (P := fun ι2 H2 => ∀ v, Rl (tx X) ι2 H2 h1 → RV (tx X) ι2 H2 d v → Q v H2) (fun ι2 H2 y v => k ι2 H2 v y) fun ι1 H1 x da h' x1 r1 rs1 q1 e1 k1 => ?_
  refine lf_then r1 rs1 e1 k1 fun ι2 H2 y db h2 x2 r2 rs2 q2 e2 k2 => ?_
  obtain ⟨z, h3, e3, e4⟩ := bind_some e2
  refine hg ι2 H2 h2 x y da db z h3 _ r2 (RV.up (x2.up r1) _ _ q1) q2 e3 fun ι3 H3 v x3 r3 q3 => ?_
  cases z with
  | bl t =>
    rw [RV] at q3
    subst q3
    refine ⟨t, rfl, ?_⟩
    have k3 : ∀ ι4 H4, Ex ι3 H3 ι4 H4 → ∀ v, Rl (tx X) ι4 H4 h1 → RV (tx X) ι4 H4 d v → Q v H4 := fun ι4 H4 x4 => k2 ι4 H4 (x3.trans r3 x4)
    cases t with
    | false =>
      refine iteF ?_
      obtain ⟨e5, e6⟩ := pure_some e4
      subst e5 e6
      exact k3 _ _ (Ex.refl _ _) _ r3 (by rw [RV])
    | true =>
      refine iteT ?_
      refine lf_then r3 (rs2.up (x3.up r2)) e4 k3 fun ι4 H4 w dc h4 x4 r4 rs4 q4 e5 k4 => ?_
      exact hg' ι4 H4 h4 y w db dc d h1 Q r4 (RV.up (x4.up r3) _ _ (RV.up (x3.up r2) _ _ q2)) q4 e5 fun ι5 H5 v x5 => k4 ι5 H5 x5 v
  | _ => cases e4
theorem m_chain (ho : OpR X (compareOp op) r) (hg : Op2 (tx X) r g) (ho' : OpR X (compareOp op') r') (hg' : Op2 (tx X) r' g') (ha : PE X a (lf (tx X) ma)) (hb : PE X b (lf (tx X) mb)) (hc : PE X c (lf (tx X) mc)) (hm : lastMarks [op, op'] [b, c] = false := by with_unfolding_all rfl) :
    PE X (.Compare a [op, op'] [b, c] pos) (lf (tx X) (chM g g' ma mb mc)) := (pe_chain ho ho' ha hb hc hm).imp fun σ H Q q => ch_rd hg hg' q
theorem mt_chain (ho : OpR X (compareOp op) r) (hg : Op2 (tx X) r g) (ho' : OpR X (compareOp op') r') (hg' : Op2 (tx X) r' g') (ha : PE X a (lf (tx X) ma)) (hb : PE X b (lf (tx X) mb)) (hc : PE X c (lf (tx X) mc)) (hm : lastMarks [op, op'] [b, c] = false := by with_unfolding_all rfl) :
    PT X (.Compare a [op, op'] [b, c] pos) (lfT (tx X) (tvM (chM g g' ma mb mc))) := (pt_chain ho ho' ha hb hc hm).imp fun σ H Q q => ch_rd hg hg' (tv_of q)
end
end ML

set_option Elab.async false
set_option linter.all false
set_option maxRecDepth 100000
set_option autoImplicit false
/-! ### comprehensions whose condition and element leave the heap alone -/
namespace ML
open PySem L2
theorem lcR_filter {items : List D} {src : Src} {tt : Sm → M Bool} {el : Sm → M D} {i : Nat} {σ : Sm} {h : Hm} {p : D → Bool} {f : D → D} (hc : Chk items src h) :
    ∀ {l : List D} (ht : ∀ d ∈ l, tt (σ.set i (some d)) h = some (p d, h)) (he : ∀ d ∈ l, p d = true → el (σ.set i (some d)) h = some (f d, h)), lcR items src (nameG i) tt el l σ h = some ((l.filter p).map f, h)
  | [], _, _ => by unfold lcR; exact if_pos hc
  | d :: r, ht, he => by
    have ih := lcR_filter hc (l := r) (fun x m => ht x (List.mem_cons_of_mem _ m)) (fun x m => he x (List.mem_cons_of_mem _ m))
    have t1 := ht d (by simp)
    unfold lcR
    refine (if_pos hc).trans ?_
    unfold nameG at *
    dsimp only
    rw [t1]
    by_cases q : p d = true
    · rw [q]
      dsimp only
      rw [he d (by simp) q]
      dsimp only
      rw [ih, List.filter_cons, if_pos q]
      rfl
    · rw [Bool.not_eq_true] at q
      rw [q]
      dsimp only
      rw [ih, List.filter_cons, q]
      rfl
theorem ext_of {mo me : Sm → M D} {σ : Sm} {h h1 h2 : Hm} {k j : Nat} {xs ys zs : List D} (e : mo σ h = some (.ref k, h1)) (ek : h1[k]? = some (.lst xs)) (e2 : me σ h1 = some (.ref j, h2)) (ek2 : h2[k]? = some (.lst zs)) (ej : h2[j]? = some (.lst ys)) (hl : zs.length + ys.length ≤ sizeLine) : metL extL mo (consA me nilA) σ h = some (.non, h2.set k (.lst (zs ++ ys))) := by
  have l1 : isL (.ref k) h1 = some (.ref k, h1) := by unfold isL; dsimp only; rw [ek]
  have a1 : consA me nilA σ h1 = some ([.ref j], h2) := cons_of e2 nil_of
  unfold metL
  rw [bind_app, bind_of e, l1]
  dsimp only
  rw [bind_of a1]
  unfold extL
  dsimp only
  rw [ek2, ej]
  exact if_pos hl
theorem expr_of {m : Sm → M D} {σ : Sm} {h h1 : Hm} {d : D} (e : m σ h = some (d, h1)) : exprS m σ h = some (.nx σ, h1) := by
  unfold exprS
  rw [bind_of e]
  rfl
theorem itV_ref {m : Sm → M D} {σ : Sm} {h h1 : Hm} {k : Nat} {ds : List D} (e : m σ h = some (.ref k, h1)) (ek : h1[k]? = some (.lst ds)) : itV m σ h = some ((ds, [(k, ds)]), h1) := by
  unfold itV
  refine (bind_of e).trans ?_
  unfold walkD
  dsimp only
  rw [ek]
theorem itV_tup {m : Sm → M D} {σ : Sm} {h h1 : Hm} {ds : List D} (e : m σ h = some (.tup ds, h1)) : itV m σ h = some ((ds, []), h1) := by
  unfold itV
  exact (bind_of e).trans rfl
theorem brk_of {σ : Sm} {h : Hm} : brkS σ h = some (.bk σ, h) := rfl
theorem seq_bk {s t : Sm → M Fl} {σ σ1 : Sm} {h h1 : Hm} (e : s σ h = some (.bk σ1, h1)) : seqS s t σ h = some (.bk σ1, h1) := by
  unfold seqS
  rw [bind_of e]
  rfl
theorem for_nx {it : Sm → M (List D × Src)} {g : D → Sm → Option Sm} {b : Sm → M Fl} {σ : Sm} {h h1 : Hm} {p : List D × Src} (e : it σ h = some (p, h1)) : forS it g b σ h = forR p.1 p.2 g b p.1 σ h1 := by
  unfold forS
  rw [bind_of e]
theorem lis_ref {m : Sm → M D} {σ : Sm} {h h1 : Hm} {k : Nat} {ds : List D} (e : m σ h = some (.ref k, h1)) (ek : h1[k]? = some (.lst ds)) : lisM m σ h = some (ds, h1) := by
  unfold lisM
  refine (bind_of e).trans ?_
  unfold listC
  dsimp only
  rw [ek]
theorem asg_of {g : D → Sm → Option Sm} {m : Sm → M D} {σ σ1 : Sm} {h h1 : Hm} {d : D} (e : m σ h = some (d, h1)) (q : g d σ = some σ1) : asgS g m σ h = some (.nx σ1, h1) := by
  unfold asgS
  refine (bind_of e).trans ?_
  rw [q]
  rfl
theorem bls_map {α : Type} (p : α → Bool) : ∀ xs : List α, blsD (xs.map fun x => D.bl (p x)) = some (xs.map p)
  | [] => rfl
  | x :: xs => by
    rw [List.map_cons, blsD, bls_map p xs]
    rfl
/-- a comprehension of truths over a list, and any / all of it -/
theorem lc_bools {it : Sm → M (List D × Src)} {i : Nat} {el : Sm → M D} {σ : Sm} {h h1 : Hm} {xs : List D} {src : Src} {p : D → Bool} (e : it σ h = some ((xs, src), h1)) (hc : Chk xs src h1) (he : ∀ d ∈ xs, el ((wipeM σ [i]).set i (some d)) h1 = some (.bl (p d), h1)) (hl : xs.length ≤ sizeLine) :
    lcM it (nameG i) yesT el [i] σ h = some (xs.map fun d => .bl (p d), h1) := by
  have l := lcR_filter (i := i) (σ := wipeM σ [i]) (tt := yesT) (el := el) (p := fun _ => true) (f := fun d => .bl (p d)) hc (l := xs) (fun _ _ => rfl) (fun d m _ => he d m)
  rw [List.filter_eq_self.mpr fun _ _ => rfl] at l
  exact lcM_of e l (by rw [List.length_map]; exact hl)
theorem any_of {m : Sm → M (List D)} {σ : Sm} {h h1 : Hm} {xs : List D} {p : D → Bool} (e : m σ h = some (xs.map fun d => .bl (p d), h1)) : bcM anyL m σ h = some (.bl (xs.any p), h1) := by
  refine (bc_of' e).trans ?_
  unfold anyL
  rw [bls_map]
  show some (D.bl ((xs.map p).any id), h1) = _
  rw [List.any_map]
  rfl
theorem all_of {m : Sm → M (List D)} {σ : Sm} {h h1 : Hm} {xs : List D} {p : D → Bool} (e : m σ h = some (xs.map fun d => .bl (p d), h1)) : bcM allL m σ h = some (.bl (xs.all p), h1) := by
  refine (bc_of' e).trans ?_
  unfold allL
  rw [bls_map]
  show some (D.bl ((xs.map p).all id), h1) = _
  rw [List.all_map]
  rfl
end ML

set_option Elab.async false
set_option linter.all false
set_option maxRecDepth 100000
set_option autoImplicit false
/-! ### dicts, read: what is in, what a put changes, comprehensions that build them -/
namespace ML
open PySem L2
theorem getK_cons {p : D × D} {kvs : List (D × D)} {x : D} : getK (p :: kvs) x = if p.1 = x then some p.2 else getK kvs x := by
  unfold getK
  rw [List.find?_cons]
  by_cases q : p.1 = x
  · rw [if_pos q, decide_eq_true q]
    rfl
  · rw [if_neg q, decide_eq_false q]
theorem getK_map {k v x : D} : ∀ {kvs : List (D × D)}, (kvs.any fun p => decide (p.1 = k)) = true → getK (kvs.map fun p => if p.1 = k then (p.1, v) else p) x = if x = k then some v else getK kvs x
  | [], h => by cases h
  | p :: kvs, h => by
    rw [List.map_cons, getK_cons, getK_cons]
    by_cases q : p.1 = k
    · rw [if_pos q]
      dsimp only
      by_cases q2 : x = k
      · rw [if_pos q2, if_pos (q.trans q2.symm)]
      · rw [if_neg q2, if_neg (fun z => q2 (z.symm.trans q)), if_neg (fun z => q2 (z.symm.trans q))]
        by_cases q3 : (kvs.any fun p => decide (p.1 = k)) = true
        · rw [getK_map q3, if_neg q2]
        · have e : (kvs.map fun p => if p.1 = k then (p.1, v) else p) = kvs := by
            refine List.map_congr_left (fun p hp => if_neg fun z => q3 (List.any_eq_true.mpr ⟨p, hp, decide_eq_true z⟩)) |>.trans (List.map_id _)
          rw [e]
    · have h2 : (kvs.any fun p => decide (p.1 = k)) = true := by
        rw [List.any_cons, decide_eq_false q, Bool.false_or] at h
        exact h
      rw [if_neg q, getK_map h2]
      by_cases q2 : x = k
      · rw [if_pos q2, if_neg (fun z => q (z.trans q2))]
        rw [if_pos q2]
      · rw [if_neg q2]
        by_cases q4 : p.1 = x
        · rw [if_pos q4, if_neg q2]
        · rw [if_neg q4, if_neg q2]
theorem getK_app {k v x : D} : ∀ {kvs : List (D × D)}, getK (kvs ++ [(k, v)]) x = (getK kvs x).or (if x = k then some v else none)
  | [] => by
    rw [List.nil_append, getK_cons]
    by_cases q : x = k
    · rw [if_pos q, if_pos q.symm]; rfl
    · rw [if_neg q, if_neg (Ne.symm q)]; rfl
  | p :: kvs => by
    rw [List.cons_append, getK_cons, getK_cons, getK_app]
    by_cases q : p.1 = x
    · rw [if_pos q, if_pos q]; rfl
    · rw [if_neg q, if_neg q]
theorem getK_none {k : D} : ∀ {kvs : List (D × D)}, ¬ (kvs.any fun p => decide (p.1 = k)) = true → getK kvs k = none
  | [], _ => rfl
  | p :: kvs, h => by
    rw [List.any_cons, Bool.or_eq_true, not_or] at h
    rw [getK_cons, if_neg (fun z => h.1 (decide_eq_true z)), getK_none h.2]
theorem getK_put {kvs : List (D × D)} {k v x : D} : getK (putKD kvs k v) x = if x = k then some v else getK kvs x := by
  unfold putKD
  by_cases q : (kvs.any fun p => decide (p.1 = k)) = true
  · rw [if_pos q]
    exact getK_map q
  · rw [if_neg q, getK_app]
    by_cases q2 : x = k
    · rw [if_pos q2, if_pos q2, q2, getK_none q]
      rfl
    · rw [if_neg q2, if_neg q2, Option.or_none]
theorem put_len (kvs : List (D × D)) (k v : D) : (putKD kvs k v).length ≤ kvs.length + 1 := by
  unfold putKD
  split
  · rw [List.length_map]; exact Nat.le_succ _
  · rw [List.length_append]; exact Nat.le_refl _
theorem in_dic {neg : Bool} {x : D} {k : Nat} {kvs : List (D × D)} {h : Hm} (e : h[k]? = some (.dic kvs)) (hx : (kD x).isSome = true) : inD neg x (.ref k) h = some (.bl (if neg then !(getK kvs x).isSome else (getK kvs x).isSome), h) := by
  have s : seqOf h (.ref k) = none := by unfold seqOf; dsimp only; rw [e]
  unfold inD
  rw [s]
  dsimp only
  rw [e]
  exact if_pos hx
theorem putB_of {mk mv : Sm → M D} {σ : Sm} {h h1 h2 : Hm} {k : Nat} {kd vd : D} {kvs : List (D × D)} (e1 : mk σ h = some (kd, h1)) (e2 : mv σ h1 = some (vd, h2)) (e : h2[k]? = some (.dic kvs)) (hk : (kD kd).isSome = true) (hl : kvs.length < sizeLine) : putB k mk mv σ h = some ((), h2.set k (.dic (putKD kvs kd vd))) := by
  unfold putB
  rw [bind_of e1]
  refine (bind_of e2).trans ?_
  unfold setB
  rw [e]
  exact if_pos ⟨hk, hl⟩
theorem cpM_of {o : O} {it : Sm → M (List D × Src)} {g : D → Sm → Option Sm} {tt : Sm → M Bool} {vs : List Nat} {b : Nat → Sm → M Unit} {σ : Sm} {h h1 h2 : Hm} {p : List D × Src} (e : it σ h = some (p, h1)) (e2 : cpR p.1 p.2 g tt (b h1.length) p.1 (wipeM σ vs) (h1 ++ [o]) = some ((), h2)) : cpM o it g tt vs b σ h = some (.ref h1.length, h2) := by
  unfold cpM
  refine (bind_of e).trans ?_
  show (match cpR p.1 p.2 g tt (b h1.length) p.1 (wipeM σ vs) (h1 ++ [o]) with
    | some (_, h1') => some (D.ref h1.length, h1')
    | none => none) = _
  rw [e2]
theorem not_of {m : Sm → M D} {σ : Sm} {h h1 : Hm} {b : Bool} (e : m σ h = some (.bl b, h1)) : notV m σ h = some (.bl (!b), h1) := by
  unfold notV
  rw [bind_of (tv_of' e)]
  rfl
end ML

set_option Elab.async false
set_option linter.all false
set_option maxRecDepth 100000
set_option autoImplicit false
/-! ### weakest preconditions of the functions: one rule for each combinator -/
namespace ML
open PySem L2
def wp {α : Type} (r : Option (α × Hm)) (Q : α → Hm → Prop) : Prop := ∃ a h, r = some (a, h) ∧ Q a h
def wpS (r : Option (Fl × Hm)) (N : Sm → Hm → Prop) (R : D → Hm → Prop) (B C : Sm → Hm → Prop) : Prop := ∃ f h, r = some (f, h) ∧ match f with | .nx σ => N σ h | .rt d => R d h | .bk σ => B σ h | .ct σ => C σ h
theorem wp_of {α : Type} {r : Option (α × Hm)} {a : α} {h : Hm} {Q : α → Hm → Prop} (e : r = some (a, h)) (q : Q a h) : wp r Q := ⟨a, h, e, q⟩
theorem wp_imp {α : Type} {r : Option (α × Hm)} {Q Q' : α → Hm → Prop} (w : wp r Q) (i : ∀ a h, Q a h → Q' a h) : wp r Q' := let ⟨a, h, e, q⟩ := w; ⟨a, h, e, i a h q⟩
theorem wpS_imp {r : Option (Fl × Hm)} {N N' B B' C C' : Sm → Hm → Prop} {R R' : D → Hm → Prop} (w : wpS r N R B C) (n : ∀ σ h, N σ h → N' σ h) (t : ∀ d h, R d h → R' d h) (b : ∀ σ h, B σ h → B' σ h) (c : ∀ σ h, C σ h → C' σ h) : wpS r N' R' B' C' := by
  obtain ⟨f, h, e, q⟩ := w
  cases f with
  | nx σ => exact ⟨_, h, e, n σ h q⟩
  | rt d => exact ⟨_, h, e, t d h q⟩
  | bk σ => exact ⟨_, h, e, b σ h q⟩
  | ct σ => exact ⟨_, h, e, c σ h q⟩
theorem wp_bind {α β : Type} {m : M α} {f : α → M β} {h : Hm} {Q : β → Hm → Prop} (w : wp (m h) fun a h1 => wp (f a h1) Q) : wp ((m >>= f) h) Q := by
  obtain ⟨a, h1, e, b, h2, e2, q⟩ := w
  exact ⟨b, h2, (bind_of e).trans e2, q⟩
theorem wp_pure {α : Type} {a : α} {h : Hm} {Q : α → Hm → Prop} (q : Q a h) : wp ((pure a : M α) h) Q := ⟨a, h, rfl, q⟩
/-! #### statements -/
section
variable {σ : Sm} {h : Hm} {N B C : Sm → Hm → Prop} {R : D → Hm → Prop}
theorem ws_nx {r : Option (Fl × Hm)} {σ1 : Sm} {h1 : Hm} (e : r = some (.nx σ1, h1)) (q : N σ1 h1) : wpS r N R B C := ⟨_, _, e, q⟩
theorem ws_skip (q : N σ h) : wpS (skipS σ h) N R B C := ⟨_, _, rfl, q⟩
theorem ws_brk (q : B σ h) : wpS (brkS σ h) N R B C := ⟨_, _, rfl, q⟩
theorem ws_ct (q : C σ h) : wpS (ctS σ h) N R B C := ⟨_, _, rfl, q⟩
theorem ws_retN (q : R .non h) : wpS (retN σ h) N R B C := ⟨_, _, rfl, q⟩
theorem ws_seq {s t : Sm → M Fl} (w : wpS (s σ h) (fun σ1 h1 => wpS (t σ1 h1) N R B C) R B C) : wpS (seqS s t σ h) N R B C := by
  obtain ⟨f, h1, e, q⟩ := w
  cases f with
  | nx σ1 => obtain ⟨f2, h2, e2, q2⟩ := q; exact ⟨f2, h2, (bind_of e).trans e2, q2⟩
  | rt d => exact ⟨_, h1, bind_of e, q⟩
  | bk σ1 => exact ⟨_, h1, bind_of e, q⟩
  | ct σ1 => exact ⟨_, h1, bind_of e, q⟩
theorem ws_set {i : Nat} {m : Sm → M D} (w : wp (m σ h) fun d h1 => N (σ.set i (some d)) h1) : wpS (setS i m σ h) N R B C := by
  obtain ⟨d, h1, e, q⟩ := w
  exact ⟨_, _, bind_of e, q⟩
theorem ws_expr {m : Sm → M D} (w : wp (m σ h) fun _ h1 => N σ h1) : wpS (exprS m σ h) N R B C := by
  obtain ⟨d, h1, e, q⟩ := w
  exact ⟨_, _, bind_of e, q⟩
theorem ws_ret {m : Sm → M D} (w : wp (m σ h) R) : wpS (retS m σ h) N R B C := by
  obtain ⟨d, h1, e, q⟩ := w
  exact ⟨_, _, bind_of e, q⟩
theorem ws_if {t : Sm → M Bool} {a b : Sm → M Fl} (w : wp (t σ h) fun c h1 => (c = true → wpS (a σ h1) N R B C) ∧ (c = false → wpS (b σ h1) N R B C)) : wpS (ifS t a b σ h) N R B C := by
  obtain ⟨c, h1, e, q1, q2⟩ := w
  cases c with
  | true => obtain ⟨f, h2, e2, q⟩ := q1 rfl; exact ⟨f, h2, (bind_of e).trans e2, q⟩
  | false => obtain ⟨f, h2, e2, q⟩ := q2 rfl; exact ⟨f, h2, (bind_of e).trans e2, q⟩
theorem ws_asg {g : D → Sm → Option Sm} {m : Sm → M D} (w : wp (m σ h) fun d h1 => ∃ σ1, g d σ = some σ1 ∧ N σ1 h1) : wpS (asgS g m σ h) N R B C := by
  obtain ⟨d, h1, e, σ1, e2, q⟩ := w
  exact ⟨_, _, asg_of e e2, q⟩
theorem ws_aug {i : Nat} {m : Sm → M D} {x : Int} (e0 : σ[i]? = some (some (.int x))) (w : wp (m σ h) fun d h1 => ∃ y, d = .int y ∧ N (σ.set i (some (.int (x + y)))) h1) : wpS (augS i m σ h) N R B C := by
  obtain ⟨d, h1, e, y, rfl, q⟩ := w
  refine ⟨.nx _, h1, ?_, q⟩
  unfold augS
  refine (bind_of (a := .int x) (h1 := h) ?_).trans ?_
  · unfold gv; rw [e0]; rfl
  · exact (bind_of e).trans rfl
theorem ws_sub {mv mo mi : Sm → M D} (w : wp (mv σ h) fun v h1 => wp (mo σ h1) fun o h2 => wp (mi σ h2) fun i h3 => ∃ h4, storeD o i v h3 = some h4 ∧ N σ h4) : wpS (subS mv mo mi σ h) N R B C := by
  obtain ⟨v, h1, e1, o, h2, e2, i, h3, e3, h4, e4, q⟩ := w
  refine ⟨.nx σ, h4, ?_, q⟩
  unfold subS
  refine (bind_of e1).trans ((bind_of e2).trans ((bind_of e3).trans ?_))
  rw [e4]; rfl
theorem ws_subT {mv mo mi : Sm → M D} (w : wp (mv σ h) fun v h1 => wp (mo σ h1) fun o h2 => wp (mi σ h2) fun i h3 => ∃ h4, setT o i v h3 = some h4 ∧ N σ h4) : wpS (subT mv mo mi σ h) N R B C := by
  obtain ⟨v, h1, e1, o, h2, e2, i, h3, e3, h4, e4, q⟩ := w
  refine ⟨.nx σ, h4, ?_, q⟩
  unfold subT
  refine (bind_of e1).trans ((bind_of e2).trans ((bind_of e3).trans ?_))
  rw [e4]; rfl
theorem ws_fldS {c f : Str} {mv mo : Sm → M D} (w : wp (mv σ h) fun v h1 => wp (mo σ h1) fun o h2 => ∃ k fs, o = .ref k ∧ h2[k]? = some (.ins c fs) ∧ fs.length < 1000 ∧ N σ (h2.set k (.ins c (putFD f v fs)))) : wpS (fldS c f mv mo σ h) N R B C := by
  obtain ⟨v, h1, e1, o, h2, e2, k, fs, rfl, ek, hl, q⟩ := w
  exact ⟨_, _, fldS_of e1 e2 ek hl, q⟩
/-- a for, by an invariant over what is left -/
theorem ws_for {it : Sm → M (List D × Src)} {g : D → Sm → Option Sm} {b : Sm → M Fl}
    (w : wp (it σ h) fun p h1 => ∃ I : List D → Sm → Hm → Prop, I p.1 σ h1 ∧ (∀ d r σ h, I (d :: r) σ h → Chk p.1 p.2 h ∧ ∃ σ1, g d σ = some σ1 ∧ wpS (b σ1 h) (I r) R N (I r)) ∧ ∀ σ h, I [] σ h → Chk p.1 p.2 h ∧ N σ h) : wpS (forS it g b σ h) N R B C := by
  obtain ⟨p, h1, e1, I, i0, step, fin⟩ := w
  rcases for_run (items := p.1) (src := p.2) (g := g) (b := b) (J := I) (B := N) (R := R) (fun d r σ h i => by
    obtain ⟨c, σ1, e, f, h2, e2, q⟩ := step d r σ h i
    refine ⟨c, σ1, e, ?_⟩
    cases f with
    | nx σ2 => exact .inl ⟨σ2, h2, .inl e2, q⟩
    | ct σ2 => exact .inl ⟨σ2, h2, .inr e2, q⟩
    | bk σ2 => exact .inr (.inl ⟨σ2, h2, e2, q⟩)
    | rt d => exact .inr (.inr ⟨d, h2, e2, q⟩)) (fun σ h i => (fin σ h i).1) p.1 σ h1 i0 with ⟨σ2, h2, e, q⟩ | ⟨v, h2, e, q⟩
  · refine ⟨_, h2, (for_nx e1).trans e, ?_⟩
    rcases q with q | q
    · exact (fin _ _ q).2
    · exact q
  · exact ⟨_, h2, (for_nx e1).trans e, q⟩
/-- a while, by an invariant and a measure -/
theorem ws_wh {t : Sm → M Bool} {b : Sm → M Fl} (I : Nat → Sm → Hm → Prop) (n : Nat) (i0 : I n σ h)
    (step : ∀ n σ h, I n σ h → wp (t σ h) fun c h1 => (c = false → N σ h1) ∧ (c = true → wpS (b σ h1) (fun σ2 h2 => ∃ m, m < n ∧ I m σ2 h2) R N (fun σ2 h2 => ∃ m, m < n ∧ I m σ2 h2))) : wpS (whS t b σ h) N R B C := by
  rcases wh_run (t := t) (b := b) (J := I) (B := N) (R := R) (fun n σ h i => by
    obtain ⟨c, h1, e, q1, q2⟩ := step n σ h i
    cases c with
    | false => exact .inl ⟨h1, e, q1 rfl⟩
    | true =>
      obtain ⟨f, h2, e2, q⟩ := q2 rfl
      refine .inr ⟨h1, e, ?_⟩
      cases f with
      | nx σ2 => obtain ⟨m, hm, q⟩ := q; exact .inl ⟨m, σ2, h2, hm, .inl e2, q⟩
      | ct σ2 => obtain ⟨m, hm, q⟩ := q; exact .inl ⟨m, σ2, h2, hm, .inr e2, q⟩
      | bk σ2 => exact .inr (.inl ⟨σ2, h2, e2, q⟩)
      | rt d => exact .inr (.inr ⟨d, h2, e2, q⟩)) n σ h i0 with ⟨σ2, h2, e, q⟩ | ⟨v, h2, e, q⟩
  · exact ⟨_, h2, e, q⟩
  · exact ⟨_, h2, e, q⟩
end
/-! #### a def's body, calls -/
section
variable {σ : Sm} {h : Hm} {Q : D → Hm → Prop}
theorem wp_run {n : Nat} {b : Sm → M Fl} {ds : List D} (w : wpS (b (startM n ds) h) (fun _ h1 => Q .non h1) Q (fun _ _ => False) (fun _ _ => False)) : wp (runB n b ds h) Q := by
  obtain ⟨f, h1, e, q⟩ := w
  cases f with
  | nx σ1 => exact ⟨_, h1, bind_of e, q⟩
  | rt d => exact ⟨_, h1, bind_of e, q⟩
  | bk σ1 => exact q.elim
  | ct σ1 => exact q.elim
theorem wp_gv {i : Nat} {d : D} (e : σ[i]? = some (some d)) (q : Q d h) : wp (gv i σ h) Q := by
  refine ⟨d, h, ?_, q⟩
  unfold gv; rw [e]; rfl
theorem wp_cM {d : D} (q : Q d h) : wp (cM d σ h) Q := ⟨d, h, rfl, q⟩
theorem wp_op1 {g : D → M D} {ma : Sm → M D} (w : wp (ma σ h) fun a h1 => wp (g a h1) Q) : wp (op1M g ma σ h) Q := wp_bind w
theorem wp_op2 {g : D → D → M D} {ma mb : Sm → M D} (w : wp (ma σ h) fun a h1 => wp (mb σ h1) fun b h2 => wp (g a b h2) Q) : wp (op2M g ma mb σ h) Q := wp_bind (wp_imp w fun _ _ => wp_bind)
theorem wp_bc {g : List D → M D} {ms : Sm → M (List D)} (w : wp (ms σ h) fun ds h1 => wp (g ds h1) Q) : wp (bcM g ms σ h) Q := wp_bind w
theorem wp_call {F : List D → M D} {n : Nat} {ms : Sm → M (List D)} (w : wp (ms σ h) fun ds h1 => ds.length = n ∧ wp (F ds h1) Q) : wp (callM F n ms σ h) Q := by
  obtain ⟨ds, h1, e, hn, d, h2, e2, q⟩ := w
  exact ⟨d, h2, (call_of' e hn).trans e2, q⟩
theorem wp_meth {c m : Str} {F : List D → M D} {n : Nat} {mo : Sm → M D} {ms : Sm → M (List D)} (w : wp (mo σ h) fun o h1 => ∃ k fs, o = .ref k ∧ h1[k]? = some (.ins c fs) ∧ fs.lookup m = none ∧ wp (ms σ h1) fun ds h2 => ds.length + 1 = n ∧ wp (F (.ref k :: ds) h2) Q) : wp (metI c m F n mo ms σ h) Q := by
  obtain ⟨o, h1, e1, k, fs, rfl, ek, ef, ds, h2, e2, hn, d, h3, e3, q⟩ := w
  exact ⟨d, h3, (meth_of e1 ek ef e2 hn).trans e3, q⟩
theorem wp_make {c : Str} {F : List D → M D} {n : Nat} {ms : Sm → M (List D)} (w : wp (ms σ h) fun ds h1 => ds.length + 1 = n ∧ wp (F (.ref h1.length :: ds) (h1 ++ [.ins c []])) fun d h2 => d = .non ∧ Q (.ref h1.length) h2) : wp (makeM c F n ms σ h) Q := by
  obtain ⟨ds, h1, e1, hn, d, h2, e2, rfl, q⟩ := w
  refine ⟨_, h2, ?_, q⟩
  unfold makeM
  refine (bind_of e1).trans ?_
  show (if ds.length + 1 = n then (match F (.ref h1.length :: ds) (h1 ++ [.ins c []]) with
  | some (.non, h1') => some (D.ref h1.length, h1')
  | _ => none) else none) = _
  rw [if_pos hn, e2]
theorem wp_fld {c f : Str} {m : Sm → M D} (w : wp (m σ h) fun o h1 => ∃ k fs v, o = .ref k ∧ h1[k]? = some (.ins c fs) ∧ fs.lookup f = some v ∧ Q v h1) : wp (op1M (fldD c f) m σ h) Q := by
  obtain ⟨o, h1, e, k, fs, v, rfl, ek, ef, q⟩ := w
  exact ⟨v, h1, fld_of e ek ef, q⟩
theorem wp_new {ms : Sm → M (List D)} (w : wp (ms σ h) fun ds h1 => Q (.ref h1.length) (h1 ++ [.lst ds])) : wp (newM ms σ h) Q := by
  obtain ⟨ds, h1, e, q⟩ := w
  exact ⟨_, _, new_of e, q⟩
theorem wp_tup {ms : Sm → M (List D)} (w : wp (ms σ h) fun ds h1 => ds.length ≤ sizeLine ∧ Q (.tup ds) h1) : wp (tupM ms σ h) Q := by
  obtain ⟨ds, h1, e, hl, q⟩ := w
  exact ⟨_, _, tup_of e hl, q⟩
theorem wp_newK (q : Q (.ref h.length) (h ++ [.dic []])) : wp (newK σ h) Q := ⟨_, _, rfl, q⟩
theorem wp_newT (q : Q (.ref h.length) (h ++ [.tdc []])) : wp (newT σ h) Q := ⟨_, _, rfl, q⟩
theorem wp_ifE {t : Sm → M Bool} {ma mb : Sm → M D} (w : wp (t σ h) fun c h1 => (c = true → wp (ma σ h1) Q) ∧ (c = false → wp (mb σ h1) Q)) : wp (ifE t ma mb σ h) Q := by
  obtain ⟨c, h1, e, q1, q2⟩ := w
  cases c with
  | true => obtain ⟨d, h2, e2, q⟩ := q1 rfl; exact ⟨d, h2, (ifE_of e).trans e2, q⟩
  | false => obtain ⟨d, h2, e2, q⟩ := q2 rfl; exact ⟨d, h2, (ifE_of e).trans e2, q⟩
theorem wp_notV {m : Sm → M D} (w : wp (m σ h) fun d h1 => ∃ b, d = .bl b ∧ Q (.bl (!b)) h1) : wp (notV m σ h) Q := by
  obtain ⟨d, h1, e, b, rfl, q⟩ := w
  exact ⟨_, h1, not_of e, q⟩
theorem wp_andV {ma mb : Sm → M D} (w : wp (ma σ h) fun d h1 => ∃ b, d = .bl b ∧ (b = true → wp (mb σ h1) Q) ∧ (b = false → Q (.bl false) h1)) : wp (andV ma mb σ h) Q := by
  obtain ⟨d, h1, e, b, rfl, q1, q2⟩ := w
  cases b with
  | true => obtain ⟨d, h2, e2, q⟩ := q1 rfl; exact ⟨d, h2, by unfold andV; exact (bind_of (tv_of' e)).trans e2, q⟩
  | false => exact ⟨_, h1, by unfold andV; exact (bind_of (tv_of' e)).trans rfl, q2 rfl⟩
theorem wp_orV {ma mb : Sm → M D} (w : wp (ma σ h) fun d h1 => ∃ b, d = .bl b ∧ (b = true → Q (.bl true) h1) ∧ (b = false → wp (mb σ h1) Q)) : wp (orV ma mb σ h) Q := by
  obtain ⟨d, h1, e, b, rfl, q1, q2⟩ := w
  cases b with
  | true => exact ⟨_, h1, by unfold orV; exact (bind_of (tv_of' e)).trans rfl, q1 rfl⟩
  | false => obtain ⟨d, h2, e2, q⟩ := q2 rfl; exact ⟨d, h2, by unfold orV; exact (bind_of (tv_of' e)).trans e2, q⟩
theorem wp_met2D {g : D → D → D → M D} {mo mk mx : Sm → M D} (w : wp (mo σ h) fun o h1 => ∃ k, o = .ref k ∧ (∃ kvs, h1[k]? = some (.dic kvs) ∨ h1[k]? = some (.ldic kvs)) ∧ wp (mk σ h1) fun kd h2 => wp (mx σ h2) fun x h3 => wp (g (.ref k) kd x h3) Q) : wp (met2D g mo mk mx σ h) Q := by
  obtain ⟨o, h1, e1, k, rfl, ⟨kvs, ek⟩, w⟩ := w
  unfold met2D
  refine wp_bind (wp_bind ?_)
  refine ⟨_, h1, e1, ?_⟩
  refine ⟨.ref k, h1, ?_, wp_bind (wp_imp w fun _ _ => wp_bind)⟩
  unfold isDc
  rcases ek with ek | ek <;> (dsimp only; rw [ek])
theorem wp_app {mo me : Sm → M D} (w : wp (mo σ h) fun o h1 => ∃ k xs, o = .ref k ∧ h1[k]? = some (.lst xs) ∧ wp (me σ h1) fun d h2 => ∃ ys, h2[k]? = some (.lst ys) ∧ ys.length < sizeLine ∧ Q .non (h2.set k (.lst (ys ++ [d])))) : wp (metL appL mo (consA me nilA) σ h) Q := by
  obtain ⟨o, h1, e1, k, xs, rfl, ek, d, h2, e2, ys, ek2, hl, q⟩ := w
  exact ⟨_, _, app_of e1 ek e2 ek2 hl, q⟩
theorem wp_ext {mo me : Sm → M D} (w : wp (mo σ h) fun o h1 => ∃ k xs, o = .ref k ∧ h1[k]? = some (.lst xs) ∧ wp (me σ h1) fun d h2 => ∃ j ys zs, d = .ref j ∧ h2[k]? = some (.lst zs) ∧ h2[j]? = some (.lst ys) ∧ zs.length + ys.length ≤ sizeLine ∧ Q .non (h2.set k (.lst (zs ++ ys)))) : wp (metL extL mo (consA me nilA) σ h) Q := by
  obtain ⟨o, h1, e1, k, xs, rfl, ek, d, h2, e2, j, ys, zs, rfl, ek2, ej, hl, q⟩ := w
  exact ⟨_, _, ext_of e1 ek e2 ek2 ej hl, q⟩
theorem wp_pop {mo : Sm → M D} (w : wp (mo σ h) fun o h1 => ∃ k d xs, o = .ref k ∧ h1[k]? = some (.lst (xs ++ [d])) ∧ Q d (h1.set k (.lst xs))) : wp (metL popL mo nilA σ h) Q := by
  obtain ⟨o, h1, e1, k, d, xs, rfl, ek, q⟩ := w
  exact ⟨_, _, pop_of e1 ek, q⟩
theorem wp_lockM {m : Sm → M D} (w : wp (m σ (h.map lockO)) fun d h1 => Q d (unlH h h1)) : wp (lockM m σ h) Q := by
  obtain ⟨d, h1, e, q⟩ := w
  exact ⟨d, _, by unfold lockM; rw [e], q⟩
end
theorem ws_lockS {σ : Sm} {h : Hm} {b : Sm → M Fl} {N B C : Sm → Hm → Prop} {R : D → Hm → Prop} (w : wpS (b σ (h.map lockO)) (fun σ1 h1 => N σ1 (unlH h h1)) (fun d h1 => R d (unlH h h1)) (fun σ1 h1 => B σ1 (unlH h h1)) (fun σ1 h1 => C σ1 (unlH h h1))) : wpS (lockS b σ h) N R B C := by
  obtain ⟨f, h1, e, q⟩ := w
  refine ⟨f, _, by unfold lockS; rw [e], ?_⟩
  cases f <;> exact q
/-! #### truths -/
section
variable {σ : Sm} {h : Hm} {Q : Bool → Hm → Prop}
theorem wt_tv {m : Sm → M D} (w : wp (m σ h) fun d h1 => ∃ b, d = .bl b ∧ Q b h1) : wp (tvM m σ h) Q := by
  obtain ⟨d, h1, e, b, rfl, q⟩ := w
  exact ⟨b, h1, tv_of' e, q⟩
theorem wt_and {a b : Sm → M Bool} (w : wp (a σ h) fun c h1 => (c = true → wp (b σ h1) Q) ∧ (c = false → Q false h1)) : wp (andT a b σ h) Q := by
  obtain ⟨c, h1, e, q1, q2⟩ := w
  cases c with
  | true => obtain ⟨d, h2, e2, q⟩ := q1 rfl; exact ⟨d, h2, (bind_of e).trans e2, q⟩
  | false => exact ⟨_, h1, bind_of e, q2 rfl⟩
theorem wt_or {a b : Sm → M Bool} (w : wp (a σ h) fun c h1 => (c = true → Q true h1) ∧ (c = false → wp (b σ h1) Q)) : wp (orT a b σ h) Q := by
  obtain ⟨c, h1, e, q1, q2⟩ := w
  cases c with
  | true => exact ⟨_, h1, bind_of e, q1 rfl⟩
  | false => obtain ⟨d, h2, e2, q⟩ := q2 rfl; exact ⟨d, h2, (bind_of e).trans e2, q⟩
theorem wt_not {a : Sm → M Bool} (w : wp (a σ h) fun c h1 => Q (!c) h1) : wp (notT a σ h) Q := by
  obtain ⟨c, h1, e, q⟩ := w
  exact ⟨_, h1, notT_of e, q⟩
theorem wt_tr {m : Sm → M D} (w : wp (m σ h) fun d h1 => wp (truD d h1) Q) : wp (trT m σ h) Q := wp_bind w
theorem wt_yes (q : Q true h) : wp (yesT σ h) Q := ⟨_, _, rfl, q⟩
end
/-! #### lists of values -/
section
variable {σ : Sm} {h : Hm} {Q : List D → Hm → Prop}
theorem wl_nil (q : Q [] h) : wp (nilA σ h) Q := ⟨_, _, rfl, q⟩
theorem wl_cons {m : Sm → M D} {ms : Sm → M (List D)} (w : wp (m σ h) fun d h1 => wp (ms σ h1) fun ds h2 => Q (d :: ds) h2) : wp (consA m ms σ h) Q := by
  obtain ⟨d, h1, e1, ds, h2, e2, q⟩ := w
  exact ⟨_, h2, cons_of e1 e2, q⟩
theorem wl_lst {ms : Sm → M (List D)} (w : wp (ms σ h) fun ds h1 => ds.length ≤ sizeLine ∧ Q ds h1) : wp (lstM ms σ h) Q := by
  obtain ⟨ds, h1, e, hl, q⟩ := w
  exact ⟨_, _, lst_of e hl, q⟩
theorem wl_lis {m : Sm → M D} (w : wp (m σ h) fun d h1 => wp (listC d h1) Q) : wp (lisM m σ h) Q := wp_bind w
/-- a comprehension, by an invariant over what is left and what is made -/
theorem wl_lc {it : Sm → M (List D × Src)} {g : D → Sm → Option Sm} {tt : Sm → M Bool} {el : Sm → M D} {vs : List Nat}
    (w : wp (it σ h) fun p h1 => ∃ I : List D → List D → Hm → Prop, I p.1 [] h1 ∧ (∀ d r acc h, I (d :: r) acc h → Chk p.1 p.2 h ∧ ∃ σ1, g d (wipeM σ vs) = some σ1 ∧ wp (tt σ1 h) fun c h2 => (c = false → I r acc h2) ∧ (c = true → wp (el σ1 h2) fun y h3 => I r (acc ++ [y]) h3)) ∧ ∀ acc h, I [] acc h → Chk p.1 p.2 h ∧ acc.length ≤ sizeLine ∧ Q acc h) : wp (lcM it g tt el vs σ h) Q := by
  obtain ⟨p, h1, e1, I, i0, step, fin⟩ := w
  obtain ⟨ys, h2, e2, i2⟩ := lc_run (items := p.1) (src := p.2) (g := g) (tt := tt) (el := el) (σ := wipeM σ vs) (J := I) (fun d r acc h i => by
    obtain ⟨c, σ1, e, b, h2, e2, q1, q2⟩ := step d r acc h i
    refine ⟨c, σ1, e, ?_⟩
    cases b with
    | false => exact .inl ⟨h2, e2, q1 rfl⟩
    | true => obtain ⟨y, h3, e3, q⟩ := q2 rfl; exact .inr ⟨h2, y, h3, e2, e3, q⟩) (fun acc h i => (fin acc h i).1) p.1 [] h1 i0
  rw [List.nil_append] at i2
  obtain ⟨_, hl, q⟩ := fin ys h2 i2
  exact ⟨ys, h2, lcM_of e1 e2 hl, q⟩
/-- a comprehension that leaves the heap alone -/
theorem wl_map {it : Sm → M (List D × Src)} {g : D → Sm → Option Sm} {tt : Sm → M Bool} {el : Sm → M D} {vs : List Nat} (c : D → Bool) (f : D → D)
    (w : wp (it σ h) fun p h1 => Chk p.1 p.2 h1 ∧ p.1.length ≤ sizeLine ∧ (∀ d ∈ p.1, ∃ σ1, g d (wipeM σ vs) = some σ1 ∧ tt σ1 h1 = some (c d, h1) ∧ (c d = true → el σ1 h1 = some (f d, h1))) ∧ Q ((p.1.filter c).map f) h1) : wp (lcM it g tt el vs σ h) Q := by
  obtain ⟨p, h1, e1, ck, hl, step, q⟩ := w
  refine wl_lc ⟨p, h1, e1, (fun l acc h2 => h2 = h1 ∧ (∀ d ∈ l, d ∈ p.1) ∧ acc ++ (l.filter c).map f = (p.1.filter c).map f), ⟨rfl, (fun _ m => m), rfl⟩, fun d r acc h2 ⟨e, m, ea⟩ => ?_, fun acc h2 ⟨e, _, ea⟩ => ?_⟩
  · subst e
    obtain ⟨σ1, e2, e3, e4⟩ := step d (m d (by simp))
    refine ⟨ck, σ1, e2, _, _, e3, fun hc => ⟨rfl, (fun x hx => m x (List.mem_cons_of_mem _ hx)), ?_⟩, fun hc => ⟨_, _, e4 hc, rfl, (fun x hx => m x (List.mem_cons_of_mem _ hx)), ?_⟩⟩
    · rw [List.filter_cons, hc] at ea; exact ea
    · rw [List.filter_cons, hc] at ea
      rw [List.append_assoc]
      exact ea
  · subst e
    rw [List.filter_nil, List.map_nil, List.append_nil] at ea
    subst ea
    refine ⟨ck, ?_, q⟩
    rw [List.length_map]
    exact Nat.le_trans (List.length_filter_le _ _) hl
end
/-! #### what is walked -/
section
variable {σ : Sm} {h : Hm} {Q : List D × Src → Hm → Prop}
theorem wi_val {m : Sm → M D} (w : wp (m σ h) fun d h1 => (∃ ds, d = .tup ds ∧ Q (ds, []) h1) ∨ (∃ ds, d = .fro ds ∧ Q (ds, []) h1) ∨ ∃ k ds, d = .ref k ∧ h1[k]? = some (.lst ds) ∧ Q (ds, [(k, ds)]) h1) : wp (itV m σ h) Q := by
  obtain ⟨d, h1, e, w⟩ := w
  rcases w with ⟨ds, rfl, q⟩ | ⟨ds, rfl, q⟩ | ⟨k, ds, rfl, ek, q⟩
  · exact ⟨_, h1, itV_tup e, q⟩
  · exact ⟨_, h1, by unfold itV; exact (bind_of e).trans rfl, q⟩
  · exact ⟨_, h1, itV_ref e ek, q⟩
theorem wi_tup {m : Sm → M D} (w : wp (m σ h) fun d h1 => ∃ ds, d = .tup ds ∧ Q (ds, []) h1) : wp (itV m σ h) Q := wi_val (wp_imp w fun _ _ q => .inl q)
theorem wi_ref {m : Sm → M D} (w : wp (m σ h) fun d h1 => ∃ k ds, d = .ref k ∧ h1[k]? = some (.lst ds) ∧ Q (ds, [(k, ds)]) h1) : wp (itV m σ h) Q := wi_val (wp_imp w fun _ _ q => .inr (.inr q))
theorem wi_lst {ms : Sm → M (List D)} (w : wp (ms σ h) fun ds h1 => Q (ds, []) h1) : wp (itL ms σ h) Q := by
  obtain ⟨ds, h1, e, q⟩ := w
  exact ⟨_, h1, by unfold itL; exact (bind_of e).trans rfl, q⟩
theorem wi_key {m : Sm → M D} (w : wp (m σ h) fun d h1 => ∃ k kvs, d = .ref k ∧ h1[k]? = some (.ldic kvs) ∧ Q (kvs.map (·.1), []) h1) : wp (itK m σ h) Q := by
  obtain ⟨d, h1, e, k, kvs, rfl, ek, q⟩ := w
  refine ⟨_, h1, ?_, q⟩
  unfold itK
  refine (bind_of e).trans ?_
  unfold keyD
  dsimp only
  rw [ek]
theorem wi_rng {ms : Sm → M (List D)} (w : wp (ms σ h) fun ds h1 => ∃ j : Int, ds = [.int j] ∧ 0 ≤ j ∧ j < 2 ^ 62 ∧ Q ((List.range j.toNat).map fun (i : Nat) => D.int i, []) h1) : wp (itR1 ms σ h) Q := by
  obtain ⟨ds, h1, e, j, rfl, h0, hj, q⟩ := w
  exact ⟨_, h1, itR1_of e h0 hj, q⟩
end
/-! #### comprehensions that build an object -/
section
variable {σ : Sm} {h : Hm} {Q : D → Hm → Prop}
theorem wu_cpR {items : List D} {src : Src} {g : D → Sm → Option Sm} {tt : Sm → M Bool} {body : Sm → M Unit} {h1 : Hm} {Q : Unit → Hm → Prop} (I : List D → Hm → Prop) (i0 : I items h1)
    (step : ∀ d r h, I (d :: r) h → Chk items src h ∧ ∃ σ1, g d σ = some σ1 ∧ wp (tt σ1 h) fun c h2 => (c = false → I r h2) ∧ (c = true → wp (body σ1 h2) fun _ h3 => I r h3)) (fin : ∀ h, I [] h → Chk items src h ∧ Q () h) : wp (cpR items src g tt body items σ h1) Q := by
  obtain ⟨h2, e2, i2⟩ := cp_run (items := items) (src := src) (g := g) (tt := tt) (body := body) (σ := σ) (J := I) (fun d r h i => by
    obtain ⟨c, σ1, e, b, h2, e2, q1, q2⟩ := step d r h i
    refine ⟨c, σ1, e, ?_⟩
    cases b with
    | false => exact .inl ⟨h2, e2, q1 rfl⟩
    | true => obtain ⟨_, h3, e3, q⟩ := q2 rfl; exact .inr ⟨h2, h3, e2, e3, q⟩) (fun h i => (fin h i).1) items h1 i0
  exact ⟨(), h2, e2, (fin h2 i2).2⟩
theorem wp_cp {o : O} {it : Sm → M (List D × Src)} {g : D → Sm → Option Sm} {tt : Sm → M Bool} {vs : List Nat} {b : Nat → Sm → M Unit} (w : wp (it σ h) fun p h1 => wp (cpR p.1 p.2 g tt (b h1.length) p.1 (wipeM σ vs) (h1 ++ [o])) fun _ h2 => Q (.ref h1.length) h2) : wp (cpM o it g tt vs b σ h) Q := by
  obtain ⟨p, h1, e1, _, h2, e2, q⟩ := w
  exact ⟨_, h2, cpM_of e1 e2, q⟩
theorem wu_body2 {it1 : Sm → M (List D × Src)} {g1 : D → Sm → Option Sm} {tt1 : Sm → M Bool} {vs1 : List Nat} {b : Sm → M Unit} {Q : Unit → Hm → Prop} (w : wp (it1 σ h) fun p h1 => wp (cpR p.1 p.2 g1 tt1 b p.1 (wipeM σ vs1) h1) Q) : wp (body2 it1 g1 tt1 vs1 b σ h) Q := wp_bind w
theorem wu_app {k : Nat} {el : Sm → M D} {Q : Unit → Hm → Prop} (w : wp (el σ h) fun d h1 => ∃ xs, h1[k]? = some (.lst xs) ∧ xs.length < sizeLine ∧ Q () (h1.set k (.lst (xs ++ [d])))) : wp (appB k el σ h) Q := by
  obtain ⟨d, h1, e, xs, ek, hl, q⟩ := w
  refine ⟨(), _, ?_, q⟩
  unfold appB
  refine (bind_of e).trans ((bind_of (a := .non) ?_).trans rfl)
  unfold appL
  dsimp only
  rw [ek]
  exact if_pos hl
theorem wu_put {k : Nat} {mk mv : Sm → M D} {Q : Unit → Hm → Prop} (w : wp (mk σ h) fun kd h1 => wp (mv σ h1) fun vd h2 => ∃ kvs, h2[k]? = some (.dic kvs) ∧ (kD kd).isSome = true ∧ kvs.length < sizeLine ∧ Q () (h2.set k (.dic (putKD kvs kd vd)))) : wp (putB k mk mv σ h) Q := by
  obtain ⟨kd, h1, e1, vd, h2, e2, kvs, ek, hk, hl, q⟩ := w
  exact ⟨(), _, putB_of e1 e2 ek hk hl, q⟩
end
/-! #### literal dicts, any and all -/
section
variable {σ : Sm} {h : Hm} {Q : D → Hm → Prop}
theorem wp_disp {l : List ((Sm → M D) × (Sm → M D))} (w : wp (pairsM l σ h) fun ps h1 => (ps.all fun p => (kD p.1).isSome) = true ∧ ps.length ≤ 15 ∧ Q (.ref h1.length) (h1 ++ [.dic (mergeD ps)])) : wp (dispM l σ h) Q := by
  obtain ⟨ps, h1, e, c1, c2, q⟩ := w
  refine ⟨_, _, ?_, q⟩
  unfold dispM
  exact (bind_of e).trans (if_pos ⟨c1, c2⟩)
theorem wq_nil {Q : List (D × D) → Hm → Prop} (q : Q [] h) : wp (pairsM [] σ h) Q := ⟨_, _, rfl, q⟩
theorem wq_cons {mk mv : Sm → M D} {l : List ((Sm → M D) × (Sm → M D))} {Q : List (D × D) → Hm → Prop} (w : wp (mk σ h) fun k h1 => wp (mv σ h1) fun v h2 => wp (pairsM l σ h2) fun ps h3 => Q ((k, v) :: ps) h3) : wp (pairsM ((mk, mv) :: l) σ h) Q := by
  obtain ⟨k, h1, e1, v, h2, e2, ps, h3, e3, q⟩ := w
  refine ⟨_, h3, ?_, q⟩
  show (mk σ >>= fun k => mv σ >>= fun v => pairsM l σ >>= fun ps => pure ((k, v) :: ps)) h = _
  rw [bind_of e1]
  rw [bind_of e2]
  rw [bind_of e3]
  rfl
theorem wd_any {ms : Sm → M (List D)} (w : wp (ms σ h) fun ds h1 => ∃ k, ∃ bs : List Bool, ds = [.ref k] ∧ h1[k]? = some (.lst (bs.map .bl)) ∧ Q (.bl (bs.any id)) h1) : wp (bcM anyD ms σ h) Q := by
  obtain ⟨ds, h1, e, k, bs, rfl, ek, q⟩ := w
  refine ⟨_, h1, (bc_of' e).trans ?_, q⟩
  unfold anyD
  dsimp only
  rw [ek]
  dsimp only
  rw [show bs.map D.bl = bs.map (fun b => D.bl (id b)) from rfl, bls_map]
  simp
theorem wd_all {ms : Sm → M (List D)} (w : wp (ms σ h) fun ds h1 => ∃ k, ∃ bs : List Bool, ds = [.ref k] ∧ h1[k]? = some (.lst (bs.map .bl)) ∧ Q (.bl (bs.all id)) h1) : wp (bcM allD ms σ h) Q := by
  obtain ⟨ds, h1, e, k, bs, rfl, ek, q⟩ := w
  refine ⟨_, h1, (bc_of' e).trans ?_, q⟩
  unfold allD
  dsimp only
  rw [ek]
  dsimp only
  rw [show bs.map D.bl = bs.map (fun b => D.bl (id b)) from rfl, bls_map]
  simp
theorem wd_anyL {ms : Sm → M (List D)} (w : wp (ms σ h) fun ds h1 => ∃ bs : List Bool, ds = bs.map .bl ∧ Q (.bl (bs.any id)) h1) : wp (bcM anyL ms σ h) Q := by
  obtain ⟨ds, h1, e, bs, rfl, q⟩ := w
  refine ⟨_, h1, (bc_of' e).trans ?_, q⟩
  unfold anyL
  rw [show bs.map D.bl = bs.map (fun b => D.bl (id b)) from rfl, bls_map]
  simp [pure_app]
theorem wd_allL {ms : Sm → M (List D)} (w : wp (ms σ h) fun ds h1 => ∃ bs : List Bool, ds = bs.map .bl ∧ Q (.bl (bs.all id)) h1) : wp (bcM allL ms σ h) Q := by
  obtain ⟨ds, h1, e, bs, rfl, q⟩ := w
  refine ⟨_, h1, (bc_of' e).trans ?_, q⟩
  unfold allL
  rw [show bs.map D.bl = bs.map (fun b => D.bl (id b)) from rfl, bls_map]
  simp [pure_app]
end
end ML

set_option Elab.async false
set_option linter.all false
set_option maxRecDepth 100000
set_option autoImplicit false
/-! ### plain data: equality, membership, repr -/
namespace ML
open PySem L2
mutual
/-- no truth values, nothing of the heap in it -/
def nb : D → Bool
  | .non => true
  | .int _ => true
  | .str _ => true
  | .tup xs => nbs xs
  | _ => false
def nbs : List D → Bool
  | [] => true
  | x :: xs => nb x && nbs xs
end
theorem nbs_iff : ∀ {xs : List D}, nbs xs = true ↔ ∀ x ∈ xs, nb x = true
  | [] => by simp [nbs]
  | x :: xs => by rw [nbs, Bool.and_eq_true, nbs_iff (xs := xs)]; simp
mutual
theorem eqv_nb : ∀ (a b : D), nb a = true → nb b = true → (PyData.eqv (toP a) (toP b) = true ↔ a = b)
  | .non, b, _, hb => by cases b <;> simp_all [toP, PyData.eqv, nb]
  | .int i, b, _, hb => by cases b <;> simp_all [toP, PyData.eqv, nb]
  | .str x, b, _, hb => by cases b <;> simp_all [toP, PyData.eqv, nb]
  | .tup xs, b, ha, hb => by
    cases b with
    | tup ys =>
      rw [nb] at ha hb
      rw [toP, toP, PyData.eqv, eqvs_nb xs ys ha hb]
      simp
    | _ => simp_all [toP, PyData.eqv, nb]
  | .bl _, b, ha, _ => by cases ha
  | .ref _, b, ha, _ => by cases ha
  | .glob _, b, ha, _ => by cases ha
  | .fro _, b, ha, _ => by cases ha
theorem eqvs_nb : ∀ (a b : List D), nbs a = true → nbs b = true → (PyData.eqvAll (toPs a) (toPs b) = true ↔ a = b)
  | [], b, _, _ => by cases b <;> simp [toPs, PyData.eqvAll]
  | x :: xs, [], _, _ => by simp [toPs, PyData.eqvAll]
  | x :: xs, y :: ys, ha, hb => by
    rw [nbs, Bool.and_eq_true] at ha hb
    rw [toPs, toPs, PyData.eqvAll, Bool.and_eq_true, eqv_nb x y ha.1 hb.1, eqvs_nb xs ys ha.2 hb.2]
    simp
end
/-- data that can be laid out: no deeper than k, its repr no longer than n -/
structure Sh (n k : Nat) (d : D) : Prop where
  lay : (toP d).canLay0 = true
  dep : (toP d).depth ≤ k
  show_ : (toP d).showable = true
  len : (toP d).shown.length ≤ n
  chr : PyData.strOk (toP d).shown = true
theorem Sh.mono {n k n' k' : Nat} {d : D} (s : Sh n k d) (hn : n ≤ n') (hk : k ≤ k') : Sh n' k' d := ⟨s.lay, Nat.le_trans s.dep hk, s.show_, Nat.le_trans s.len hn, s.chr⟩
theorem strOk_app {x y : Str} : PyData.strOk (x ++ y) = true ↔ PyData.strOk x = true ∧ PyData.strOk y = true := by
  show ((x.cps ++ y.cps).all fun c => decide (c < 0x110000)) = true ↔ _
  rw [Array.all_append, Bool.and_eq_true]
  rfl
theorem strOk_join {sep : Str} (hs : PyData.strOk sep = true) : ∀ {ts : List Str}, (∀ t ∈ ts, PyData.strOk t = true) → PyData.strOk (Str.join sep ts) = true
  | [], _ => by
    show PyData.strOk (Str.ofString "") = true
    decide +kernel
  | [x], h => h x (by simp)
  | x :: y :: r, h => by
    show PyData.strOk (x ++ sep ++ Str.join sep (y :: r)) = true
    rw [strOk_app, strOk_app]
    exact ⟨⟨h x (by simp), hs⟩, strOk_join hs fun t m => h t (List.mem_cons_of_mem _ m)⟩
theorem shs {n k : Nat} : ∀ {xs : List D}, (∀ x ∈ xs, Sh n k x) → PyData.canLayAll0 (toPs xs) = true ∧ PyData.depthAll (toPs xs) ≤ k ∧ PyData.showableAll (toPs xs) = true ∧ piled (PyData.shownAll (toPs xs)) ≤ xs.length * (n + 2) ∧ ∀ t ∈ PyData.shownAll (toPs xs), PyData.strOk t = true
  | [], _ => ⟨by rw [toPs, PyData.canLayAll0], by rw [toPs, PyData.depthAll]; exact Nat.zero_le _, by rw [toPs, PyData.showableAll], by rw [toPs, PyData.shownAll, piled_nil]; exact Nat.zero_le _, by rw [toPs, PyData.shownAll]; exact fun _ z => by cases z⟩
  | x :: xs, h => by
    obtain ⟨h1, h2, h3, h4, h5⟩ := shs fun y m => h y (List.mem_cons_of_mem _ m)
    obtain ⟨a1, a2, a3, a4, a5⟩ := h x (by simp)
    refine ⟨by rw [toPs, PyData.canLayAll0, a1, h1]; rfl, by rw [toPs, PyData.depthAll]; exact Nat.max_le.mpr ⟨a2, h2⟩, by rw [toPs, PyData.showableAll, a3, h3]; rfl, ?_, ?_⟩
    · rw [toPs, PyData.shownAll, piled_cons, List.length_cons, Nat.succ_mul]
      omega
    · rw [toPs, PyData.shownAll]
      intro t m
      rcases List.mem_cons.mp m with e | m
      · rw [e]; exact a5
      · exact h5 t m
theorem Sh.tup {n k : Nat} {xs : List D} (h : ∀ x ∈ xs, Sh n k x) : Sh (4 + xs.length * (n + 2)) (k + 1) (.tup xs) := by
  obtain ⟨h1, h2, h3, h4, h5⟩ := shs h
  refine ⟨by rw [toP, PyData.canLay0]; exact h1, by rw [toP, PyData.depth]; omega, by rw [toP, PyData.showable]; exact h3, ?_, ?_⟩ <;> rw [toP, PyData.shown]
  rotate_left
  · unfold tupleText
    rw [strOk_app, strOk_app]
    refine ⟨⟨by decide +kernel, strOk_join (by decide +kernel) h5⟩, ?_⟩
    split <;> decide +kernel
  have e : ∀ ts : List Str, (tupleText ts).length ≤ 4 + piled ts := by
    intro ts
    unfold tupleText
    rw [Str.length_append, Str.length_append]
    have j : (Str.join ", " ts).length ≤ piled ts := by
      by_cases q : ts = []
      · subst q; exact Nat.zero_le _
      · have := join_length_add ts q
        omega
    have l1 : ((("(" : Str)).length : Nat) = 1 := rfl
    have l2 : (((if ts.length == 1 then ",)" else ")" : String)) : Str).length ≤ 2 := by split <;> decide
    omega
  exact Nat.le_trans (e _) (by omega)
theorem Sh.ok {n k : Nat} {d : D} (s : Sh n k d) (hk : k ≤ 64) : okD d = true := by
  have := s.dep
  unfold okD SeqAt.shaped
  rw [s.lay, decide_eq_true (by omega)]
  rfl
theorem repr_of {n k : Nat} {xs : List D} (s : Sh n k (.tup xs)) (hk : k ≤ 64) (hn : n ≤ 16777216) (h : Hm) : reprD [.tup xs] h = some (.str (toP (.tup xs)).shown, h) := by
  have := s.len
  unfold reprD
  exact (congrFun (if_pos ⟨s.ok hk, PyData.hasDict_of_canLay _ s.lay, s.show_, by show _ ≤ 2 ^ 24; omega⟩) h).trans rfl
theorem eq_nb {a b : D} (ha : nb a = true) (hb : nb b = true) (oa : okD a = true) (ob : okD b = true) (h : Hm) : eqD a b h = some (.bl (decide (a = b)), h) := by
  unfold eqD
  rw [if_pos ⟨oa, ob⟩]
  have q : PyData.eqv (toP a) (toP b) = decide (a = b) := by
    rw [Bool.eq_iff_iff, eqv_nb a b ha hb, decide_eq_true_eq]
  rw [q]
  rfl
theorem ne_nb {a b : D} (ha : nb a = true) (hb : nb b = true) (oa : okD a = true) (ob : okD b = true) (h : Hm) : neD a b h = some (.bl (!decide (a = b)), h) := by
  unfold neD
  rw [if_pos ⟨oa, ob⟩]
  have q : PyData.eqv (toP a) (toP b) = decide (a = b) := by
    rw [Bool.eq_iff_iff, eqv_nb a b ha hb, decide_eq_true_eq]
  rw [q]
  rfl
theorem ne_str {x : Str} (h : Hm) (hx : okD (.str x) = true) : neD (.str x) (.str x) h = some (.bl false, h) := by
  rw [ne_nb rfl rfl hx hx, decide_eq_true rfl]
  rfl
theorem in_nb {neg : Bool} {x y : D} {xs : List D} {h : Hm} (hx : nb x = true) (ox : okD x = true) (hxs : ∀ y ∈ xs, nb y = true ∧ okD y = true) (s : seqOf h y = some xs) : inD neg x y h = some (.bl (if neg then !decide (x ∈ xs) else decide (x ∈ xs)), h) := by
  unfold inD
  rw [s]
  dsimp only
  have q : (xs.any fun y => PyData.eqv (toP y) (toP x)) = decide (x ∈ xs) := by
    rw [Bool.eq_iff_iff, List.any_eq_true, decide_eq_true_eq]
    constructor
    · rintro ⟨y, m, e⟩
      rw [← (eqv_nb y x (hxs y m).1 hx).mp e]
      exact m
    · intro m
      exact ⟨x, m, (eqv_nb x x hx hx).mpr rfl⟩
  rw [if_pos ⟨ox, List.all_eq_true.mpr fun z m => (hxs z m).2⟩, q]
/-- a comprehension over typed items that leaves the heap alone -/
theorem wl_mapT {α : Type} (xs : List α) (emb : α → D) (c : α → Bool) (f : α → D) {it : Sm → M (List D × Src)} {g : D → Sm → Option Sm} {tt : Sm → M Bool} {el : Sm → M D} {vs : List Nat} {σ : Sm} {h : Hm} {Q : List D → Hm → Prop}
    (w : wp (it σ h) fun p h1 => p.1 = xs.map emb ∧ Chk p.1 p.2 h1 ∧ xs.length ≤ sizeLine ∧ (∀ x ∈ xs, ∃ σ1, g (emb x) (wipeM σ vs) = some σ1 ∧ tt σ1 h1 = some (c x, h1) ∧ (c x = true → el σ1 h1 = some (f x, h1))) ∧ Q ((xs.filter c).map f) h1) : wp (lcM it g tt el vs σ h) Q := by
  obtain ⟨p, h1, e1, ep, ck, hl, step, q⟩ := w
  refine wl_lc ⟨p, h1, e1, (fun l acc h2 => h2 = h1 ∧ ∃ ys : List α, l = ys.map emb ∧ (∀ x ∈ ys, x ∈ xs) ∧ acc ++ (ys.filter c).map f = (xs.filter c).map f), ⟨rfl, xs, ep, (fun _ m => m), rfl⟩, fun d r acc h2 ⟨e, ys, el_, m, ea⟩ => ?_, fun acc h2 ⟨e, ys, el_, _, ea⟩ => ?_⟩
  · subst e
    cases ys with
    | nil => cases el_
    | cons y ys =>
    injection el_ with e5 e6
    subst e5 e6
    obtain ⟨σ1, e2, e3, e4⟩ := step y (m y (by simp))
    refine ⟨ck, σ1, e2, _, _, e3, fun hc => ⟨rfl, ys, rfl, (fun x hx => m x (List.mem_cons_of_mem _ hx)), ?_⟩, fun hc => ⟨_, _, e4 hc, rfl, ys, rfl, (fun x hx => m x (List.mem_cons_of_mem _ hx)), ?_⟩⟩
    · rw [List.filter_cons, hc] at ea; exact ea
    · rw [List.filter_cons, hc] at ea
      rw [List.append_assoc]
      exact ea
  · subst e
    have ey : ys = [] := List.map_eq_nil_iff.mp el_.symm
    subst ey
    rw [List.filter_nil, List.map_nil, List.append_nil] at ea
    subst ea
    refine ⟨ck, ?_, q⟩
    rw [List.length_map]
    exact Nat.le_trans (List.length_filter_le _ _) hl
theorem filter_yes {α : Type} (xs : List α) : xs.filter (fun _ => true) = xs := List.filter_eq_self.mpr fun _ _ => rfl
theorem catD_of {h : Hm} {k j : Nat} {xs ys : List D} (ek : h[k]? = some (.lst xs)) (ej : h[j]? = some (.lst ys)) (hl : xs.length + ys.length ≤ sizeLine) : catD (.ref k) (.ref j) h = some (.ref h.length, h ++ [.lst (xs ++ ys)]) := by
  unfold catD
  dsimp only
  rw [ek, ej]
  exact if_pos hl
theorem eqD_of (i j : Int) (h : Hm) : eqD (.int i) (.int j) h = some (.bl (decide (i = j)), h) := congrFun (eqD_int i j) h
end ML

set_option Elab.async false
set_option linter.all false
set_option maxRecDepth 100000
set_option autoImplicit false
/-! ### xs[::-1], extend by a tuple, tuples multiplied, sums, lists compared -/
namespace ML
open PySem L2 PySem.W PySem.Spec PyProof.Rows
section
variable {prog : Program} {w : World} {A : Around} {E : Value → Shared → Prop} {s : Shared}
theorem filterMap_same {α β : Type} {f g : α → Option β} : ∀ {l : List α}, (∀ x ∈ l, f x = g x) → l.filterMap f = l.filterMap g
  | [], _ => rfl
  | x :: l, h => by
    rw [List.filterMap_cons, List.filterMap_cons, h x (by simp), filterMap_same fun y m => h y (List.mem_cons_of_mem _ m)]
theorem back_items (xs : Array Value) : ((List.range xs.size).filterMap fun (m : Nat) => xs[((xs.size : Int) - 1 + (m : Int) * -1).toNat]?).toArray = xs.toList.reverse.toArray := by
  have e1 : (List.range xs.size).filterMap (fun (m : Nat) => xs[((xs.size : Int) - 1 + (m : Int) * -1).toNat]?) = (List.range xs.size).filterMap ((fun (j : Nat) => xs[j]?) ∘ fun m => xs.size - 1 - m) := by
    refine filterMap_same fun m hm => ?_
    have := List.mem_range.mp hm
    show xs[((xs.size : Int) - 1 + (m : Int) * -1).toNat]? = xs[xs.size - 1 - m]?
    congr 1
    omega
  rw [e1, ← List.filterMap_map, krv_range, List.filterMap_reverse, krv_all]
theorem backApplied {sl : Addr} {a b c : Value} {n : Nat} {Q : Int × Int × Nat → Shared → Prop} (hs : s.heap.IsSliceOf sl a b c) (pa : IsPart a none) (pb : IsPart b none) (pc : IsPart c (some (-1))) (q : Q ((n : Int) - 1, -1, n) s) : wpAny (model prog w) A (Builtin.Slice.sliceApplied (.ref sl) (pure (n : Int))) Q E s := by
  obtain ⟨ob, look, isS, parts⟩ := id hs
  unfold Builtin.Slice.sliceApplied Builtin.Slice.sliceFields
  refine wpAny_bind (wpAny_bind (wpAny_field look parts (x := a) rfl (wpAny_bind (wpAny_field look parts (x := b) rfl (wpAny_bind (wpAny_field look parts (x := c) rfl (wpAny_pure ?_)))))))
  refine wpAny_bind (HT.slicePart_ pc ?_)
  show wpAny _ _ (if ((-1 : Int) == 0) = true then _ else _) _ _ s
  rw [if_neg (by decide)]
  refine wpAny_bind (HT.slicePart_ pa (wpAny_bind (HT.slicePart_ pb (wpAny_bind (wpAny_pure ?_)))))
  have adj : Builtin.Slice.sliceAdjust none none (-1) (n : Int) = ((n : Int) - 1, -1) := rfl
  have plc : Builtin.Slice.slicePlaces ((n : Int) - 1) (-1) (-1) = n := by
    unfold Builtin.Slice.slicePlaces
    rw [if_neg (by decide)]
    by_cases z : (n : Int) - 1 > -1
    · rw [if_pos z, show (- -1 : Int) = 1 by decide, Int.ediv_one]
      omega
    · rw [if_neg z]
      omega
  show wpAny _ _ (match Builtin.Slice.sliceAdjust none none (-1) (n : Int) with | (lo, hi) => pure (lo, (-1 : Int), Builtin.Slice.slicePlaces lo hi (-1))) _ _ s
  rw [adj]
  show wpAny _ _ (pure ((n : Int) - 1, (-1 : Int), Builtin.Slice.slicePlaces ((n : Int) - 1) (-1) (-1))) _ _ s
  rw [plc]
  exact wpAny_pure q
/-- t[::-1] -/
theorem getTupRev {tp sl : Addr} {its : Array Value} {a b c : Value} {Q : Value → Shared → Prop} (ht : IsTup s.heap tp its) (hs : s.heap.IsSliceOf sl a b c) (pa : IsPart a none) (pb : IsPart b none) (pc : IsPart c (some (-1))) (hz : its.size ≤ sizeLine)
    (q : Q (.ref s.heap.objs.size) { s with heap := s.heap.push { cls := .type "tuple", data := .seq its.toList.reverse.toArray } }) : wpAny (model prog w) A (getItem (.ref tp) (.ref sl)) Q E s := by
  have room : sizeOk (.seq its.toList.reverse.toArray) := by
    show its.toList.reverse.toArray.size ≤ sizeLine
    simpa using hz
  obtain ⟨ob, look, isS, parts⟩ := id hs
  have tS : s.TypeIs (.ref sl) "slice" := ⟨ob, look, isS⟩
  unfold getItem
  try with_reducible refine wpAny_holding ?_
  first | refine wpAny_bind (wpAny_pure ?_) | skip
  refine wpAny_bind (wpAny_sequenceKey ht.typeIs (by decide) ?_)
  refine wpAny_bind (wpAny_callSpecial?_slot (name := Str.ofString "__getitem__") ht.typeIs PyProof.Rows.slot_tuple_getitem (wpAny_call_entry PyProof.Rows.slot_tuple_getitem ht.typeIs entry_tuple_getitem ?_ (args_tuple_getitem _ _)))
  show wpAny _ _ (Builtin.Tuple.tupleItemsOf (.ref tp) >>= _) _ _ s
  refine wpAny_bind (tupleItemsOf_ ht ?_)
  refine wpAny_bind (wpAny_typeOf tS ?_)
  rw [if_pos (by decide)]
  refine wpAny_bind (backApplied hs pa pb pc ?_)
  have no : ¬ ((((its.size : Int) - 1) == 0 && (-1 : Int) == 1 && its.size == its.size) = true) := by
    intro z
    rw [Bool.and_eq_true, Bool.and_eq_true] at z
    exact absurd z.1.2 (by decide)
  show wpAny _ _ (if (((its.size : Int) - 1) == 0 && (-1 : Int) == 1 && its.size == its.size) = true then _ else _) _ _ s
  rw [if_neg no, back_items]
  first
    | exact wpAny_bind (m := Builtin.Tuple.tupleExact _) (wpAny_newObj_type (wpAny_pure ⟨_, rfl, wpAny_pure q⟩) room)
    | exact wpAny_bind (m := Builtin.Tuple.tupleExact _) (wpAny_newObj_type (wpAny_bind (wpAny_pure (wpAny_pure ⟨_, rfl, wpAny_pure q⟩))) room)
    | exact wpAny_bind (wpAny_bind (m := Builtin.Tuple.tupleExact _) (wpAny_newObj_type (wpAny_pure (wpAny_pure ⟨_, rfl, wpAny_pure q⟩)) room))
    | exact wpAny_bind (wpAny_bind (m := Builtin.Tuple.tupleExact _) (wpAny_newObj_type (wpAny_pure ⟨_, rfl, wpAny_pure q⟩) room))
end
/-! #### extend by a tuple -/
theorem ext_by_tuple (a : Addr) (xs : Array Value) (n : Nat) (c : Addr) (ys : Array Value) (m : Nat) (od : Option Addr) (ss : Array (Option Value)) (door : ¬(!xs.isEmpty && Builtin.List.listTooLong (xs.size + ys.size)) = true) (z1 : xs.size ≤ sizeLine) (z2 : xs.size + ys.size ≤ sizeLine + 1) :
    Meets (Builtin.«list.extend» ⟨[.ref a, .ref c], []⟩) (fun _ R st => st.heap.get? a = some { cls := .type "list", data := .seq xs n } ∧ st.heap.get? c = some ⟨.type "tuple", od, .seq ys m, ss⟩ ∧
      R (.ok (.ret Value.none)) { st with heap := st.heap.update a (Obj.mapSeq fun q => q ++ ys), toks := st.toks }) :=
  .of_wp fun prog w A R st whole => by
    obtain ⟨hp, gn, dr, tk, os⟩ := st
    obtain ⟨la, lc, fin⟩ := whole
    have f1 := AutoSeq1.idx_int; have f2 := AutoSeq1.sub_tuple_tuple; have f3 := AutoSeq1.sub_list_list; have f4 := AutoSeq1.sub_tuple_list; have f5 := AutoSeq1.sub_list_tuple
    have both : (xs ++ ys).size ≤ sizeLine + 1 := by rw [Array.size_append]; exact z2
    wp_walk using (wpAny_updateSeq la rfl (hz := z1) (_hz' := both)), wpAny_loadPart' la, wpAny_loadPart' lc
    exact ⟨_, rfl, fin⟩
def rExtT (K : PySem.W.Frag) : V → List V → Hp → VK → Prop := fun x vs H Q => ∃ a c xs ys, x = .ref a ∧ vs = [.ref c] ∧ H a = some (.lst xs) ∧ SqT K H c ys ∧ xs.length + ys.length ≤ sizeLine ∧ Q .non (upd H a (.lst (xs ++ ys)))
theorem mt_extT {X : Cx} : MtM X "list.extend" (rExtT X.K) := by
  intro pins st σ H x vs v us Q I rx rv whole
  obtain ⟨a, c, xs, ys, ex, evs, ha, hc, room, fin⟩ := whole
  subst ex evs
  cases rx
  obtain ⟨u, eu, ru⟩ := rv.one
  subst eu
  cases ru
  obtain ⟨z, its, n, r, hl, e⟩ := I.lstM ha
  obtain ⟨its2, r2, ⟨⟨cls, od, data, ss⟩, lc, isT, m, dt⟩, z2⟩ := I.tuple hc
  simp only at isT dt
  subst isT dt
  have l1 : its.length = xs.length := r.length.symm
  have l2 : its2.length = ys.length := r2.length.symm
  have sz : its.toArray.size + its2.toArray.size ≤ sizeLine := by rw [List.size_toArray, List.size_toArray, l1, l2]; exact room
  refine call_meets F.slot_list_extend ⟨_, e, rfl⟩ F.entry_list_extend (F.args_list_extend_2 _ _) (ext_by_tuple a its.toArray n c its2.toArray m od ss (by rw [notLongL sz, Bool.and_false]; exact Bool.false_ne_true) (by omega) (by omega)) ⟨e, lc, ?_⟩
  refine ⟨.non, _, I.lset (its' := its ++ its2) (t' := st.toks) ha e (by simp) (r.append r2) (by rw [List.length_append]; exact room), rfl, fin⟩
abbrev rExtA (K : PySem.W.Frag) : V → List V → Hp → VK → Prop := fun x vs H Q => rExtend x vs H Q ∨ rExtT K x vs H Q
section
variable {X : Cx}
/-- xs.extend(ys), ys a list of ours or a tuple -/
def exuL (o : D) (ds : List D) : M D := fun h => match ds with
  | [.tup ys] => (match o with
    | .ref k => (match h[k]? with
      | some (.lst xs) => if xs.length + ys.length ≤ sizeLine then some (.non, h.set k (.lst (xs ++ ys))) else none
      | _ => none)
    | _ => none)
  | _ => extL o ds h
theorem mt_exu : MtR X "list.extend" (rExtA X.K) := MtR.or mt_extend mt_extT
theorem ml_exu : MtL (tx X) (rExtA X.K) exuL := by
  intro ι H h x o xs ds d h1 Q r qo qs e k
  unfold exuL at e
  split at e
  · rename_i ys
    cases o with
    | ref kk =>
      have e : (match h[kk]? with
        | some (.lst xs) => if xs.length + ys.length ≤ sizeLine then some (D.non, h.set kk (.lst (xs ++ ys))) else none
        | _ => none) = some (d, h1) := e
      cases q2 : h[kk]? with
      | none => rw [q2] at e; cases e
      | some ob =>
        rw [q2] at e
        cases ob with
        | lst ws =>
          obtain ⟨a, zs, ex, ha, hz, qz⟩ := at_lst r qo q2
          obtain ⟨y, ey, qy⟩ := RVs1 qs
          rw [RV] at qy
          obtain ⟨c, vs, ec, hv, qv⟩ := qy
          have e : (if ws.length + ys.length ≤ sizeLine then some (D.non, h.set kk (.lst (ws ++ ys))) else none) = some (d, h1) := e
          by_cases hl : ws.length + ys.length ≤ sizeLine
          · rw [if_pos hl] at e
            obtain ⟨e1, e2⟩ := some_pair e
            subst e1 e2
            refine .inr ⟨a, c, zs, vs, ex, by rw [ey, ec], hz, hv, by rw [qz.length, qv.length]; exact hl, ?_⟩
            obtain ⟨x4, r4⟩ := r.put (u := .lst (zs ++ vs)) (o := .lst (ws ++ ys)) ha hz trivial fun up => ⟨_, upd_same, RVs.append (RVs.up up _ _ qz) (RVs.up up _ _ qv)⟩
            exact k _ _ _ x4 r4 (by rw [RV])
          · rw [if_neg hl] at e; cases e
        | _ => cases e
    | _ => cases e
  · exact .inl (ml_ext ι H h x o xs ds d h1 Q r qo qs e k)
/-! #### xs[::-1] -/
def tRevA (K : PySem.W.Frag) (te : TE) : TE := fun σ H Q => te σ H fun x H1 => ∃ a xs, x = .ref a ∧ ((SqL K H1 a xs ∧ ∀ p, H1 p = none → Q (.ref p) (upd H1 p (.lst xs.reverse))) ∨ (SqT K H1 a xs ∧ ∀ p, H1 p = none → Q (.ref p) (upd H1 p (.tup xs.reverse))))
theorem pe_revA {e : Expr} {te : TE} {k : Nat} {p1 p2 p3 pos : Pos} (he : PE X e te) : PE X (.Subscript e (.Slice none none (some (.UnaryOp .USub (.Constant (.int 1) k p1) p2)) p3) pos) (tRevA X.K te) := by
  refine ⟨fun pins st σ H Q I whole => ?_⟩
  refine Subscript_ (thn (he.run pins st σ H _ I whole) fun v s1 ⟨x, H1, I1, r1, a, xs, ex, alt⟩ => ?_)
  subst ex
  cases r1
  have step : PO X (some (.UnaryOp .USub (.Constant (.int 1) k p1) p2)) (tPart (tUn (rU fun i => .int (-i)) (tC (.int 1)))) := po_some (pe_un un_neg pe_int)
  refine wpAny_Slice (thn (po_none.run pins s1 σ H1 (fun o H2 => o = none ∧ H2 = H1) I1 ⟨rfl, rfl⟩) fun vl s2 ⟨l, H2, I2, pl, el, e2⟩ => ?_)
  subst el e2
  refine thn (po_none.run pins s2 σ H2 (fun o H3 => o = none ∧ H3 = H2) I2 ⟨rfl, rfl⟩) fun vu s3 ⟨u, H3, I3, pu, eu, e3⟩ => ?_
  subst eu e3
  refine thn (step.run pins s3 σ H3 (fun o H4 => o = some (-1) ∧ H4 = H3) I3 ⟨1, rfl, -1, rfl, rfl, rfl⟩) fun vs s4 ⟨o, H4, I4, ps, eo, e4⟩ => ?_
  subst eo e4
  have J : Inv X pins σ H4 { s4 with heap := s4.heap.push { cls := .type "slice", data := .fields #[vl, vu, vs] } } := I4.kept (t' := s4.toks) fun b ob q => Heap.get?_push_of_some _ q
  show wpAny (model X.prog X.w) X.A (subscriptTail e (.Slice none none (some (.UnaryOp .USub (.Constant (.int 1) k p1) p2)) p3) (.ref a) (.ref s4.heap.objs.size)) (EP X pins σ Q) X.xe _
  rcases alt with ⟨hx, fin⟩ | ⟨hx, fin⟩
  · obtain ⟨its, r, ht, hz⟩ := J.list hx
    have ll := r.length
    refine tail_any (ops := [.ref a, .ref s4.heap.objs.size]) ht.isList.typeIs PySem.slot_list_getitem.lookup ?_ (by with_unfolding_all rfl)
    refine wpAny_getItem_list_slice ht.isList (Heap.IsSliceOf.new _ vl vu vs) pl pu ps (by decide) ?_ (by rw [List.size_toArray]; omega)
    rw [PySem.W.krv_pick]
    refine ⟨.ref _, _, J.laid (t' := s4.toks) (o := .lst xs.reverse) (fun b ob q => Heap.get?_push_of_some _ q) (Nat.le_refl _) ⟨by rw [List.length_reverse]; exact hz, _, 0, r.reverse, Heap.get?_push_size _ rfl⟩, rfl, fin _ (J.hok.fresh (Nat.le_refl _))⟩
  · obtain ⟨its, r, ht, hz⟩ := J.tuple hx
    have ll := r.length
    refine tail_any (ops := [.ref a, .ref s4.heap.objs.size]) ht.typeIs PyProof.Rows.slot_tuple_getitem.lookup ?_ (by with_unfolding_all rfl)
    refine getTupRev ht (Heap.IsSliceOf.new _ vl vu vs) pl pu ps (by rw [List.size_toArray]; omega) ?_
    refine ⟨.ref _, _, J.laid (t' := s4.toks) (o := .tup xs.reverse) (fun b ob q => Heap.get?_push_of_some _ q) (Nat.le_refl _) ⟨by rw [List.length_reverse]; exact hz, _, r.reverse, IsTup.new _ _⟩, rfl, fin _ (J.hok.fresh (Nat.le_refl _))⟩
def revD (d : D) : M D := fun h => match d with
  | .tup xs => some (.tup xs.reverse, h)
  | .ref k => (match h[k]? with
    | some (.lst xs) => some (.ref h.length, h ++ [.lst xs.reverse])
    | _ => none)
  | _ => none
theorem RVs.reverse {T : Tx} {ι : List Addr} {H : Hp} : ∀ {ds : List D} {xs : List V}, RVs T ι H ds xs → RVs T ι H ds.reverse xs.reverse
  | [], xs, r => by rw [RVs] at r; subst r; rw [List.reverse_nil, List.reverse_nil, RVs]
  | d :: ds, xs, r => by
    rw [RVs] at r
    obtain ⟨x, s, e, q1, q2⟩ := r
    subst e
    rw [List.reverse_cons, List.reverse_cons]
    exact RVs.append (RVs.reverse q2) (by rw [RVs]; exact ⟨x, [], rfl, q1, by rw [RVs]⟩)
theorem m_rev {e : Expr} {m : Sm → M D} {k : Nat} {p1 p2 p3 pos : Pos} (he : PE X e (lf (tx X) m)) : PE X (.Subscript e (.Slice none none (some (.UnaryOp .USub (.Constant (.int 1) k p1) p2)) p3) pos) (lf (tx X) (op1M revD m)) := (pe_revA he).imp fun σ H Q q => by
  obtain ⟨ι, σm, h, d, h1, r, rs, e, k⟩ := q
  refine lf_then r rs e (P := fun ι2 H2 => ∀ v, Rl (tx X) ι2 H2 h1 → RV (tx X) ι2 H2 d v → Q v H2) (fun ι2 H2 y v => k ι2 H2 v y) fun ι1 H1 x da h' x1 r1 rs1 q1 e1 k1 => ?_
  cases da with
  | tup ds =>
    obtain ⟨e2, e3⟩ := some_pair e1
    subst e2 e3
    rw [RV] at q1
    obtain ⟨a, xs, ea, s, q⟩ := q1
    refine ⟨a, xs, ea, .inr ⟨s, fun p hp => ?_⟩⟩
    obtain ⟨x3, r3, q3⟩ := new_tup r1 hp (RVs.reverse q)
    exact k1 _ _ x3 _ r3 q3
  | ref kk =>
    have e1 : (match h'[kk]? with | some (.lst xs) => some (D.ref h'.length, h' ++ [O.lst xs.reverse]) | _ => none) = some (d, h1) := e1
    cases q2 : h'[kk]? with
    | none => rw [q2] at e1; cases e1
    | some ob =>
      rw [q2] at e1
      cases ob with
      | lst ds =>
        obtain ⟨e2, e3⟩ := some_pair e1
        subst e2 e3
        obtain ⟨a, ys, ex, _, hy, q⟩ := at_lst r1 q1 q2
        refine ⟨a, ys, ex, .inl ⟨SqL.of hy, fun p hp => ?_⟩⟩
        obtain ⟨xn, rn⟩ := r1.new (u := .lst ys.reverse) (o := .lst ds.reverse) hp fun up => ⟨_, upd_same, RVs.up up _ _ (RVs.reverse q)⟩
        exact k1 _ _ xn _ rn (by rw [RV]; exact ⟨p, new_at r1 p, rfl⟩)
      | _ => cases e1
  | _ => cases e1
/-! #### sum -/
def intsD : List D → Option (List Int)
  | [] => some []
  | .int i :: r => (intsD r).map (i :: ·)
  | _ => none
theorem ints_of {T : Tx} {ι : List Addr} {H : Hp} : ∀ {ds : List D} {ns : List Int} {xs : List V}, intsD ds = some ns → RVs T ι H ds xs → xs = ns.map V.int
  | [], ns, xs, e, q => by cases e; rw [RVs] at q; exact q
  | d :: ds, ns, xs, e, q => by
    cases d with
    | int i =>
      have e : (intsD ds).map (i :: ·) = some ns := e
      obtain ⟨ms, e1, e2⟩ := Option.map_eq_some_iff.mp e
      subst e2
      rw [RVs] at q
      obtain ⟨x, s, ex, q1, q2⟩ := q
      rw [RV] at q1
      rw [ex, q1, ints_of e1 q2]
      rfl
    | _ => cases e
def sumL : List D → M D := fun ds => match intsD ds with
  | some ns => pure (.int ns.sum)
  | none => M.bad
theorem cl_sum : CallL (tx X) (rSum X.K) sumL := by
  intro ι H h a xs ds d h1 Q r na ea q e k
  unfold sumL at e
  cases q1 : intsD ds with
  | none => rw [q1] at e; cases e
  | some ns =>
    rw [q1] at e
    exact ⟨a, ns, rfl, SqL.of (by rw [ea, ints_of q1 q]), fin0 r e (by rw [RV]) k⟩
/-! #### lists compared -/
def lpP (h : Hm) : D → PyData
  | .ref k => (match h[k]? with
    | some (.lst xs) => .list (toPs xs)
    | _ => .dict [])
  | .fro xs => .list (toPs xs)
  | d => toP d
theorem lp_dp {T : Tx} {ι : List Addr} {H : Hp} {h : Hm} {d : D} {x : V} (r : Rl T ι H h) (q : RV T ι H d x) (c : SeqAt.shaped (lpP h d) = true) : Dp T.K H x (lpP h d) := by
  have lay := SeqAt.canLay_of_shaped c
  unfold lpP at lay ⊢
  cases d with
  | ref k =>
    dsimp only at lay ⊢
    cases q2 : h[k]? with
    | none => rw [q2] at lay; simp [PyData.canLay0] at lay
    | some ob =>
      rw [q2] at lay
      cases ob with
      | lst xs =>
        obtain ⟨a, ys, ex, _, hy, qs⟩ := at_lst r q q2
        subst ex
        exact Dp.lst (SqL.of hy) (dps_of xs ys qs (by simpa [PyData.canLay0] using lay))
      | _ => simp [PyData.canLay0] at lay
  | fro xs =>
    rw [RV] at q
    obtain ⟨a, ys, ea, s, qs⟩ := q
    subst ea
    exact Dp.lst s.sq (dps_of xs ys qs (by simpa [PyData.canLay0] using lay))
  | _ => exact dp_of _ _ q lay
def eqLD (a b : D) : M D := fun h => if SeqAt.shaped (lpP h a) = true ∧ SeqAt.shaped (lpP h b) = true then some (.bl (PyData.eqv (lpP h a) (lpP h b)), h) else none
def neLD (a b : D) : M D := fun h => if SeqAt.shaped (lpP h a) = true ∧ SeqAt.shaped (lpP h b) = true then some (.bl (!PyData.eqv (lpP h a) (lpP h b)), h) else none
theorem o2_eqL : Op2 (tx X) (rEqD X.K) eqLD := by
  intro ι H h x y a b d h1 Q r qa qb e k
  unfold eqLD at e
  by_cases c : SeqAt.shaped (lpP h a) = true ∧ SeqAt.shaped (lpP h b) = true
  · rw [if_pos c] at e
    obtain ⟨e1, e2⟩ := some_pair e
    subst e1 e2
    exact ⟨_, _, lp_dp r qa c.1, lp_dp r qb c.2, c.1, c.2, k _ _ _ (Ex.refl _ _) r (by rw [RV])⟩
  · rw [if_neg c] at e; cases e
theorem o2_neL : Op2 (tx X) (rNeD X.K) neLD := by
  intro ι H h x y a b d h1 Q r qa qb e k
  unfold neLD at e
  by_cases c : SeqAt.shaped (lpP h a) = true ∧ SeqAt.shaped (lpP h b) = true
  · rw [if_pos c] at e
    obtain ⟨e1, e2⟩ := some_pair e
    subst e1 e2
    exact ⟨_, _, lp_dp r qa c.1, lp_dp r qb c.2, c.1, c.2, k _ _ _ (Ex.refl _ _) r (by rw [RV])⟩
  · rw [if_neg c] at e; cases e
end
end ML

set_option Elab.async false
set_option linter.all false
set_option maxRecDepth 100000
set_option autoImplicit false
set_option maxHeartbeats 4000000
/-! ### a tuple times 0, 1, 2 .. -/
namespace ML
open PySem L2 PySem.W PySem.Spec PyProof.Rows
/-- times 1: itself -/
theorem mulTup1 (a : Addr) (xs : Array Value) (n : Nat) (od : Option Addr) (ss : Array (Option Value)) (u : Tok) :
    Meets (Builtin.«tuple.__mul__» ⟨[.ref a, .int 1 u], []⟩) (fun _ R st => st.heap.get? a = some ⟨.type "tuple", od, .seq xs n, ss⟩ ∧ R (.ok (.ret (Value.ref a))) st) :=
  .of_wp fun prog w A R st whole => by
    obtain ⟨hp, gn, dr, tk, os⟩ := st
    obtain ⟨la, fin⟩ := whole
    have f1 := AutoSeq1.idx_int
    have c1 : (xs.isEmpty || (1 : Int) == 1) = true := by simp
    wp_walk using wpAny_loadPart' la
    exact ⟨_, rfl, fin⟩
/-- times 0: the empty one -/
theorem mulTup0 (a : Addr) (xs : Array Value) (n : Nat) (od : Option Addr) (ss : Array (Option Value)) (u : Tok) (ne : xs.isEmpty = false) :
    Meets (Builtin.«tuple.__mul__» ⟨[.ref a, .int 0 u], []⟩) (fun _ R st => st.heap.get? a = some ⟨.type "tuple", od, .seq xs n, ss⟩ ∧
      R (.ok (.ret (Value.ref st.heap.objs.size))) { st with heap := st.heap.push { cls := Value.type "tuple", data := Data.seq #[] }, toks := st.toks }) :=
  .of_wp fun prog w A R st whole => by
    obtain ⟨hp, gn, dr, tk, os⟩ := st
    obtain ⟨la, fin⟩ := whole
    have f1 := AutoSeq1.idx_int
    have c1 : (xs.isEmpty || (0 : Int) == 1) = false := by rw [ne]; rfl
    wp_walk using wpAny_loadPart' la
    exact ⟨_, rfl, fin⟩
def rMulT (K : PySem.W.Frag) : R2 := fun x y H Q => ∃ a k xs, x = .ref a ∧ y = .int k ∧ SqT K H a xs ∧ xs ≠ [] ∧ 0 ≤ k ∧ k ≤ 1000 ∧ xs.length ≤ 1000 ∧ (k = 1 → Q (.ref a) H) ∧ (k ≠ 1 → ∀ p, H p = none → Q (.ref p) (upd H p (.tup (List.replicate k.toNat xs).flatten)))
theorem op_mulT {X : Cx} : OpR X (binaryOp .Mult) (rMulT X.K) := by
  intro pins st σ H x y v u Q I rx ry whole
  obtain ⟨a, k, xs, rfl, rfl, hT, ne, k0, k1, z, q1, q2⟩ := whole
  by_cases two : 2 ≤ k
  · exact op_repT pins st σ H _ _ v u Q I rx ry ⟨a, k, xs, rfl, rfl, hT, ne, two, k1, z, q2 (by omega)⟩
  cases rx
  obtain ⟨t, rfl⟩ := ry
  obtain ⟨its, r, ⟨⟨cls, od, data, ss⟩, la, isT, n, dt⟩, _⟩ := I.tuple hT
  simp only at isT dt
  subst isT dt
  have e0 : its.toArray.isEmpty = false := by
    cases its with
    | nil => exact absurd (List.eq_nil_of_length_eq_zero r.length) ne
    | cons _ _ => rfl
  have cases2 : k = 1 ∨ k = 0 := by omega
  rcases cases2 with e | e <;> subst e
  · refine wpAny_binaryOp_repeat_ref (T := "tuple") (U := "int") (by decide) ⟨_, la, rfl⟩ (fun s' => typeIs_int s' 1 t) noFill_tuple_mul F.fills_int_mul F.slot_int_rmul repeat_tuple F.slot_int_index.lookup ?_
    refine call_meets F.slot_int_rmul (typeIs_int st 1 t) F.entry_int_rmul (F.args_int_rmul_2 _ _) (int_rmul_tuple 1 t a its.toArray n od ss) ⟨la, rfl, ⟨_, la, rfl⟩, ?_⟩
    exact call_meets F.slot_tuple_mul ⟨_, la, rfl⟩ F.entry_tuple_mul (F.args_tuple_mul_2 _ _) (mulTup1 a its.toArray n od ss t) ⟨la, .ref a, H, I, rfl, q1 rfl⟩
  · refine wpAny_binaryOp_repeat_ref (T := "tuple") (U := "int") (by decide) ⟨_, la, rfl⟩ (fun s' => typeIs_int s' 0 t) noFill_tuple_mul F.fills_int_mul F.slot_int_rmul repeat_tuple F.slot_int_index.lookup ?_
    refine call_meets F.slot_int_rmul (typeIs_int st 0 t) F.entry_int_rmul (F.args_int_rmul_2 _ _) (int_rmul_tuple 0 t a its.toArray n od ss) ⟨la, rfl, ⟨_, la, rfl⟩, ?_⟩
    refine call_meets F.slot_tuple_mul ⟨_, la, rfl⟩ F.entry_tuple_mul (F.args_tuple_mul_2 _ _) (mulTup0 a its.toArray n od ss t e0) ⟨la, ?_⟩
    refine ⟨.ref st.heap.objs.size, _, I.laid (t' := st.toks) (o := .tup []) (fun b ob q => Heap.get?_push_of_some _ q) (Nat.le_refl _) ⟨Nat.zero_le _, [], .nil, IsTup.new _ _⟩, rfl, q2 (by decide) _ (I.hok.fresh (Nat.le_refl _))⟩
/-- t * n: times a number that is small -/
def mutD : D → D → M D
  | .tup xs, .int k => if xs ≠ [] ∧ 0 ≤ k ∧ k ≤ 1000 ∧ xs.length ≤ 1000 then pure (.tup (List.replicate k.toNat xs).flatten) else M.bad
  | _, _ => M.bad
theorem RVs.rep {T : Tx} {ι : List Addr} {H : Hp} {ds : List D} {xs : List V} (r : RVs T ι H ds xs) : ∀ k : Nat, RVs T ι H (List.replicate k ds).flatten (List.replicate k xs).flatten
  | 0 => by
    show RVs T ι H [] []
    rw [RVs]
  | k + 1 => by
    rw [List.replicate_succ, List.replicate_succ, List.flatten_cons, List.flatten_cons]
    exact RVs.append r (RVs.rep r k)
theorem o2_mut {X : Cx} : Op2 (tx X) (rMulT X.K) mutD := by
  intro ι H h x y a b d h1 Q r qa qb e k
  unfold mutD at e
  split at e
  · rename_i ds j
    obtain ⟨c, e1, e2⟩ := ifp (a := .tup (List.replicate j.toNat ds).flatten) e
    subst e1 e2
    obtain ⟨c1, c2, c3, c4⟩ := c
    rw [RV] at qa
    rw [RV] at qb
    obtain ⟨p, xs, ep, s, q⟩ := qa
    have ne : xs ≠ [] := fun z => c1 (by
      have := q.length
      rw [z] at this
      exact List.eq_nil_of_length_eq_zero this.symm)
    refine ⟨p, j, xs, ep, qb, s, ne, c2, c3, by rw [q.length]; exact c4, fun e1 => ?_, fun _ l hl => ?_⟩
    · subst e1
      refine k _ _ _ (Ex.refl _ _) r ?_
      have e2 : (List.replicate (1 : Int).toNat ds).flatten = ds := by simp
      rw [e2]
      show RV (tx X) ι H (.tup ds) (.ref p)
      rw [RV]
      exact ⟨p, xs, rfl, s, q⟩
    · obtain ⟨x3, r3, q3⟩ := new_tup r hl (RVs.rep q j.toNat)
      exact k _ _ _ x3 r3 q3
  · cases e
/-! #### a, b = x, y -/
def parS (i j : Nat) (ms : Sm → M (List D)) : Sm → M Fl := fun σ => ms σ >>= fun ds => match ds with
  | [a, b] => pure (.nx ((σ.set i (some a)).set j (some b)))
  | _ => M.bad
theorem s_par {X : Cx} {ms : Sm → M (List D)} (i j : Nat) {x y : Str} {a b : Expr} {px py pt pos : Pos} {kt k2 : Nat} {pt2 : Pos} (hc : X.calm = true) (hN : X.N.Nodup) (hi : X.N[i]? = some x) (hj : X.N[j]? = some y) (hij : i ≠ j)
    (hx : X.env.scope.names.lookup x = some .local) (hy : X.env.scope.names.lookup y = some .local) (ha : PA X [a, b] (lfA (tx X) ms))
    (hw : swappedStores [.Tuple [.Name x px, .Name y py] kt pt] (.Tuple [a, b] k2 pt2) X.env = pure (some [x, y]) := by rfl)
    (hs : swapsWithSole [.Tuple [.Name x px, .Name y py] kt pt] (.Tuple [a, b] k2 pt2) pos.line X.env = pure false := by rfl) :
    PS X (.Assign [.Tuple [.Name x px, .Name y py] kt pt] (.Tuple [a, b] k2 pt2) pos) (lfS (tx X) (parS i j ms)) := (ps_par hc hN hi hj hij hx hy ha hw hs).imp fun D σ H q => by
  obtain ⟨ι, σm, h, f, h1, r, rs, e, k⟩ := q
  obtain ⟨ds, h2, e1, e2⟩ := bind_some e
  refine ⟨ι, σm, h, ds, h2, r, rs, e1, fun ι1 H1 vs x1 r1 q1 => ?_⟩
  match ds, q1, e2 with
  | [], _, e2 => cases e2
  | [_], _, e2 => cases e2
  | _ :: _ :: _ :: _, _, e2 => cases e2
  | [a, b], q1, e2 =>
    obtain ⟨e3, e4⟩ := pure_some e2
    subst e3 e4
    rw [RVs] at q1
    obtain ⟨v, s, es, qv, q2⟩ := q1
    rw [RVs] at q2
    obtain ⟨w, s2, es2, qw, q3⟩ := q2
    rw [RVs] at q3
    subst es es2 q3
    exact ⟨v, w, rfl, k ι1 H1 x1 r1 _ (((rs.up (x1.up r)).set i qv).set j qw)⟩
theorem ws_par {σ : Sm} {h : Hm} {N B C : Sm → Hm → Prop} {R : D → Hm → Prop} {i j : Nat} {ms : Sm → M (List D)} (w : wp (ms σ h) fun ds h1 => ∃ a b, ds = [a, b] ∧ N ((σ.set i (some a)).set j (some b)) h1) : wpS (parS i j ms σ h) N R B C := by
  obtain ⟨ds, h1, e, a, b, rfl, q⟩ := w
  exact ⟨_, h1, bind_of e, q⟩
end ML

set_option Elab.async false
set_option linter.all false
set_option maxRecDepth 100000
set_option autoImplicit false
namespace ML
open PySem L2
/-! ### dicts whose keys are tuples: look-ups -/
/-- what a look-up finds -/
theorem TRs.found {T : Tx} {ι : List Addr} {H : Hp} {key : D} {nk : NestedKey} (hk : kN key = some nk) : ∀ {kvs : List (D × D)} {xs : List (NestedKey × Addr × Value)}, TRs T ι H kvs xs →
    (∀ d, getK kvs key = some d → ∃ p v, atKey xs nk = some p ∧ RV T ι H d v ∧ RelV v p.2) ∧ (getK kvs key = none → atKey xs nk = none)
  | [], xs, r => by have e : xs = [] := r; subst e; exact ⟨(fun _ z => by cases z), fun _ => rfl⟩
  | p :: kvs, xs, r => by
    obtain ⟨nk', b, u, v, s', e, e1, e2, q1, q2, q3, t⟩ := r
    subst e
    have ih := TRs.found hk t
    by_cases hp : p.1 = key
    · have : nk' = nk := by rw [hp, hk] at e1; exact (Option.some.inj e1).symm
      subst this
      refine ⟨fun d z => ⟨(b, u), v, by simp [atKey], ?_, q3⟩, fun z => ?_⟩
      · simp [getK, List.find?_cons, hp] at z
        subst z
        exact q2
      · simp [getK, List.find?_cons, hp] at z
    · have : ¬ nk' = nk := fun z => hp (kN_inj _ _ nk (by rw [e1, z]) hk)
      have l : getK (p :: kvs) key = getK kvs key := by simp [getK, List.find?_cons, hp]
      have l2 : atKey ((nk', b, u) :: s') nk = atKey s' nk := by simp [atKey, List.find?_cons, this]
      rw [l, l2]
      exact ih
def ixT (o key : D) : M D := fun h => match o with
  | .ref k => (match h[k]? with
    | some (.tdc kvs) => if isTK key = true then (getK kvs key).map fun d => (d, h) else none
    | some (.ltdc kvs) => if isTK key = true then (getK kvs key).map fun d => (d, h) else none
    | _ => none)
  | _ => none
def rIxT (X : Cx) : R2 := fun x y H Q => ∃ ι d dv nk a b kvs xs, RV (tx X) ι H d y ∧ y = .ref b ∧ kN d = some nk ∧ nk.depth ≤ 8 ∧ x = .ref a ∧ RdT X H a xs ∧ TRs (tx X) ι H kvs xs ∧ getK kvs d = some dv ∧ ∀ v, RV (tx X) ι H dv v → Q v H
section
variable {X : Cx}
theorem x_ixT (hu : X.A.units + 100 < cLine) : IxR X (rIxT X) := by
  intro value slice pins s σ H x y v u Q I rx ry h hs
  obtain ⟨ι, d, dv, nk, a, b, kvs, xs, q, rfl, ek, dk, rfl, hy, t, eg, fin⟩ := h
  cases rx
  cases ry
  obtain ⟨t1, t2, t3⟩ := td_heap I hy t
  obtain ⟨p, w, ep, qv, rw'⟩ := (TRs.found ek t).1 _ eg
  refine PyProof.Rows.tail_any (Heap.DictKeyed.typeIs (kvs := pairsH xs) ⟨xs, t3, rfl⟩) PySem.F.slot_dict_getitem.lookup (wpAny_getItem_heap (roomN hu) ⟨nested_of I d nk _ _ ek q rfl, dk⟩ t3 ep ?_) hs
  exact ⟨w, H, I.tok _, rw', fin w qv⟩
theorem o2_ixT : Op2 (tx X) (rIxT X) ixT := by
  intro ι H h x y a b d h1 Q r qa qb e k
  unfold ixT at e
  cases a with
  | ref kk =>
    have go : ∀ kvs, (h[kk]? = some (.tdc kvs) ∨ h[kk]? = some (.ltdc kvs)) → (if isTK b = true then (getK kvs b).map fun d => (d, h) else none) = some (d, h1) → rIxT X x y H Q := fun kvs q2 e => by
      by_cases c : isTK b = true
      · rw [if_pos c] at e
        obtain ⟨dv, eg, e1⟩ := Option.map_eq_some_iff.mp e
        injection e1 with e1 e2
        subst e1 e2
        obtain ⟨ds, nk, ed, ek, dk⟩ := isTK_of c
        subst ed
        obtain ⟨p, xs, ep, hy, q⟩ := at_rtd r qa q2
        have q0 := qb
        rw [RV] at q0
        obtain ⟨b, zs, eb, _, _⟩ := q0
        exact ⟨ι, .tup ds, dv, nk, p, b, kvs, xs, qb, eb, ek, dk, ep, hy, q, eg, fun v qv => k _ _ _ (Ex.refl _ _) r qv⟩
      · rw [if_neg c] at e; cases e
    dsimp only at e
    cases q2 : h[kk]? with
    | none => rw [q2] at e; cases e
    | some ob =>
      rw [q2] at e
      cases ob with
      | tdc kvs => exact go kvs (.inl q2) e
      | ltdc kvs => exact go kvs (.inr q2) e
      | _ => cases e
  | _ => cases e
/-! #### d.get(k, x), d.setdefault(k, x) -/
def isTd (d : D) : M D := fun h => match d with
  | .ref k => (match h[k]? with
    | some (.tdc _) => some (d, h)
    | some (.ltdc _) => some (d, h)
    | _ => none)
  | _ => none
theorem isTd_of {ι : List Addr} {H : Hp} {h h1 : Hm} {x : V} {d d1 : D} (r : Rl (tx X) ι H h) (q : RV (tx X) ι H d x) (e : isTd d h = some (d1, h1)) : d1 = d ∧ h1 = h ∧ ∃ a kvs xs, x = .ref a ∧ RdT X H a xs ∧ TRs (tx X) ι H kvs xs := by
  unfold isTd at e
  cases d with
  | ref k =>
    dsimp only at e
    have go : ∀ kvs, (h[k]? = some (.tdc kvs) ∨ h[k]? = some (.ltdc kvs)) → some (D.ref k, h) = some (d1, h1) → d1 = .ref k ∧ h1 = h ∧ ∃ a kvs xs, x = .ref a ∧ RdT X H a xs ∧ TRs (tx X) ι H kvs xs := fun kvs q2 e => by
      obtain ⟨e1, e2⟩ := some_pair e
      obtain ⟨a, xs, ex, hy, t⟩ := at_rtd r q q2
      exact ⟨e1.symm, e2.symm, a, kvs, xs, ex, hy, t⟩
    cases q2 : h[k]? with
    | none => rw [q2] at e; cases e
    | some o =>
      rw [q2] at e
      cases o with
      | tdc kvs => exact go kvs (.inl q2) e
      | ltdc kvs => exact go kvs (.inr q2) e
      | _ => cases e
  | _ => cases e
def met2T (g : D → D → D → M D) (mo mk mx : Sm → M D) : Sm → M D := fun σ => mo σ >>= isTd >>= fun d => mk σ >>= fun k => mx σ >>= fun x => g d k x
def get2T (o key x : D) : M D := fun h => match o with
  | .ref k => (match h[k]? with
    | some (.tdc kvs) => if isTK key = true then some ((getK kvs key).getD x, h) else none
    | some (.ltdc kvs) => if isTK key = true then some ((getK kvs key).getD x, h) else none
    | _ => none)
  | _ => none
def setd2T (o key x : D) : M D := fun h => match o with
  | .ref k => (match h[k]? with
    | some (.tdc kvs) => if isTK key = true ∧ kvs.length < sizeLine then (match getK kvs key with
      | some v => some (v, h)
      | none => some (x, h.set k (.tdc (putKD kvs key x)))) else none
    | _ => none)
  | _ => none
variable {o e f : Expr} {mo mk mx : Sm → M D} {apos cpos : Pos}
/-- the frame of both -/
theorem m_met2T {g : D → D → D → M D} {nm : Str} {id : String} (sl : Slot "dict" nm id) (ty : typeOf (.builtin id) = pure (.type "method_descriptor"))
    (op : ∀ {pins : List (Addr × Obj)} {s : Shared} {σ : St} {H : Hp} {ι : List Addr} {h h1 : Hm} {kk : Nat} {kd xd d : D} {a : Addr} {y z : V} {yv zv : Value} {E : Value → Shared → Prop} {Q : VK}, Inv X pins σ H s → Rl (tx X) ι H h → RV (tx X) ι H (.ref kk) (.ref a) → RV (tx X) ι H kd y → RV (tx X) ι H xd z → RelV y yv → RelV z zv → g (.ref kk) kd xd h = some (d, h1) →
      (∀ ι1 H1 v, Ex ι H ι1 H1 → Rl (tx X) ι1 H1 h1 → RV (tx X) ι1 H1 d v → Q v H1) → wpAny (model X.prog X.w) X.A (call (.builtin id) [.ref a, yv, zv]) (EP X pins σ Q) E s)
    (ho : PE X o (lf (tx X) mo)) (he : PE X e (lf (tx X) mk)) (hf : PE X f (lf (tx X) mx)) (m : M2 X o nm apos e f cpos) : PE X (.Call (.Attribute o nm apos) [e, f] [] cpos) (lf (tx X) (met2T g mo mk mx)) := by
  refine ⟨fun pins s σ H Q I q => ?_⟩
  obtain ⟨ι, σm, h, d, h1, r, rs, ee, k⟩ := q
  obtain ⟨d1, h2, e1, e2⟩ := bind_some ee
  obtain ⟨d0, h0, e3, e4⟩ := bind_some e1
  refine wpAny_Call_method m.base m.few m.line PySem.F.plainAttrs_dict sl ty (thn (ho.run pins s σ H (fun x H1 => ∃ ι1, Ex ι H ι1 H1 ∧ Rl (tx X) ι1 H1 h0 ∧ RV (tx X) ι1 H1 d0 x) I ⟨ι, σm, h, d0, h0, r, rs, e3, fun ι1 H1 x x1 r1 q1 => ⟨ι1, x1, r1, q1⟩⟩) fun u s1 ⟨x, H1, I1, rx, ι1, x1, r1, q1⟩ => ?_)
  obtain ⟨ed, eh, a, kvs, xs, ex, hy, t⟩ := isTd_of r1 q1 e4
  subst ed eh ex
  obtain rfl : u = Value.ref a := rx
  obtain ⟨t1, t2, t3⟩ := td_heap I1 hy t
  refine ⟨Heap.DictKeyed.typeIs (kvs := pairsH xs) ⟨xs, t3, rfl⟩, PyProof.Rows.dictOfH_noDict t3, ?_⟩
  rw [m.trees]
  obtain ⟨kd, h3, e5, e6⟩ := bind_some e2
  obtain ⟨xd, h4, e7, e8⟩ := bind_some e6
  refine Calls.callWith_builtin rfl (Calls.evalArgs_plain (Calls.spliced_cons (thn (he.run pins s1 σ H1 (fun y H2 => ∃ ι2, Ex ι1 H1 ι2 H2 ∧ Rl (tx X) ι2 H2 h3 ∧ RV (tx X) ι2 H2 kd y) I1 ⟨ι1, σm, h2, kd, h3, r1, rs.up (x1.up r), e5, fun ι2 H2 y x2 r2 q2 => ⟨ι2, x2, r2, q2⟩⟩) fun iv s2 ⟨y, H2, I2, ry, ι2, x2, r2, q2⟩ =>
    Calls.spliced_cons (thn (hf.run pins s2 σ H2 (fun z H3 => ∃ ι3, Ex ι2 H2 ι3 H3 ∧ Rl (tx X) ι3 H3 h4 ∧ RV (tx X) ι3 H3 xd z) I2 ⟨ι2, σm, h3, xd, h4, r2, (rs.up (x1.up r)).up (x2.up r1), e7, fun ι3 H3 z x3 r3 q3 => ⟨ι3, x3, r3, q3⟩⟩) fun fv s3 ⟨z, H3, I3, rz, ι3, x3, r3, q3⟩ => Calls.spliced_nil ?_))))
  have q1' := RV.up (x3.up r2) _ _ (RV.up (x2.up r1) _ _ q1)
  have q2' := RV.up (x3.up r2) _ _ q2
  have x03 := (x1.trans r1 x2).trans r2 x3
  cases d1 with
  | ref kk => exact op I3 r3 q1' q2' q3 ry rz e8 fun ι4 H4 v x4 r4 q4 => k _ _ v (x03.trans r3 x4) r4 q4
  | _ => cases e4
theorem m_get2T (hu : X.A.units + 100 < cLine) (ho : PE X o (lf (tx X) mo)) (he : PE X e (lf (tx X) mk)) (hf : PE X f (lf (tx X) mx)) (m : M2 X o "get" apos e f cpos) : PE X (.Call (.Attribute o "get" apos) [e, f] [] cpos) (lf (tx X) (met2T get2T mo mk mx)) := by
  refine m_met2T PySem.F.slot_dict_get PySem.F.type_dict_get ?_ ho he hf m
  intro pins s σ H ι h h1 kk kd xd d a y z yv zv E Q I r qo qk qx ry rz e k
  have go : ∀ kvs, (h[kk]? = some (.tdc kvs) ∨ h[kk]? = some (.ltdc kvs)) → (if isTK kd = true then some ((getK kvs kd).getD xd, h) else none) = some (d, h1) → wpAny (model X.prog X.w) X.A (call (.builtin "dict.get") [.ref a, yv, zv]) (EP X pins σ Q) E s := fun kvs q2 e => by
    by_cases c : isTK kd = true
    · rw [if_pos c] at e
      obtain ⟨e1, e2⟩ := some_pair e
      subst e1 e2
      obtain ⟨ds, nk, ed, ek, dk⟩ := isTK_of c
      subst ed
      obtain ⟨p, xs, ep, hy, t⟩ := at_rtd r qo q2
      injection ep with ep
      subst ep
      have q0 := qk
      rw [RV] at q0
      obtain ⟨b, zs, eb, _, _⟩ := q0
      subst eb
      cases ry
      obtain ⟨t1, t2, t3⟩ := td_heap I hy t
      have fd := TRs.found ek t
      refine getOr_keyed (roomN hu) ⟨nested_of I _ nk _ _ ek qk rfl, dk⟩ t1 (kvs := pairsH xs) ⟨xs, t3, rfl⟩ ?_
      have ev : valueAt (pairsH xs) nk = (atKey xs nk).map (·.2) := by
        unfold valueAt pairsH atKey
        rw [List.find?_map, Option.map_map, Option.map_map]
        rfl
      rw [ev]
      cases qg : getK kvs (.tup ds) with
      | none =>
        rw [fd.2 qg]
        exact ⟨z, H, I.tok _, rz, k _ _ z (Ex.refl _ _) r (by rw [qg]; exact qx)⟩
      | some dv =>
        obtain ⟨p, v, ep, qv, rw'⟩ := fd.1 _ qg
        rw [ep]
        exact ⟨v, H, I.tok _, rw', k _ _ v (Ex.refl _ _) r (by rw [qg]; exact qv)⟩
    · rw [if_neg c] at e; cases e
  unfold get2T at e
  dsimp only at e
  cases q2 : h[kk]? with
  | none => rw [q2] at e; cases e
  | some ob =>
    rw [q2] at e
    cases ob with
    | tdc kvs => exact go kvs (.inl q2) e
    | ltdc kvs => exact go kvs (.inr q2) e
    | _ => cases e
theorem m_setd2T (hu : X.A.units + 100 < cLine) (ho : PE X o (lf (tx X) mo)) (he : PE X e (lf (tx X) mk)) (hf : PE X f (lf (tx X) mx)) (m : M2 X o "setdefault" apos e f cpos) : PE X (.Call (.Attribute o "setdefault" apos) [e, f] [] cpos) (lf (tx X) (met2T setd2T mo mk mx)) := by
  refine m_met2T PySem.F.slot_dict_setdefault PySem.F.type_dict_setdefault ?_ ho he hf m
  intro pins s σ H ι h h1 kk kd xd d a y z yv zv E Q I r qo qk qx ry rz e k
  have e : (match h[kk]? with | some (.tdc kvs) => if isTK kd = true ∧ kvs.length < sizeLine then (match getK kvs kd with | some v => some (v, h) | none => some (xd, h.set kk (.tdc (putKD kvs kd xd)))) else none | _ => none) = some (d, h1) := e
  cases q2 : h[kk]? with
  | none => rw [q2] at e; cases e
  | some ob =>
    rw [q2] at e
    cases ob with
    | tdc kvs =>
      have e : (if isTK kd = true ∧ kvs.length < sizeLine then (match getK kvs kd with | some v => some (v, h) | none => some (xd, h.set kk (.tdc (putKD kvs kd xd)))) else none) = some (d, h1) := e
      by_cases c : isTK kd = true ∧ kvs.length < sizeLine
      · rw [if_pos c] at e
        obtain ⟨ds, nk, ed, ek, dk⟩ := isTK_of c.1
        subst ed
        obtain ⟨p, xs, ep, hp, hy, t⟩ := at_tdc r qo q2
        injection ep with ep
        subst ep
        have q0 := qk
        rw [RV] at q0
        obtain ⟨b, zs, eb, _, _⟩ := q0
        subst eb
        cases ry
        obtain ⟨t1, t2, t3⟩ := td_heap I (.inl hy) t
        have fd := TRs.found ek t
        have ln := t.length
        refine call_setdefault_heap (roomN hu) ⟨nested_of I _ nk _ _ ek qk rfl, dk⟩ t1 t3 (fun p hp => ?_) (fun hn h' dd' hs => ?_) t2
        · cases qg : getK kvs (.tup ds) with
          | none => rw [fd.2 qg] at hp; cases hp
          | some dv =>
            rw [qg] at e
            obtain ⟨e1, e2⟩ := some_pair e
            subst e1 e2
            obtain ⟨p', v, ep, qv, rw'⟩ := fd.1 _ qg
            rw [hp] at ep
            cases ep
            exact ⟨v, H, I.tok _, rw', k _ _ v (Ex.refl _ _) r qv⟩
        · cases qg : getK kvs (.tup ds) with
          | some dv =>
            obtain ⟨p', v, ep, qv, rw'⟩ := fd.1 _ qg
            rw [hn] at ep
            cases ep
          | none =>
            rw [qg] at e
            obtain ⟨e1, e2⟩ := some_pair e
            subst e1 e2
            have sz : (storedH xs nk b zv).length ≤ sizeLine := by
              unfold storedH
              split
              · rw [List.length_map]; exact t2
              · rw [List.length_append, List.length_singleton]; omega
            obtain ⟨ob, es, ep, e1, e2, e3, e4, e5, e6⟩ := dd'
            have I4 := d_write (t' := s.toks + (nestedKind X.prog X.w).draws nk) I (by rw [hy]; exact True.intro) hs ⟨ob, e1⟩ (tdx_ok (P := X.prog) (w := X.w) (xs := storedH xs nk b zv) ⟨t1, sz, ob, es, ep, e1, e2, e3, e4, e6⟩)
            obtain ⟨x4, r4⟩ := r.put (u := .ext (TDx X.prog X.w a (storedH xs nk b zv))) (o := .tdc (putKD kvs (.tup ds) xd)) hp hy trivial fun up => ⟨_, upd_same, TRs.up up _ _ (TRs.put ek dk qk qx rz t)⟩
            exact ⟨z, _, I4, rz, k _ _ z x4 r4 (RV.up (x4.up r) _ _ qx)⟩
      · rw [if_neg c] at e; cases e
    | _ => cases e
end
end ML

set_option Elab.async false
set_option linter.all false
set_option maxRecDepth 100000
set_option autoImplicit false
namespace ML
open PySem L2
/-! ### a locked dict with tuple keys is walked -/
theorem own_key {P : Program} {w : World} {A : Around} {E : Value → Shared → Prop} {s : Shared} {tg : Expr} {it b d : Addr} {i n ep : Nat} {Q : Unit → Shared → Prop} (k : s.heap.IsKeyIter it d i n ep) (q : Q () s) : wpAny (model P w) A (letOwnedTupleGo tg (.ref it) (.ref b)) Q E s := by
  obtain ⟨o, e1, e2, e3⟩ := k
  have go : wpAny (model P w) A (do
      let o ← load it
      match o.cls, o.data with
        | Value.type n, Data.fields vs =>
          if
              (["enumerate", "zip", "dict_itemiterator", "dict_reverseitemiterator", "odict_iterator",
                        "itertools.zip_longest", "itertools.pairwise"].contains
                    n &&
                  vs[0]? == some (rawInt ↑b)) =
                true then
            do
            rule "for.unpacks-the-owned-tuple"
            updateField it 0 Value.none
          else pure ()
        | x, x_1 => pure ()) Q E s := by
    refine wpAny_bind (wpAny_load e1 ?_)
    rw [e2, e3]
    exact wpAny_pure q
  cases tg with
  | Tuple elts k pos => exact go
  | List elts pos => exact go
  | _ => exact wpAny_pure q
def Itx (d : Addr) (φ : HO) (o : Obj) (xs : List (NestedKey × Addr × Value)) : It :=
  { go := fun i H => H d = some (.frz o φ) ∧ i < xs.length,
    yld := fun i H x H' => H' = H ∧ ∃ e, xs[i]? = some e ∧ x = .ref e.2.1,
    stop := fun i H => H d = some (.frz o φ) ∧ i = xs.length }
/-- the object of a locked dict -/
theorem tdx_frz {X : Cx} {pins : List (Addr × Obj)} {σ : St} {H : Hp} {s : Shared} {d : Addr} {o : Obj} {xs : List (NestedKey × Addr × Value)} (I : Inv X pins σ H s) (h : H d = some (.frz o (.ext (TDx X.prog X.w d xs)))) :
    (d == sysModules) = false ∧ ∃ es ep, o.data = .dict es ep ∧ s.heap.DictRaw d es ep ∧ es.size = xs.length ∧ ∀ (i : Nat) (hi : i < es.size), ∃ e, xs[i]? = some e ∧ es[i].key = .ref e.2.1 ∧ es[i].val = e.2.2 := by
  obtain ⟨e0, q, _⟩ := I.hok d _ h
  obtain ⟨t1, t2, o', es, ep, e, t3, t4, t5, t6⟩ := q
  rw [e0] at e
  cases e
  have l : es.size = xs.length := by
    have := congrArg List.length t5
    rw [List.length_map, Array.length_toList] at this
    exact this
  refine ⟨t1, es, ep, t4, ⟨o, e0, t3, t4⟩, l, fun i hi => ?_⟩
  have hx : i < xs.length := by omega
  have e1 : es.toList[i]? = some (entryOfKey (nestedKind X.prog X.w) xs[i]) := by rw [t5, List.getElem?_map, List.getElem?_eq_getElem hx]; rfl
  rw [Array.getElem?_toList, Array.getElem?_eq_getElem hi] at e1
  injection e1 with e1
  rw [e1]
  exact ⟨xs[i], List.getElem?_eq_getElem hx, rfl, rfl⟩
theorem turn_x {P : Program} {w : World} {K : W.Frag} {tg : Expr} {d : Addr} {o : Obj} {xs : List (NestedKey × Addr × Value)} {es : Array DictEntry} {ep : Nat} (it : Addr) (ho : o.data = .dict es ep) : Turn P w K tg (Itx d (.ext (TDx P w d xs)) o xs) [it] it (fun i h => h.IsKeyIter it d i xs.length ep) := by
  refine ⟨by simp, fun i h k b m => ?_, fun i h h' k m => k.at (fun o q => m it (by simp) o q), ?_, ?_, ?_⟩
  · rw [List.mem_singleton.mp m]
    obtain ⟨o, e1, e2, e3⟩ := k
    exact ⟨o, e1, fun v z => by rw [e3] at z; cases z⟩
  · intro X eP ew eK calm i pins s σ H E I fp tn g
    subst eP ew eK
    obtain ⟨hg, hi⟩ := g
    obtain ⟨t1, es', ep', ed, raw, sz, at_⟩ := tdx_frz I hg
    rw [ho] at ed
    cases ed
    obtain ⟨f1, f2, f3, f4, f5, f6⟩ := fp it (by simp)
    have ne : d ≠ it := fun z => by rw [z, f1] at hg; cases hg
    have hi' : i < es.size := by omega
    refine (Walks.rawKeys (I.ok.hd calm) it d ne es ep).item i s _ _ hi' ⟨by rw [sz]; exact tn, raw⟩ fun v h' tk pv st fr => ?_
    obtain ⟨_, ev⟩ := pv
    obtain ⟨e, ex, ek, _⟩ := at_ i hi'
    rw [ek] at ev
    subst ev
    have st1 : h'.IsKeyIter it d (i + 1) xs.length ep := by rw [← sz]; exact st.1
    refine ⟨_, rfl, own_key (s := { heap := h', gens := s.gens, drawn := s.drawn, toks := tk, os := s.os }) st1 ⟨.ref e.2.1, H, I.turned (fun b o hb q => fr b o (by simpa using hb) q) f1 f2 f4 f5 f6, rfl, ⟨rfl, e, ex, rfl⟩, st1, fun b m => by rw [List.mem_singleton.mp m]; exact f1⟩⟩
  · intro X eP ew eK calm i pins s σ H E I fp tn g
    subst eP ew eK
    obtain ⟨hg, hi⟩ := g
    obtain ⟨t1, es', ep', ed, raw, sz, at_⟩ := tdx_frz I hg
    rw [ho] at ed
    cases ed
    obtain ⟨f1, f2, f3, f4, f5, f6⟩ := fp it (by simp)
    have ne : d ≠ it := fun z => by rw [z, f1] at hg; cases hg
    have hn : i = es.size := by omega
    subst hn
    exact (Walks.rawKeys (I.ok.hd calm) it d ne es ep).done s _ _ ⟨by rw [← sz] at tn; exact tn, raw⟩ fun h' tk fr => ⟨rfl, I.turned (fun b o hb q => fr b o (by simpa using hb) q) f1 f2 f4 f5 f6⟩
  · intro A i s Q E k q
    have l : (List.replicate xs.length ((Sum.inl 0, V.ref 0) : Key × V)).length = xs.length := List.length_replicate
    exact (turn_keys (P := P) (w := w) (K := K) (tg := tg) (d := d) (kvs := List.replicate xs.length ((Sum.inl 0, V.ref 0) : Key × V)) it ho).self A i s Q E (by rw [l]; exact k) q
def keyT (d : D) : M (List D × Src) := fun h => match d with
  | .ref k => (match h[k]? with
    | some (.ltdc kvs) => some ((kvs.map (·.1), []), h)
    | _ => none)
  | _ => none
def itT (m : Sm → M D) : Sm → M (List D × Src) := fun σ => m σ >>= keyT
theorem TRs.get {T : Tx} {ι : List Addr} {H : Hp} : ∀ {kvs : List (D × D)} {xs : List (NestedKey × Addr × Value)} {i : Nat} {p : D × D}, TRs T ι H kvs xs → kvs[i]? = some p → ∃ e v, xs[i]? = some e ∧ RV T ι H p.1 (.ref e.2.1) ∧ RV T ι H p.2 v ∧ RelV v e.2.2
  | [], _, _, _, _, h => by simp at h
  | q :: kvs, xs, 0, p, r, h => by
    obtain ⟨nk, b, u, v, s, e, e1, e2, q1, q2, q3, t⟩ := r
    simp only [List.getElem?_cons_zero, Option.some.injEq] at h
    subst h e
    exact ⟨_, _, rfl, q1, q2, q3⟩
  | q :: kvs, xs, i + 1, p, r, h => by
    obtain ⟨nk, b, u, v, s, e, e1, e2, q1, q2, q3, t⟩ := r
    subst e
    exact TRs.get (i := i) t h
section
variable {X : Cx} {tg l : Expr} {m : Sm → M D}
theorem i_tkey (hl : PE X l (lf (tx X) m)) : PI X tg l (lfI (tx X) (itT m)) := by
  refine ⟨fun pins s σ H R I q => ?_⟩
  obtain ⟨ι, σm, h, p, h1, r, rs, e, k⟩ := q
  obtain ⟨d, h', e1, e2⟩ := bind_some e
  refine thn (hl.run pins s σ H (fun x H1 => ∃ ι1, Ex ι H ι1 H1 ∧ Rl (tx X) ι1 H1 h' ∧ RV (tx X) ι1 H1 d x) I ⟨ι, σm, h, d, h', r, rs, e1, fun ι1 H1 x x1 r1 q1 => ⟨ι1, x1, r1, q1⟩⟩) fun u s1 ⟨x, H1, I1, rx, ι1, x1, r1, q1⟩ => ?_
  unfold keyT at e2
  cases d with
  | ref kk =>
    dsimp only at e2
    cases q2 : h'[kk]? with
    | none => rw [q2] at e2; cases e2
    | some ob =>
      rw [q2] at e2
      cases ob with
      | ltdc kvs =>
        obtain ⟨e2, e3⟩ := some_pair e2
        subst e2 e3
        obtain ⟨a, o, xs, ex, ha, hy, t⟩ := at_ltdc r1 q1 q2
        subst ex
        obtain rfl : u = Value.ref a := rx
        obtain ⟨t1, es, ep, ed, raw, sz, at_⟩ := tdx_frz I1 hy
        have ln := t.length
        refine wpAny_pyIter_dict_raw t1 raw ?_
        have fresh : H1 s1.heap.objs.size = none := I1.hok.fresh (Nat.le_refl _)
        refine ⟨s1.heap.objs.size, [s1.heap.objs.size], _, Itx a (.ext (TDx X.prog X.w a xs)) o xs, H1, rfl, ?_, turn_x s1.heap.objs.size ed, ?_, fun b m => ?_, k ι1 H1 _ x1 r1 ?_⟩
        · exact I1.kept (t' := s1.toks) (fun b u q => Heap.get?_push_of_some _ q)
        · refine ⟨_, Heap.get?_push_size _ rfl, rfl, ?_⟩
          rw [sz]
          rfl
        · rw [List.mem_singleton.mp m]
          exact I1.fpOk (Nat.le_refl _) fresh
        · refine ⟨fun ι2 H2 h2 i x2 r2 _ hi => ?_, fun ι2 H2 h2 x2 r2 _ => ⟨x2.fz a o _ hy, by rw [List.length_map, ln]⟩⟩
          have hi' : i < kvs.length := by rw [List.length_map] at hi; exact hi
          refine ⟨⟨x2.fz a o _ hy, by rw [ln]; exact hi'⟩, fun y H' hyl => ?_⟩
          obtain ⟨eH, e, ek, ey⟩ := hyl
          subst eH ey
          obtain ⟨e', v', ek', qk, _⟩ := t.get (List.getElem?_eq_getElem hi')
          rw [ek] at ek'
          cases ek'
          exact ⟨Ex.refl _ _, r2, kvs[i].1, by rw [List.getElem?_map, List.getElem?_eq_getElem hi']; rfl, RV.up (x2.up r1) _ _ qk⟩
      | _ => cases e2
  | _ => cases e2
end
end ML

set_option Elab.async false
set_option linter.all false
set_option maxRecDepth 100000
set_option autoImplicit false
namespace ML
open PySem L2
/-! ### list(d), a dict with tuple keys -/
theorem td_raw {X : Cx} {pins : List (Addr × Obj)} {σ : St} {H : Hp} {s : Shared} {d : Addr} {xs : List (NestedKey × Addr × Value)} (I : Inv X pins σ H s) (h : RdT X H d xs) :
    (d == sysModules) = false ∧ xs.length ≤ sizeLine ∧ ∃ es ep, s.heap.DictRaw d es ep ∧ es.size = xs.length ∧ ∀ (i : Nat) (hi : i < es.size), ∃ e, xs[i]? = some e ∧ es[i].key = .ref e.2.1 ∧ es[i].val = e.2.2 := by
  have q : TDx X.prog X.w d xs s.heap := by
    rcases h with hy | ⟨o, hy⟩
    · exact (I.hok d _ hy).1
    · exact (I.hok d _ hy).2.1
  obtain ⟨t1, t2, o, es, ep, e, t3, t4, t5, t6⟩ := q
  have l : es.size = xs.length := by
    have := congrArg List.length t5
    rw [List.length_map, Array.length_toList] at this
    exact this
  refine ⟨t1, t2, es, ep, ⟨o, e, t3, t4⟩, l, fun i hi => ?_⟩
  have hx : i < xs.length := by omega
  have e1 : es.toList[i]? = some (entryOfKey (nestedKind X.prog X.w) xs[i]) := by rw [t5, List.getElem?_map, List.getElem?_eq_getElem hx]; rfl
  rw [Array.getElem?_toList, Array.getElem?_eq_getElem hi] at e1
  injection e1 with e1
  rw [e1]
  exact ⟨xs[i], List.getElem?_eq_getElem hx, rfl, rfl⟩
def rListT (X : Cx) : List V → Hp → VK → Prop := fun vs H Q => ∃ a xs, vs = [V.ref a] ∧ RdT X H a xs ∧ ∀ l, H l = none → Q (.ref l) (upd H l (.lst (xs.map fun e => .ref e.2.1)))
def listTC (d : D) : M (List D) := fun h => match d with
  | .ref k => (match h[k]? with
    | some (.tdc kvs) => some (kvs.map (·.1), h)
    | some (.ltdc kvs) => some (kvs.map (·.1), h)
    | _ => none)
  | _ => none
def lisTM (m : Sm → M D) : Sm → M (List D) := fun σ => m σ >>= listTC
theorem TRs.keys {T : Tx} {ι : List Addr} {H : Hp} : ∀ {kvs : List (D × D)} {xs : List (NestedKey × Addr × Value)}, TRs T ι H kvs xs → RVs T ι H (kvs.map (·.1)) (xs.map fun e => V.ref e.2.1)
  | [], xs, r => by have e : xs = [] := r; rw [e]; show RVs T ι H [] []; rw [RVs]
  | p :: kvs, xs, r => by
    obtain ⟨nk, b, u, v, s, e, e1, e2, q1, q2, q3, t⟩ := r
    rw [e]
    show RVs T ι H (p.1 :: kvs.map (·.1)) (V.ref b :: s.map fun e => V.ref e.2.1)
    rw [RVs]
    exact ⟨_, _, rfl, q1, TRs.keys t⟩
section
variable {X : Cx}
theorem c_listT (cal : X.calm = true) : CallR X (.type "list") (rListT X) := by
  intro pins σ0 σ H vs us Q I rel w
  obtain ⟨a, xs, ev, ea, fin⟩ := w
  subst ev
  obtain rfl := Vals.ref1 rel
  obtain ⟨t1, sz, es, ep, raw, l, at_⟩ := td_raw I ea
  refine PySem.W.kdl_call (PySem.KdlSrc.rawDict (es := es) (ep := ep) t1) (I.ok.hd cal) raw (by omega) fun h1 tk out cap kp at1 items => ?_
  have ne : H σ0.heap.objs.size = none := I.hok.fresh (Nat.le_refl _)
  have look : ObjOk X.prog X.w (upd H σ0.heap.objs.size (.lst (xs.map fun e => V.ref e.2.1))) h1 σ0.heap.objs.size (.lst (xs.map fun e => V.ref e.2.1)) := by
    refine ⟨by rw [List.length_map]; exact sz, out.toList, cap, ?_, by rw [Array.toArray_toList]; exact at1⟩
    refine vals_of_at ?_ fun j x w e1 e2 => ?_
    · have el : out.toList.length = es.size := by simpa using items.1
      rw [List.length_map, el, l]
    · rw [Array.getElem?_toList] at e2
      obtain ⟨hi, is⟩ := items.2 j w e2
      obtain ⟨e, ex, ek, _⟩ := at_ j hi
      rw [List.getElem?_map, ex] at e1
      cases e1
      rw [is, ek]
      rfl
  exact ⟨.ref σ0.heap.objs.size, _, I.laid kp (Nat.le_refl _) look, rfl, fin _ ne⟩
theorem l_listT {e : Expr} {m : Sm → M D} {p pos : Pos} (hc : X.calm = true) (hg : Gl X "list") (hm : X.mg "list" = none) (he : PE X e (lf (tx X) m))
    (hs : starEach [e] X.env = (false, eval e X.env) :: starEach [] X.env := by rfl) (hpl : (backTo pos (starEach [] X.env)).any (·.1) = false := by rfl) : PE X (.Call (.Name "list" p) [e] [] pos) (lfL (tx X) (lisTM m)) :=
  (pe_callTy (c_listT hc) hg hm (by decide +kernel) (pa_cons he pa_nil hs) (by decide) (by decide) hs hpl).imp fun σ H Q q => by
  obtain ⟨ι, σm, h, d, h1, r, rs, e, k⟩ := q
  show lf (tx X) m σ H fun v H1 => rListT X [v] H1 Q
  refine lf_then r rs e (P := fun ι2 H2 => ∀ a xs, Rl (tx X) ι2 H2 h1 → H a = none → a ∉ ι2 → H2 a = some (.lst xs) → RVs (tx X) ι2 H2 d xs → Q (.ref a) H2) (fun ι2 H2 y a xs => k ι2 H2 a xs y) fun ι1 H1 v dv h' x1 r1 rs1 q1 e1 k1 => ?_
  unfold listTC at e1
  cases dv with
  | ref kk =>
    have go : ∀ kvs, (h'[kk]? = some (.tdc kvs) ∨ h'[kk]? = some (.ltdc kvs)) → some (kvs.map (·.1), h') = some (d, h1) → rListT X [v] H1 Q := fun kvs q2 e1 => by
      obtain ⟨e2, e3⟩ := some_pair e1
      subst e2 e3
      obtain ⟨a, xs, ex, hy, t⟩ := at_rtd r1 q1 q2
      subst ex
      refine ⟨a, xs, rfl, hy, fun l hl => ?_⟩
      obtain ⟨x4, r4⟩ := r1.other (u := .lst (xs.map fun e => V.ref e.2.1)) hl
      obtain ⟨np, hH⟩ := fresh_of x1 r1 hl
      exact k1 _ _ x4 _ _ r4 hH np upd_same (RVs.up (x4.up r1) _ _ t.keys)
    dsimp only at e1
    cases q2 : h'[kk]? with
    | none => rw [q2] at e1; cases e1
    | some ob =>
      rw [q2] at e1
      cases ob with
      | tdc kvs => exact go kvs (.inl q2) e1
      | ltdc kvs => exact go kvs (.inr q2) e1
      | _ => cases e1
  | _ => cases e1
end
end ML

set_option Elab.async false
set_option linter.all false
set_option maxRecDepth 100000
set_option autoImplicit false
namespace ML
open PySem L2
/-! ### list(d.values()), a dict with tuple keys -/
def VwX (a v : Addr) (h : Heap) : Prop := h.IsValuesView v a
theorem vwx_ok {P : Program} {w : World} {H : Hp} {h : Heap} {a v : Addr} (t : VwX a v h) : ObjOk P w H h v (.ext (VwX a v)) := by
  obtain ⟨o, e, q1, q2⟩ := id t
  exact ⟨t, ⟨o, e⟩, fun h1 h2 ⟨o, e, q⟩ k => ⟨o, k o e, q⟩⟩
def valsTC (d : D) : M (List D) := fun h => match d with
  | .ref k => (match h[k]? with
    | some (.tdc kvs) => some (kvs.map (·.2), h)
    | some (.ltdc kvs) => some (kvs.map (·.2), h)
    | _ => none)
  | _ => none
def valTM (m : Sm → M D) : Sm → M (List D) := fun σ => m σ >>= valsTC
theorem TRs.vals {T : Tx} {ι : List Addr} {H : Hp} : ∀ {kvs : List (D × D)} {xs : List (NestedKey × Addr × Value)}, TRs T ι H kvs xs → ∃ ys, RVs T ι H (kvs.map (·.2)) ys ∧ Vals ys (xs.map fun e => e.2.2)
  | [], xs, r => by have e : xs = [] := r; rw [e]; exact ⟨[], by show RVs T ι H [] []; rw [RVs], Paired.nil⟩
  | p :: kvs, xs, r => by
    obtain ⟨nk, b, u, v, s, e, e1, e2, q1, q2, q3, t⟩ := r
    obtain ⟨ys, r1, r2⟩ := TRs.vals t
    rw [e]
    refine ⟨v :: ys, ?_, .cons q3 r2⟩
    show RVs T ι H (p.2 :: kvs.map (·.2)) (v :: ys)
    rw [RVs]
    exact ⟨_, _, rfl, q2, r1⟩
section
variable {X : Cx} {o : Expr} {m : Sm → M D} {apos cpos : Pos}
def tVals (X : Cx) (m : Sm → M D) : TE := fun σ H Q => ∃ ι σm h kk kvs h1, Rl (tx X) ι H h ∧ RS (tx X) ι H σm σ ∧ m σm h = some (.ref kk, h1) ∧ (h1[kk]? = some (.tdc kvs) ∨ h1[kk]? = some (.ltdc kvs)) ∧
  ∀ ι1 H1 a xs v, Ex ι H ι1 H1 → Rl (tx X) ι1 H1 h1 → RdT X H1 a xs → TRs (tx X) ι1 H1 kvs xs → H1 v = none → v ≠ a → Q (.ref v) (upd H1 v (.ext (VwX a v)))
theorem pe_vals (ho : PE X o (lf (tx X) m)) (hb : attributeBase o "values" X.env (eval o X.env) = eval o X.env := by rfl) (hl : (apos.endLine == cpos.line) = true := by rfl) : PE X (.Call (.Attribute o "values" apos) [] [] cpos) (tVals X m) := by
  refine ⟨fun pins s σ H Q I q => ?_⟩
  obtain ⟨ι, σm, h, kk, kvs, h1, r, rs, e3, e4, k⟩ := q
  refine wpAny_Call_method hb (by rfl) hl PySem.F.plainAttrs_dict PySem.F.slot_dict_values PySem.F.type_dict_values (thn (ho.run pins s σ H (fun x H1 => ∃ ι1, Ex ι H ι1 H1 ∧ Rl (tx X) ι1 H1 h1 ∧ RV (tx X) ι1 H1 (.ref kk) x) I ⟨ι, σm, h, .ref kk, h1, r, rs, e3, fun ι1 H1 x x1 r1 q1 => ⟨ι1, x1, r1, q1⟩⟩) fun u s1 ⟨x, H1, I1, rx, ι1, x1, r1, q1⟩ => ?_)
  obtain ⟨a, xs, ex, hy, t⟩ := at_rtd r1 q1 e4
  subst ex
  obtain rfl : u = Value.ref a := rx
  obtain ⟨t1, t2, t3⟩ := td_heap I1 hy t
  have ty : s1.TypeIs (.ref a) "dict" := Heap.DictKeyed.typeIs (kvs := pairsH xs) ⟨xs, t3, rfl⟩
  refine ⟨ty, PyProof.Rows.dictOfH_noDict t3, ?_⟩
  obtain ⟨_, _, es, ep, raw, _, _⟩ := td_raw I1 hy
  refine PyProof.Rows.callWith_method0 ?_
  have fresh : H1 s1.heap.objs.size = none := I1.hok.fresh (Nat.le_refl _)
  refine call_meetsIn PySem.F.slot_dict_values ty PySem.F.entry_dict_values (PySem.F.args_dict_values_1 _) (meets_dict_values_raw a t1) ⟨⟨es, ep, raw⟩, ?_⟩
  refine ⟨.ref s1.heap.objs.size, _, I1.laid (a := s1.heap.objs.size) (o := .ext (VwX a s1.heap.objs.size)) (t' := s1.toks) (fun _ _ q => Heap.get?_push_of_some _ q) (Nat.le_refl _) (vwx_ok ⟨_, Heap.get?_push_size _ rfl, rfl, rfl⟩), rfl, k ι1 H1 a xs _ x1 r1 hy t fresh fun z => ?_⟩
  rcases hy with hy | ⟨_, hy⟩ <;> rw [← z, fresh] at hy <;> cases hy
def rListV (X : Cx) : List V → Hp → VK → Prop := fun vs H Q => ∃ a v xs ys, vs = [V.ref v] ∧ H v = some (.ext (VwX a v)) ∧ RdT X H a xs ∧ Vals ys (xs.map fun e => e.2.2) ∧ ∀ l, H l = none → Q (.ref l) (upd H l (.lst ys))
theorem c_listV (cal : X.calm = true) : CallR X (.type "list") (rListV X) := by
  intro pins σ0 σ H vs us Q I rel w
  obtain ⟨a, v, xs, ys, ev, ew, ea, yv, fin⟩ := w
  subst ev
  obtain rfl := Vals.ref1 rel
  obtain ⟨t1, sz, es, ep, raw, l, at_⟩ := td_raw I ea
  have vw : VwX a v σ0.heap := (I.hok v _ ew).1
  have ly : ys.length = xs.length := by have := Paired.length yv; rw [List.length_map] at this; exact this
  refine PySem.W.kdl_call (PySem.KdlSrc.rawValues (d := a) (r := v) (es := es) (ep := ep)) (I.ok.hd cal) ⟨vw, raw⟩ (by omega) fun h1 tk out cap kp at1 items => ?_
  have ne : H σ0.heap.objs.size = none := I.hok.fresh (Nat.le_refl _)
  have look : ObjOk X.prog X.w (upd H σ0.heap.objs.size (.lst ys)) h1 σ0.heap.objs.size (.lst ys) := by
    refine ⟨by omega, out.toList, cap, ?_, by rw [Array.toArray_toList]; exact at1⟩
    have ee : out.toList = xs.map fun e => e.2.2 := by
      refine List.ext_getElem? fun j => ?_
      by_cases hj : j < es.size
      · obtain ⟨e, ex, _, ev⟩ := at_ j hj
        have hj2 : j < out.size := by rw [items.1]; exact hj
        have e2 : out[j]? = some out[j] := Array.getElem?_eq_getElem hj2
        obtain ⟨hi, is⟩ := items.2 j _ e2
        rw [Array.getElem?_toList, e2, List.getElem?_map, ex, is, ev]
        rfl
      · rw [List.getElem?_eq_none (by rw [Array.length_toList, items.1]; omega), List.getElem?_eq_none (by rw [List.length_map]; omega)]
    rw [ee]
    exact yv
  exact ⟨.ref σ0.heap.objs.size, _, I.laid kp (Nat.le_refl _) look, rfl, fin _ ne⟩
theorem l_values {p pos : Pos} (hc : X.calm = true) (hg : Gl X "list") (hm : X.mg "list" = none) (he : PE X o (lf (tx X) m)) (hb : attributeBase o "values" X.env (eval o X.env) = eval o X.env := by rfl) (hl : (apos.endLine == cpos.line) = true := by rfl)
    (hs : starEach [.Call (.Attribute o "values" apos) [] [] cpos] X.env = (false, eval (.Call (.Attribute o "values" apos) [] [] cpos) X.env) :: starEach [] X.env := by rfl) (hpl : (backTo pos (starEach [] X.env)).any (·.1) = false := by rfl) : PE X (.Call (.Name "list" p) [.Call (.Attribute o "values" apos) [] [] cpos] [] pos) (lfL (tx X) (valTM m)) :=
  (pe_callTy (c_listV hc) hg hm (by decide +kernel) (pa_cons (pe_vals he hb hl) pa_nil hs) (by decide) (by decide) hs hpl).imp fun σ H Q q => by
  obtain ⟨ι, σm, h, d, h1, r, rs, e, k⟩ := q
  show tVals X m σ H fun v H1 => rListV X [v] H1 Q
  obtain ⟨dv, h', e0, e1⟩ := bind_some e
  unfold valsTC at e1
  cases dv with
  | ref kk =>
    have go : ∀ kvs, (h'[kk]? = some (.tdc kvs) ∨ h'[kk]? = some (.ltdc kvs)) → some (kvs.map (·.2), h') = some (d, h1) → tVals X m σ H fun v H1 => rListV X [v] H1 Q := fun kvs q2 e1 => by
      obtain ⟨e2, e3⟩ := some_pair e1
      subst e2 e3
      refine ⟨ι, σm, h, kk, kvs, h', r, rs, e0, q2, fun ι1 H1 a xs v x1 r1 hy t hv nva => ?_⟩
      obtain ⟨ys, ry, rv⟩ := t.vals
      obtain ⟨x4, r4⟩ := r1.other (u := .ext (VwX a v)) hv
      have hy2 : RdT X (upd H1 v (.ext (VwX a v))) a xs := by
        rcases hy with hy | ⟨o, hy⟩
        · exact .inl (by rw [upd_ne (Ne.symm nva)]; exact hy)
        · exact .inr ⟨o, by rw [upd_ne (Ne.symm nva)]; exact hy⟩
      refine ⟨a, v, xs, ys, rfl, upd_same, hy2, rv, fun l hl => ?_⟩
      obtain ⟨x5, r5⟩ := r4.other (u := .lst ys) hl
      have x04 := x1.trans r1 x4
      obtain ⟨np, hH⟩ := fresh_of x04 r4 hl
      exact k _ _ _ _ (x04.trans r4 x5) r5 hH np upd_same (RVs.up (x5.up r4) _ _ (RVs.up (x4.up r1) _ _ ry))
    dsimp only at e1
    cases q2 : h'[kk]? with
    | none => rw [q2] at e1; cases e1
    | some ob =>
      rw [q2] at e1
      cases ob with
      | tdc kvs => exact go kvs (.inl q2) e1
      | ltdc kvs => exact go kvs (.inr q2) e1
      | _ => cases e1
  | _ => cases e1
end
end ML

set_option Elab.async false
set_option linter.all false
set_option maxRecDepth 100000
set_option autoImplicit false
namespace ML
open PySem L2
/-! ### xs.pop(i), i not negative -/
def rPopI : V → List V → Hp → VK → Prop := fun x vs H Q => ∃ l xs i y, x = .ref l ∧ vs = [.int i] ∧ H l = some (.lst xs) ∧ 0 ≤ i ∧ xs[i.toNat]? = some y ∧ Q y (upd H l (.lst (xs.eraseIdx i.toNat)))
theorem paired_erase : ∀ {xs : List V} {us : List Value} (k : Nat), Vals xs us → Vals (xs.eraseIdx k) (us.eraseIdx k)
  | [], [], _, _ => .nil
  | _ :: _, _ :: _, 0, .cons _ t => t
  | _ :: _, _ :: _, k + 1, .cons a t => .cons a (paired_erase k t)
theorem paired_at : ∀ {xs : List V} {us : List Value} {k : Nat} {y : V} {u : Value}, Vals xs us → xs[k]? = some y → us[k]? = some u → RelV y u
  | [], _, _, _, _, _, h, _ => by simp at h
  | _ :: _, _ :: _, 0, y, u, .cons a _, h, h2 => by
    simp only [List.getElem?_cons_zero, Option.some.injEq] at h h2
    subst h h2
    exact a
  | _ :: _, _ :: _, k + 1, y, u, .cons _ t, h, h2 => paired_at (k := k) t h h2
theorem mt_popI {X : Cx} : MtM X "list.pop" rPopI := by
  intro pins st σ H x vs v us Q I rx rv whole
  obtain ⟨l, xs, i, y, ex, evs, ha, h0, hy, fin⟩ := whole
  subst ex evs
  cases rx
  obtain ⟨u, eu, ru⟩ := rv.one
  subst eu
  obtain ⟨tk, rfl⟩ := ru
  obtain ⟨z, its, n, r, hl, e⟩ := I.lstM ha
  have hk : i.toNat < xs.length := (List.getElem?_eq_some_iff.mp hy).1
  have hk2 : i.toNat < its.length := by omega
  have rel : RelV y its[i.toNat] := paired_at r hy (List.getElem?_eq_getElem hk2)
  have s1 : seqIndex? i its.toArray.size = some i.toNat := by
    unfold seqIndex?
    rw [List.size_toArray]
    simp only [if_neg (show ¬ i < 0 by omega)]
    rw [if_pos (by simp; omega)]
  have ft : Builtin.List.listFitsIndex i = true := by
    unfold Builtin.List.listFitsIndex
    simp
    have : sizeLine < 2 ^ 62 := by decide
    omega
  refine call_meets F.slot_list_pop ⟨_, e, rfl⟩ F.entry_list_pop (F.args_list_pop_2 _ _) (MeetsSeq.list_pop_at l its.toArray n i tk i.toNat its[i.toNat] ft s1 (by simp [hk2]) (by rw [List.size_toArray]; omega)) ⟨e, ?_⟩
  refine ⟨y, _, I.lset (its' := its.eraseIdx i.toNat) (t' := st.toks) ha e (by simp [Array.eraseIdxIfInBounds, hk2]) (paired_erase _ r) (by rw [List.length_eraseIdx]; split <;> omega), rel, fin⟩
/-- xs.pop(i) -/
def popIL (o : D) (ds : List D) : M D := fun h => match ds with
  | [.int i] => (match o with
    | .ref k => (match h[k]? with
      | some (.lst xs) => if 0 ≤ i then (xs[i.toNat]?).map fun y => (y, h.set k (.lst (xs.eraseIdx i.toNat))) else none
      | _ => none)
    | _ => none)
  | _ => none
theorem RVs.erase {T : Tx} {ι : List Addr} {H : Hp} : ∀ {ds : List D} {xs : List V} (k : Nat), RVs T ι H ds xs → RVs T ι H (ds.eraseIdx k) (xs.eraseIdx k)
  | [], xs, k, r => by rw [RVs] at r; subst r; rw [List.eraseIdx_nil, List.eraseIdx_nil, RVs]
  | d :: ds, xs, 0, r => by
    rw [RVs] at r
    obtain ⟨v, s, e, _, t⟩ := r
    subst e
    exact t
  | d :: ds, xs, k + 1, r => by
    rw [RVs] at r
    obtain ⟨v, s, e, q, t⟩ := r
    subst e
    rw [List.eraseIdx_cons_succ, List.eraseIdx_cons_succ, RVs]
    exact ⟨v, _, rfl, q, RVs.erase k t⟩
theorem ml_popI {X : Cx} : MtL (tx X) rPopI popIL := by
  intro ι H h x o xs ds d h1 Q r qo qs e k
  unfold popIL at e
  split at e
  · rename_i i
    cases o with
    | ref kk =>
      dsimp only at e
      cases q2 : h[kk]? with
      | none => rw [q2] at e; cases e
      | some ob =>
        rw [q2] at e
        cases ob with
        | lst ys =>
          dsimp only at e
          by_cases h0 : 0 ≤ i
          · rw [if_pos h0] at e
            obtain ⟨a, zs, ex, ha, hz, qz⟩ := at_lst r qo q2
            obtain ⟨v, ev, qi⟩ := RVs1 qs
            rw [RV] at qi
            subst qi
            obtain ⟨y, ey, e2⟩ := Option.map_eq_some_iff.mp e
            injection e2 with e3 e4
            subst e3 e4
            obtain ⟨w, ew, qv⟩ := qz.get ey
            refine ⟨a, zs, i, w, ex, ev, hz, h0, ew, ?_⟩
            obtain ⟨x4, r4⟩ := r.put (u := .lst (zs.eraseIdx i.toNat)) (o := .lst (ys.eraseIdx i.toNat)) ha hz trivial fun up => ⟨_, upd_same, RVs.up up _ _ (RVs.erase _ qz)⟩
            exact k _ _ _ x4 r4 (RV.up (x4.up r) _ _ qv)
          · rw [if_neg h0] at e; cases e
        | _ => cases e
    | _ => cases e
  · cases e
end ML

set_option Elab.async false
set_option linter.all false
set_option maxRecDepth 100000
set_option autoImplicit false
namespace ML
open PySem PySem.Spec PyProof.Rows L2
/-! ### {k: v for tg in iter if ..}, tuples as keys -/
abbrev D1 (kx vx ta ia : Expr) (fa : List Expr) (sc : Scope) (ps : Pos) : Expr := .DictComp kx vx [⟨ta, ia, fa, 0⟩] sc ps
section
variable {kx vx ta ia : Expr} {fa : List Expr} {sc : Scope} {ps : Pos} {it acc : Value} {env : Env} {Dn : Addr}
theorem turn_1 : compTurn (D1 kx vx ta ia fa sc ps) 0 it (.ref Dn) env = (do
    standAt ia.pos
    match ← pyNext it with
    | none => pure (.done .next)
    | some u =>
      letOwnedTupleGo ta it u
      assign ta env u
      let mut good := true
      for c in fa do
        if good then good ← isTrue c env (eval c env)
      if good then
        (do
          let ku ← eval kx env
          let vu ← holding [ku] (eval vx env)
          standAt { kx.pos with endLine := vx.pos.endLine, endCol := vx.pos.endCol }
          holding [ku, vu] (dictSet Dn ku vu))
      again (.compLoop (D1 kx vx ta ia fa sc ps) 0 it (.ref Dn) env)) := by rfl
variable {prog : Program} {w : World} {A : Around} {R : Result → Shared → Prop} {s : Shared}
theorem loop_1 (J : Nat → Shared → Prop)
    (turn : ∀ n s, J n s → StepD prog w A R env ta fa it (R (.ok .next)) (fun s4 => wpAny (model prog w) A (eval kx env) (fun ku s5 => wpAny (model prog w) A (eval vx env) (fun vu s6 => wpAny (model prog w) A (dictSet Dn ku vu) (fun _ s7 => ∃ m, m < n ∧ J m s7)
        (notedBy (model prog w) A env fun e s' => R (.error e) s') s6) (notedBy (model prog w) A env fun e s' => R (.error e) s') s5) (notedBy (model prog w) A env fun e s' => R (.error e) s') s4) (fun s4 => ∃ m, m < n ∧ J m s4) s)
    (n : Nat) (h : J n s) : codeAny (model prog w) A (.compLoop (D1 kx vx ta ia fa sc ps) 0 it (.ref Dn) env) R s := by
  refine codeAny_loop rfl J (fun n s hI => ?_) n h
  show wpAny _ A ((compTurn (D1 kx vx ta ia fa sc ps) 0 it (.ref Dn) env).onRaise (fun x => do noteFrame x env; theTreesLotGoes x)) _ _ s
  refine wpAny_noted ?_
  rw [turn_1]
  refine wpAny_bind (wpAny_standAt (wpAny_bind (wpAny_mono (turn n s hI) (fun r s1 h1 => ?_) fun _ _ z => z)))
  cases r with
  | none => exact wpAny_pure h1
  | some u =>
    refine wpAny_bind (wpAny_mono h1 (fun _ s2 h2 => wpAny_bind (wpAny_mono h2 (fun _ s3 h3 => wpAny_bind (wpAny_mono h3 (fun good s4 h4 => ?_) fun _ _ z => z)) fun _ _ z => z)) fun _ _ z => z)
    cases good with
    | false => exact wpAny_pure ⟨rfl, h4⟩
    | true => exact wpAny_bind (wpAny_bind (wpAny_mono h4 (fun ku s5 h5 => wpAny_bind (wpAny_holding (wpAny_mono h5 (fun vu s6 h6 => wpAny_bind (wpAny_standAt (wpAny_holding (wpAny_mono h6 (fun _ s7 h7 => wpAny_pure ⟨rfl, h7⟩) fun _ _ z => z)))) fun _ _ z => z))) fun _ _ z => z))
end
/-- a store of a tuple key -/
def Put1 (T : Tx) (Dn : Addr) (Nx : Hp → Prop) (y z : V) (H : Hp) : Prop := ∃ ι d nk b kvs xs, RV T ι H d (.ref b) ∧ y = .ref b ∧ kN d = some nk ∧ nk.depth ≤ 8 ∧ H Dn = some (.ext (TDx T.P T.w Dn xs)) ∧ TRs T ι H kvs xs ∧ kvs.length < sizeLine ∧ ∀ u, RelV z u → Nx (upd H Dn (.ext (TDx T.P T.w Dn (storedH xs nk b u))))
def tDcT (T : Tx) (wi : TI) (g : TG) (tt : TT) (tk tv : TE) (vs : List Nat) : TE := fun σ H Q => wi σ H fun J H1 => ∀ Dn, H1 Dn = none → ∃ W : Nat → Nat → Hp → Prop, (∃ m, W 0 m (upd H1 Dn (.ext (TDx T.P T.w Dn [])))) ∧ ∀ i m H, W i m H →
  (J.stop i H ∧ Q (.ref Dn) H) ∨ (J.go i H ∧ ∃ Nx : Hp → Prop, (∀ H', Nx H' → ∃ m', m' < m ∧ W (i + 1) m' H') ∧ ∀ x H', J.yld i H x H' → g x (wipe σ vs) H' fun σ2 H2 => wipe σ2 vs = wipe σ vs ∧ tt σ2 H2 fun b H3 => if b = true then
    tk σ2 H3 fun y H4 => tv σ2 H4 fun z H5 => Put1 T Dn Nx y z H5 else Nx H3)
theorem put_store {X : Cx} {pins : List (Addr × Obj)} {σ : L2.St} {H : Hp} {s : Shared} {E : Value → Shared → Prop} {Dn : Addr} {y z : V} {u r : Value} {Nx : Hp → Prop} {Q : Unit → Shared → Prop} (hu : X.A.units + 100 < cLine) (I : L2.Inv X pins σ H s) (p : Put1 (tx X) Dn Nx y z H) (ry : RelV y u) (rz : RelV z r)
    (fin : ∀ s' H', L2.Inv X pins σ H' s' → Nx H' → Q () s') : wpAny (model X.prog X.w) X.A (dictSet Dn u r) Q E s := by
  obtain ⟨ι, d, nk, b, kvs, xs, q, rfl, ek, dk, hy, t, hl, nx⟩ := p
  obtain rfl : u = Value.ref b := ry
  obtain ⟨t1, t2, t3⟩ := td_heap I (.inl hy) t
  have ln := t.length
  refine wpAny_dictSet_heap (knd := nestedKind X.prog X.w) (by show X.A.units + 8 < cLine; omega) ⟨nested_of I d nk _ _ ek q rfl, dk⟩ t3 (fun h' dd' hs => ?_) t2
  obtain ⟨o, es, ep, e1, e2, e3, e4, e5, e6⟩ := dd'
  have sz : (storedH xs nk b r).length ≤ sizeLine := by
    unfold storedH
    split
    · rw [List.length_map]; exact t2
    · rw [List.length_append, List.length_singleton]; omega
  exact fin _ _ (d_write I (by rw [hy]; exact True.intro) hs ⟨o, e1⟩ (tdx_ok ⟨t1, sz, o, es, ep, e1, e2, e3, e4, e6⟩)) (nx r rz)
section
variable {X : Cx}
theorem d1_core {pins : List (Addr × Obj)} {s : Shared} {σ : L2.St} {H : Hp} {Q : VK} {kx vx ta ia : Expr} {fa : List Expr} {sc : Scope} {own : List (Str × Nat)} {ps ps' : Pos} {wi : TI} {g : TG} {tt : TT} {tk tv : TE} {use : Option (Value → Sem Unit)} {Qf : Value → Shared → Prop}
    (hu : X.A.units + 100 < cLine) (hc : X.calm = true) (hN : X.N.Nodup) (I : L2.Inv X pins σ H s) (hi : PI X ta ia wi) (ok : BlkOk X.N X.env.scope sc own) (hg : InBlk X sc fun Y => PG Y ta g) (ht : InBlk X sc fun Y => PTs Y fa tt)
    (hk : InBlk X sc fun Y => PE Y kx tk) (he : InBlk X sc fun Y => PE Y vx tv) (hs : ∀ x, foldedSetIterable ia X.env x = pure x) (q0 : tDcT (tx X) wi g tt tk tv (own.map (·.2)) σ H Q)
    (out : ∀ Dn C s' m H', L2.Inv X pins σ H' s' → Q (.ref Dn) H' → s'.heap.Ns C m → FpOk X pins H' C → compPost (model X.prog X.w) X.A X.xe use Qf (.ref Dn) C (.ok .next) s') :
    wpAny (model X.prog X.w) X.A (comprehension (D1 kx vx ta ia fa sc ps) sc X.env ps' newDict false (eval ia X.env) use) Qf X.xe s := by
  have caps : ∀ y ∈ sc.names, y.2 = .free → ∃ c, X.env.cells.lookup y.1 = some c := fun y hy e => (ok.free y hy e).elim (fun k => I.ok.has _ (.inl k)) fun k => I.ok.has _ (.inr k)
  refine wpAny_comprehension_free (use := use) rfl hs (closure_ok caps) ok.kind (fun y hy e => by rw [ok.uniq y hy, e]) (thn (hi.run pins s σ H _ I q0) fun xv sa hx => thn hx fun itv sb hb => ?_)
  obtain ⟨it, fp, tn, J, Hb, e, Ib, T, stb, fpb, q⟩ := hb
  subst e
  refine wpAny_newObj_type (newEnv_comp ?_)
  generalize eD : sb.heap.objs.size = Dn
  have freeD : Hb Dn = none := Ib.hok.fresh (Nat.le_of_eq eD)
  obtain ⟨W, ⟨m0, w0⟩, turn⟩ := q Dn freeD
  generalize es3 : ({ sb with heap := sb.heap.push { cls := .type "dict", data := .dict #[] } } : Shared) = s3
  have hp3 : s3.heap = sb.heap.push { cls := .type "dict", data := .dict #[] } := by rw [← es3]
  have I3 : L2.Inv X pins σ (upd Hb Dn (.ext (TDx X.prog X.w Dn []))) s3 := by
    rw [← es3]
    refine Ib.laid (t' := sb.toks) (fun b o e => Heap.get?_push_of_some _ e) (Nat.le_of_eq eD) ?_
    rw [← eD]
    exact tdx_ok ⟨beq_eq_false_iff_ne.mpr (Ne.symm (Nat.ne_of_lt Ib.big)), Nat.zero_le _, _, #[], 0, Heap.get?_push_size _ rfl, ⟨rfl, rfl, rfl⟩, rfl, rfl, List.nodup_nil⟩
  have small : ∀ b ∈ fp, b < sb.heap.objs.size := fun b hb => let ⟨o, e, _⟩ := T.obj _ _ stb b hb; Heap.lt_size e
  have fp3 : ∀ b ∈ fp, FpOk X pins (upd Hb Dn (.ext (TDx X.prog X.w Dn []))) b ∧ b < s3.heap.objs.size := fun b hb =>
    ⟨⟨by rw [upd_ne (by rw [← eD]; exact Nat.ne_of_lt (small b hb))]; exact (fpb b hb).1, (fpb b hb).2⟩, by rw [hp3, Heap.size_push]; exact Nat.lt_succ_of_lt (small b hb)⟩
  have st3 : tn 0 s3.heap := T.keep _ _ _ stb fun b _ o e => by rw [hp3]; exact Heap.get?_push_of_some _ e
  have I4 := block_start I3 ok hN fp3
  have at_ : ∀ {p : Cx → Prop}, InBlk X sc p → p (X.blk s3 (upd Hb Dn (.ext (TDx X.prog X.w Dn []))) sc (compEnvC sc (cellsFrom (s3.heap.objs.size + 1) sc.names (cloFrom X.env.cells sc.names [])) s3.heap.objs.size X.env) fp) := fun h => h _ _ _ _ _
  have pg := at_ hg
  have pt := at_ ht
  have pk := at_ hk
  have pv := at_ he
  show codeAny _ _ (.compStart (D1 kx vx ta ia fa sc ps) 0 (.ref it) (.ref Dn) (compEnvC sc (cellsFrom (s3.heap.objs.size + 1) sc.names (cloFrom X.env.cells sc.names [])) s3.heap.objs.size X.env)) (compPost (model X.prog X.w) X.A X.xe use Qf (.ref Dn) s3.heap.objs.size) { s3 with heap := pushCells (s3.heap.push { cls := .type "dict", data := .dict #[] }) sc.names }
  have none3 : ∀ b ∈ fp, (upd Hb Dn (.ext (TDx X.prog X.w Dn []))) b = none := fun b hb => (fp3 b hb).1.1
  clear at_
  generalize ece : compEnvC sc (cellsFrom (s3.heap.objs.size + 1) sc.names (cloFrom X.env.cells sc.names [])) s3.heap.objs.size X.env = ce at I4 pg pt pk pv ⊢
  have locC : ce.locals = s3.heap.objs.size := by subst ece; rfl
  have w0 : W 0 m0 (upd Hb Dn (.ext (TDx X.prog X.w Dn []))) := w0
  generalize eH3 : upd Hb Dn (.ext (TDx X.prog X.w Dn [])) = H3 at I3 I4 pg pt pk pv w0 none3 fp3
  generalize es4 : ({ s3 with heap := pushCells (s3.heap.push { cls := .type "dict", data := .dict #[] }) sc.names } : Shared) = s4 at I4 ⊢
  have st4 : tn 0 s4.heap := T.keep _ _ _ st3 fun b _ o e => by rw [← es4]; exact pushCells_keeps _ _ _ _ (Heap.get?_push_of_some _ e)
  have fpY : ∀ {σ' : L2.St} {H' : Hp} {s' : Shared}, L2.Inv (X.blk s3 H3 sc ce fp) [] σ' H' s' → (∀ b ∈ fp, H' b = none) → ∀ b ∈ fp, FpOk (X.blk s3 H3 sc ce fp) [] H' b := fun {σ' H' s'} J' hn b hb =>
    ⟨hn b hb, (J'.ok.exf b hb).1, J'.ok.exfs b hb, .inl hb, fun x c e => (J'.ok.exf b hb).2 x c e, fun p hp => absurd (show p ∈ ([] : List (Addr × Obj)) ++ [] from hp) (by simp)⟩
  have loop : codeAny (model X.prog X.w) X.A (.compLoop (D1 kx vx ta ia fa sc ps) 0 (.ref it) (.ref Dn) ce) (compPost (model X.prog X.w) X.A X.xe use Qf (.ref Dn) s3.heap.objs.size) s4 := by
    refine loop_1 (fun n s' => ∃ i H', L2.Inv (X.blk s3 H3 sc ce fp) [] (wipe σ (own.map (·.2))) H' s' ∧ tn i s'.heap ∧ (∀ b ∈ fp, H' b = none) ∧ W i n H') ?_ m0 ⟨0, H3, I4, st4, none3, w0⟩
    rintro n s5 ⟨i, H5, I5, st5, n5, w5⟩
    unfold StepD
    rcases turn i n H5 w5 with ⟨stop, qq⟩ | ⟨go, Nx, hNx, step⟩
    · refine thnF (T.done (X.blk s3 H3 sc ce fp) rfl rfl rfl hc i [] s5 _ H5 (fun _ _ => False) I5 (fpY I5 n5) st5 stop) fun r s6 ⟨hr, I6⟩ => ?_
      subst hr
      have I7 : L2.Inv X pins σ H5 s6 := I3.call' (ch := fp) I6.os I6.base I6.hok I6.bare fun b hb => ⟨(fp3 b hb).1.2.2.2.1, (fp3 b hb).1.2.1, (fp3 b hb).1.2.2.2.2.1, (fp3 b hb).1.2.2.2.2.2⟩
      have freeC : H5 s3.heap.objs.size = none := by rw [← locC]; exact I6.free
      obtain ⟨m, hn, _⟩ := I6.loc
      have hn : s6.heap.Ns s3.heap.objs.size m := by rw [← locC]; exact hn
      exact out Dn s3.heap.objs.size s6 m H5 I7 qq hn (I3.fpOk (Nat.le_refl _) freeC)
    · refine thnF (T.item (X.blk s3 H3 sc ce fp) rfl rfl rfl hc i [] s5 _ H5 (fun _ _ => False) I5 (fpY I5 n5) st5 go) fun r s6 ⟨u, hr, h6⟩ => ?_
      subst hr
      refine thnF h6 fun _ s7 ⟨x, H7, I7, r7, y7, st7, n7⟩ => ?_
      have I7' := I7.pinned (fpY I7 n7) (T.obj _ _ st7)
      refine thnF (pg.run _ s7 _ H7 x u _ I7' r7 (step x H7 y7)) fun _ s8 ⟨σ8, H8, I8, hw8, q8⟩ => thnF (pt.run _ s8 σ8 H8 _ I8 q8) fun b s9 ⟨H9, I9, q9⟩ => ?_
      have len8 : (wipe σ (own.map (·.2))).length = σ8.length := by rw [← hw8, wipe_length]
      have kn8 : ∀ (j : Nat) v, (wipe σ (own.map (·.2)))[j]? = some (some v) → σ8[j]? = some (some v) := fun j v e => by
        rw [← hw8] at e
        exact (wipe_some e).1
      have done1 : ∀ {s' : Shared} {H' : Hp}, L2.Inv (X.blk s3 H3 sc ce fp) ([] ++ pinsAt fp s7.heap) σ8 H' s' → Nx H' →
          ∃ m, m < n ∧ ∃ i H', L2.Inv (X.blk s3 H3 sc ce fp) [] (wipe σ (own.map (·.2))) H' s' ∧ tn i s'.heap ∧ (∀ b ∈ fp, H' b = none) ∧ W i m H' := fun {s' H'} J' nx => by
        obtain ⟨m', hm, w'⟩ := hNx H' nx
        have held : ∀ b ∈ fp, ∀ o, s7.heap.get? b = some o → s'.heap.get? b = some o ∧ H' b = none := fun b hb o e => by
          obtain ⟨z1, z2, _⟩ := J'.pin (b, o) (List.mem_append_right _ (List.mem_append_right _ (mem_pinsAt hb e)))
          exact ⟨z1, z2⟩
        exact ⟨m', hm, i + 1, H', (J'.unpinned (pins := [])).weak len8 kn8, T.keep _ _ _ st7 fun b hb o e => (held b hb o e).1, fun b hb => let ⟨o, e, _⟩ := T.obj _ _ st7 b hb; (held b hb o e).2, w'⟩
      cases b with
      | false =>
        refine iteF ?_
        exact done1 I9 q9
      | true =>
        refine iteT ?_
        refine thnF (pk.run _ s9 σ8 H9 _ I9 q9) fun ku s17 ⟨yk, H17, I17, r17, q17⟩ => thnF (pv.run _ s17 σ8 H17 _ I17 q17) fun vu s18 ⟨yv, H18, I18, r18, p1⟩ => ?_
        exact put_store (X := X.blk s3 H3 sc ce fp) hu I18 p1 r17 r18 fun s19 H19 I19 nx => done1 I19 nx
  exact codeAny_compStart_dict loop (T.self X.A 0 _ _ _ st4 loop)
end
end ML

set_option Elab.async false
set_option linter.all false
set_option maxRecDepth 100000
set_option autoImplicit false
namespace ML
open PySem PySem.Spec PyProof.Rows L2
/-! ### {k: v for tg in iter if ..}, tuples as keys: over data -/
def setBT (k : Nat) (kd vd : D) : M Unit := fun h => match h[k]? with
  | some (.tdc kvs) => if isTK kd = true ∧ kvs.length < sizeLine then some ((), h.set k (.tdc (putKD kvs kd vd))) else none
  | _ => none
def putBT (k : Nat) (mk mv : Sm → M D) : Sm → M Unit := fun σ => mk σ >>= fun kd => mv σ >>= fun vd => setBT k kd vd
noncomputable def dcTM (it : Sm → M (List D × Src)) (g : D → Sm → Option Sm) (tt : Sm → M Bool) (mk mv : Sm → M D) (vs : List Nat) : Sm → M D := cpM (.tdc []) it g tt vs fun k => putBT k mk mv
theorem put_bodyT {T : Tx} {k : Nat} {mk mv : Sm → M D} {Dn : Addr} {ι : List Addr} {H : Hp} {h h' : Hm} {σm : Sm} {σ : L2.St} {Nx : Hp → Prop} (hD : ι[k]? = some Dn) (r : Rl T ι H h) (rs : RS T ι H σm σ) (e : putBT k mk mv σm h = some ((), h')) (nx : ∀ ι1 H1, Ex ι H ι1 H1 → Rl T ι1 H1 h' → Nx H1) :
    lf T mk σ H fun y H4 => lf T mv σ H4 fun z H5 => Put1 T Dn Nx y z H5 := by
  refine lf_then r rs e (P := fun ι2 H2 => Rl T ι2 H2 h' → Nx H2) nx fun ι1 H1 y kd h2 x1 r1 rs1 q1 e1 k1 => ?_
  refine lf_then r1 rs1 e1 k1 fun ι2 H2 z vd h3 x2 r2 rs2 q2 e2 k2 => ?_
  have hD2 : ι2[k]? = some Dn := (x2.up r1).ix k Dn ((x1.up r).ix k Dn hD)
  have q1' := RV.up (x2.up r1) _ _ q1
  unfold setBT at e2
  cases q4 : h3[k]? with
  | none => rw [q4] at e2; cases e2
  | some ob =>
    rw [q4] at e2
    cases ob with
    | tdc kvs =>
      have e2 : (if isTK kd = true ∧ kvs.length < sizeLine then some ((), h3.set k (.tdc (putKD kvs kd vd))) else none) = some ((), h') := e2
      by_cases c : isTK kd = true ∧ kvs.length < sizeLine
      · rw [if_pos c] at e2
        obtain ⟨_, e5⟩ := some_pair e2
        subst e5
        obtain ⟨ds, nk, ed, ek, dk⟩ := isTK_of c.1
        subst ed
        obtain ⟨xs, hy, t⟩ := r2.obj k Dn _ hD2 q4
        have q0 := q1'
        rw [RV] at q0
        obtain ⟨b, zs, eb, _, _⟩ := q0
        subst eb
        refine ⟨ι2, .tup ds, nk, b, kvs, xs, q1', rfl, ek, dk, hy, t, c.2, fun u ru => ?_⟩
        obtain ⟨x4, r4⟩ := r2.put (u := .ext (TDx T.P T.w Dn (storedH xs nk b u))) (o := .tdc (putKD kvs (.tup ds) vd)) hD2 hy trivial fun up => ⟨_, upd_same, TRs.up up _ _ (TRs.put ek dk q1' q2 ru t)⟩
        exact k2 _ _ x4 r4
      · rw [if_neg c] at e2; cases e2
    | _ => cases e2
theorem dcT_rd {T : Tx} {it : Sm → M (List D × Src)} {g : D → Sm → Option Sm} {tt : Sm → M Bool} {mk mv : Sm → M D} {vs : List Nat} {σ : L2.St} {H : Hp} {Q : VK} (q : lf T (dcTM it g tt mk mv vs) σ H Q) :
    tDcT T (lfI T it) (lfG T vs g) (lfT T tt) (lf T mk) (lf T mv) vs σ H Q := by
  obtain ⟨ι, σm, h, d, h1, r, rs, e, k⟩ := q
  obtain ⟨p, h', e1, e0⟩ := bind_some e
  refine ⟨ι, σm, h, p, h', r, rs, e1, fun ι0 H0 J x0 r0 wk Dn hD => ?_⟩
  have e0 : (match cpR p.1 p.2 g tt (putBT h'.length mk mv) p.1 (wipeM σm vs) (h' ++ [.tdc []]) with | some (_, h1) => some (D.ref h'.length, h1) | none => none) = some (d, h1) := e0
  cases e2 : cpR p.1 p.2 g tt (putBT h'.length mk mv) p.1 (wipeM σm vs) (h' ++ [.tdc []]) with
  | none => rw [e2] at e0; cases e0
  | some pp =>
    obtain ⟨_, h2⟩ := pp
    rw [e2] at e0
    obtain ⟨e3, e4⟩ := some_pair e0
    subst e3 e4
    obtain ⟨xn, rn⟩ := r0.new (u := .ext (TDx T.P T.w Dn [])) (o := .tdc []) hD fun up => ⟨[], upd_same, rfl⟩
    have hat := new_at r0 Dn
    have x1 := x0.trans r0 xn
    refine cp_walk (TB := fun σ2 H3 Nx => lf T mk σ2 H3 fun y H4 => lf T mv σ2 H4 fun z H5 => Put1 T Dn Nx y z H5) wk r0 xn rn (rs.up (x1.up r)) (fun ι3 H3 h3 σ3 σ4 h4 Nx x3 r3 rs3 e5 nx => put_bodyT ((x3.up rn).ix _ _ hat) r3 rs3 e5 nx) e2 fun ι5 H5 x5 r5 => ?_
    refine k ι5 H5 (.ref Dn) (x1.trans rn x5) r5 ?_
    rw [RV]
    exact ⟨Dn, (x5.up rn).ix _ _ hat, rfl⟩
section
variable {X : Cx} {kx vx tg iter : Expr} {ifs : List Expr} {scope : Scope} {own : List (Str × Nat)} {pos spos py : Pos} {y : Str} {it : Sm → M (List D × Src)} {g : D → Sm → Option Sm} {tt : Sm → M Bool} {mk mv : Sm → M D}
theorem m_dcT (hu : X.A.units + 100 < cLine) (hc : X.calm = true) (hN : X.N.Nodup) (hi : PI X tg iter (lfI (tx X) it)) (ok : BlkOk X.N X.env.scope scope own)
    (hg : InBlk X scope fun Y => PG Y tg (lfG (tx X) (own.map (·.2)) g)) (ht : InBlk X scope fun Y => PTs Y ifs (lfT (tx X) tt)) (hk : InBlk X scope fun Y => PE Y kx (lf (tx X) mk)) (he : InBlk X scope fun Y => PE Y vx (lf (tx X) mv)) (hs : ∀ x, foldedSetIterable iter X.env x = pure x := by intro _; rfl) :
    PE X (.DictComp kx vx [⟨tg, iter, ifs, 0⟩] scope pos) (lf (tx X) (dcTM it g tt mk mv (own.map (·.2)))) := by
  refine ⟨fun pins s σ H Q I q => ?_⟩
  rw [arm_eval_DictComp]
  refine d1_core hu hc hN I hi ok hg ht hk he hs (dcT_rd q) fun Dn C s' m H' I' q2 hn f => ⟨m, hn, fun h'' sb => ?_⟩
  obtain ⟨f0, f1, f2, f3, f4, f5⟩ := f
  exact ⟨.ref Dn, H', I'.turned (t' := s'.toks) (fun b o hb e => (sb.2 b hb).trans e) f0 f1 f3 f4 f5, rfl, q2⟩
theorem s_setDcT (hu : X.A.units + 100 < cLine) (i : Nat) (hc : X.calm = true) (hN : X.N.Nodup) (hy : X.N[i]? = some y) (hyl : X.env.scope.names.lookup y = some .local) (hsw : swapsWith (.DictComp kx vx [⟨tg, iter, ifs, 0⟩] scope pos) (some (.Name y py)) spos.line X.env = pure true) (hi : PI X tg iter (lfI (tx X) it))
    (ok : BlkOk X.N X.env.scope scope own) (hg : InBlk X scope fun Y => PG Y tg (lfG (tx X) (own.map (·.2)) g)) (ht : InBlk X scope fun Y => PTs Y ifs (lfT (tx X) tt)) (hk : InBlk X scope fun Y => PE Y kx (lf (tx X) mk)) (he : InBlk X scope fun Y => PE Y vx (lf (tx X) mv)) (hs : ∀ x, foldedSetIterable iter X.env x = pure x := by intro _; rfl) :
    PS X (.Assign [.Name y py] (.DictComp kx vx [⟨tg, iter, ifs, 0⟩] scope pos) spos) (lfS (tx X) (setS i (dcTM it g tt mk mv (own.map (·.2))))) := by
  refine ⟨fun pins s σ H D I q => ?_⟩
  rw [exec_Assign_Name_used _ _ _ _ hsw]
  refine wpAny_bind (wpAny_standAt (wpAny_bind ?_))
  show wpAny _ X.A (comprehension (D1 kx vx tg iter ifs scope pos) scope X.env (firstIterPos [⟨tg, iter, ifs, 0⟩] pos) newDict false (eval iter X.env) (some (assign (.Name y py) X.env)) >>= _) _ _ s
  refine wpAny_bind (thn (d1_core (Q := fun x H1 => D.nx (σ.set i (some x)) H1) (Qf := fun _ s' => SP X pins D .next s') hu hc hN I hi ok hg ht hk he hs (dcT_rd (set_rd q)) fun L C s' m H' J q2 hn f => ?_) fun _ s' hq => wpAny_pure (wpAny_pure hq))
  obtain ⟨f0, f1, f2, f3, f4, f5⟩ := f
  show wpAny _ _ (assign (.Name y py) X.env (.ref L)) _ _ _
  refine wpAny_assign_Name (store_ok2 (v := V.ref L) J hN hy (.inl hyl) rfl (fun s2 I2 ⟨a, sb, ha⟩ => ?_) (.inr hyl))
  have neC : C ≠ a := ha.elim (fun z => by rw [z]; exact f1) fun z e => f4 y a z e.symm
  exact ⟨m, hn.sameBut sb neC, fun h3 sb3 => ⟨_, H', I2.turned (t' := s2.toks) (fun b o hb e => (sb3.2 b hb).trans e) f0 f1 f3 f4 f5, q2⟩⟩
end
end ML

set_option Elab.async false
set_option linter.all false
set_option maxRecDepth 100000
set_option autoImplicit false
namespace ML
open PySem L2
/-! ### one dict locked for a statement -/
/-- the object that a variable names -/
def slotK (σ : Sm) (i : Nat) : Option Nat := match σ[i]? with
  | some (some (.ref k)) => some k
  | _ => none
def lockAt (k : Option Nat) (h : Hm) : Hm := h.mapIdx fun i o => if some i = k then lockO o else o
def lockSA (i : Nat) (b : Sm → M Fl) : Sm → M Fl := fun σ h => match b σ (lockAt (slotK σ i) h) with
  | some (f, h1) => some (f, unlH h h1)
  | none => none
section
variable {X : Cx}
theorem lock_RlAt {pins : List (Addr × Obj)} {σ : St} {s : Shared} {ι : List Addr} {H : Hp} {h : Hm} (kk : Option Nat) (I : Inv X pins σ H s) (r : Rl (tx X) ι H h) : ∃ H', Inv X pins σ H' s ∧ Rl (tx X) ι H' (lockAt kk h) ∧ Up (tx X) ι H ι H' ∧ (∀ b, b ∉ ι → H' b = H b) ∧ (∀ b o u, H b = some (.frz o u) → H' b = some (.frz o u)) ∧ ∀ b, H' b = none → H b = none := by
  classical
  have key : ∃ L : List Addr, ∀ a, a ∈ L ↔ ∃ k, kk = some k ∧ ι[k]? = some a := by
    cases kk with
    | none => exact ⟨[], fun a => ⟨(fun z => by cases z), fun ⟨k, z, _⟩ => by cases z⟩⟩
    | some k =>
      cases q : ι[k]? with
      | none => exact ⟨[], fun a => ⟨(fun z => by cases z), fun ⟨k', z, z2⟩ => by cases z; rw [q] at z2; cases z2⟩⟩
      | some a => exact ⟨[a], fun b => ⟨fun z => by rw [List.mem_singleton.mp z]; exact ⟨k, rfl, q⟩, fun ⟨k', z, z2⟩ => by cases z; rw [q] at z2; cases z2; simp⟩⟩
  obtain ⟨L, hL⟩ := key
  obtain ⟨H', I', q⟩ := lock_list L H I
  have z : ∀ b u, H b = some u → ¬ Lk u → H' b = some u := fun b u e n => by
    rcases q b with ⟨_, u', od, l, e1, _⟩ | ⟨e1, _⟩
    · rw [e] at e1; cases e1; exact absurd l n
    · rw [e1, e]
  have up : Up (tx X) ι H ι H' := by
    refine ⟨fun _ _ e => e, fun a xs s => ?_, fun a xs s => ?_⟩
    · rcases s with (s | ⟨o, s⟩) | s
      · exact .inl (.inl (z _ _ s id))
      · exact .inl (.inr ⟨o, z _ _ s id⟩)
      · exact .inr s
    · rcases s with ⟨o, s⟩ | s
      · exact .inl ⟨o, z _ _ s id⟩
      · exact .inr s
  refine ⟨H', I', ⟨by unfold lockAt; rw [List.length_mapIdx, r.len], r.nd, fun i a o e1 e2 => ?_⟩, up, fun b nb => ?_, fun b o u e => z b _ e id, fun b e => ?_⟩
  · unfold lockAt at e2
    rw [List.getElem?_mapIdx] at e2
    obtain ⟨o', e3, e4⟩ := Option.map_eq_some_iff.mp e2
    subst e4
    have old := r.obj i a o' e1 e3
    by_cases hk : some i = kk
    · rw [if_pos hk]
      have hm : a ∈ L := (hL a).mpr ⟨i, hk.symm, e1⟩
      cases o' with
      | dic kvs =>
        obtain ⟨ks, ek, qk⟩ := old
        rcases q a with ⟨_, u, od, l, e5, e6⟩ | ⟨_, n⟩
        · rw [ek] at e5
          cases e5
          exact ⟨od, ks, e6, KRs.up up _ _ qk⟩
        · exact absurd ek (n hm _ trivial)
      | tdc kvs =>
        obtain ⟨ks, ek, qk⟩ := old
        rcases q a with ⟨_, u, od, l, e5, e6⟩ | ⟨_, n⟩
        · rw [ek] at e5
          cases e5
          exact ⟨od, ks, e6, TRs.up up _ _ qk⟩
        · exact absurd ek (n hm _ trivial)
      | lst ds =>
        obtain ⟨xs, ex, qx⟩ := old
        exact OR.up up ((z _ _ ex id).trans ex.symm) (o := .lst ds) ⟨xs, ex, qx⟩
      | ldic ds =>
        obtain ⟨od1, xs, ex, qx⟩ := old
        exact OR.up up ((z _ _ ex id).trans ex.symm) (o := .ldic ds) ⟨od1, xs, ex, qx⟩
      | ltdc ds =>
        obtain ⟨od1, xs, ex, qx⟩ := old
        exact OR.up up ((z _ _ ex id).trans ex.symm) (o := .ltdc ds) ⟨od1, xs, ex, qx⟩
      | ins c fs =>
        obtain ⟨C, dx, xs, e0, ex, qx⟩ := old
        exact OR.up up ((z _ _ ex id).trans ex.symm) (o := .ins c fs) ⟨C, dx, xs, e0, ex, qx⟩
    · rw [if_neg hk]
      have nm : a ∉ L := fun m => by
        obtain ⟨k, ek, e⟩ := (hL a).mp m
        have := nd_ix r.nd e e1
        subst this
        exact hk ek.symm
      rcases q a with ⟨m, _⟩ | ⟨e, _⟩
      · exact absurd m nm
      · exact OR.up up e old
  · rcases q b with ⟨m, _⟩ | ⟨e, _⟩
    · obtain ⟨k, _, e⟩ := (hL b).mp m
      exact absurd (List.mem_of_getElem? e) nb
    · exact e
  · rcases q b with ⟨_, u, od, l, e1, e2⟩ | ⟨e1, _⟩
    · rw [e] at e2; cases e2
    · rw [← e1, e]
theorem s_lockAt {st : Stmt} {b : Sm → M Fl} (i : Nat) (hs : PS X st (lfS (tx X) b)) : PS X st (lfS (tx X) (lockSA i b)) := by
  refine ⟨fun pins s σ H D I q => ?_⟩
  obtain ⟨ι, σm, h, f, h1, r, rs, e1, k⟩ := q
  unfold lockSA at e1
  cases e2 : b σm (lockAt (slotK σm i) h) with
  | none => rw [e2] at e1; cases e1
  | some p =>
    obtain ⟨fl, h2⟩ := p
    rw [e2] at e1
    obtain ⟨e3, e4⟩ := some_pair e1
    subst e3 e4
    obtain ⟨H', I', r', up, n1, n2, n3⟩ := lock_RlAt (slotK σm i) I r
    have open_ : ∀ {s1 : Shared} {σ1 : St} {H1 : Hp} {ι1 : List Addr}, Inv X pins σ1 H1 s1 → Ex ι H' ι1 H1 → Rl (tx X) ι1 H1 h2 → ∃ H2, Inv X pins σ1 H2 s1 ∧ Up (tx X) ι1 H1 ι1 H2 ∧ EndF (tx X) ι1 H2 D fl := fun {s1 σ1 H1 ι1} I1 x r1 => by
      obtain ⟨H2, I2, r2, up2, m1, m2⟩ := unlock_Rl I r (by obtain ⟨t, et, _⟩ := x.pre; exact ⟨t, et⟩) I1 r1
      refine ⟨H2, I2, up2, k ι1 H2 ⟨?_, fun b o eb nb => ?_, fun b o u eb => ?_⟩ r2⟩
      · obtain ⟨t, et, nt⟩ := x.pre
        exact ⟨t, et, fun b mb => n3 b (nt b mb)⟩
      · rw [m1 b nb]
        exact x.fr b o (by rw [n1 b nb]; exact eb) nb
      · rw [m2 b o u eb]
        exact x.fz b o u (n2 b o u eb)
    refine thn (hs.run pins s σ H' ⟨fun σ1 H1 => ∃ ι1 σm1, fl = .nx σm1 ∧ Ex ι H' ι1 H1 ∧ Rl (tx X) ι1 H1 h2 ∧ RS (tx X) ι1 H1 σm1 σ1, fun v H1 => ∃ ι1 d, fl = .rt d ∧ Ex ι H' ι1 H1 ∧ Rl (tx X) ι1 H1 h2 ∧ RV (tx X) ι1 H1 d v,
      fun σ1 H1 => ∃ ι1 σm1, fl = .bk σm1 ∧ Ex ι H' ι1 H1 ∧ Rl (tx X) ι1 H1 h2 ∧ RS (tx X) ι1 H1 σm1 σ1, fun σ1 H1 => ∃ ι1 σm1, fl = .ct σm1 ∧ Ex ι H' ι1 H1 ∧ Rl (tx X) ι1 H1 h2 ∧ RS (tx X) ι1 H1 σm1 σ1⟩ I' ⟨ι, σm, lockAt (slotK σm i) h, fl, h2, r', rs.up up, e2, fun ι1 H1 x r1 => ?_⟩) fun f2 s1 hf => ?_
    · cases fl with
      | nx σ1 => exact fun σ2 r2 => ⟨ι1, σ1, rfl, x, r1, r2⟩
      | rt d => exact fun v q => ⟨ι1, d, rfl, x, r1, q⟩
      | bk σ1 => exact fun σ2 r2 => ⟨ι1, σ1, rfl, x, r1, r2⟩
      | ct σ1 => exact fun σ2 r2 => ⟨ι1, σ1, rfl, x, r1, r2⟩
    · cases f2 with
      | next =>
        obtain ⟨σ1, H1, I1, ι1, σm1, ef, x, r1, rs1⟩ := hf
        obtain ⟨H2, I2, u2, kk⟩ := open_ I1 x r1
        subst ef
        exact ⟨σ1, H2, I2, kk σ1 (rs1.up u2)⟩
      | brk =>
        obtain ⟨σ1, H1, I1, ι1, σm1, ef, x, r1, rs1⟩ := hf
        obtain ⟨H2, I2, u2, kk⟩ := open_ I1 x r1
        subst ef
        exact ⟨σ1, H2, I2, kk σ1 (rs1.up u2)⟩
      | cont =>
        obtain ⟨σ1, H1, I1, ι1, σm1, ef, x, r1, rs1⟩ := hf
        obtain ⟨H2, I2, u2, kk⟩ := open_ I1 x r1
        subst ef
        exact ⟨σ1, H2, I2, kk σ1 (rs1.up u2)⟩
      | ret v =>
        obtain ⟨v', σ1, H1, I1, rv, ι1, d, ef, x, r1, q1⟩ := hf
        obtain ⟨H2, I2, u2, kk⟩ := open_ I1 x r1
        subst ef
        exact ⟨v', σ1, H2, I2, rv, kk v' (q1.up u2 _ _)⟩
end
end ML

set_option Elab.async false
set_option linter.all false
set_option maxRecDepth 100000
set_option autoImplicit false
namespace ML
open PySem L2
/-! ### reading dicts with tuple keys -/
/-- what an object holds under tuple keys -/
def TdAt (h : Hm) (k : Nat) (kvs : List (D × D)) : Prop := h[k]? = some (.tdc kvs) ∨ h[k]? = some (.ltdc kvs)
section
variable {σ : Sm} {h : Hm} {Q : D → Hm → Prop}
theorem wp_met2T {g : D → D → D → M D} {mo mk mx : Sm → M D} (w : wp (mo σ h) fun o h1 => ∃ k, o = .ref k ∧ (∃ kvs, TdAt h1 k kvs) ∧ wp (mk σ h1) fun kd h2 => wp (mx σ h2) fun x h3 => wp (g (.ref k) kd x h3) Q) : wp (met2T g mo mk mx σ h) Q := by
  obtain ⟨o, h1, e1, k, rfl, ⟨kvs, ek⟩, w⟩ := w
  unfold met2T
  refine wp_bind (wp_bind ?_)
  refine ⟨_, h1, e1, ?_⟩
  refine ⟨.ref k, h1, ?_, wp_bind (wp_imp w fun _ _ => wp_bind)⟩
  unfold isTd
  rcases ek with ek | ek <;> (dsimp only; rw [ek])
theorem wp_get2T {k : Nat} {kd x : D} {kvs : List (D × D)} (ek : TdAt h k kvs) (hk : isTK kd = true) (q : Q ((getK kvs kd).getD x) h) : wp (get2T (.ref k) kd x h) Q := by
  refine ⟨_, h, ?_, q⟩
  unfold get2T
  rcases ek with ek | ek <;> (dsimp only; rw [ek]; exact if_pos hk)
theorem wp_setd2T {k : Nat} {kd x : D} {kvs : List (D × D)} (ek : h[k]? = some (.tdc kvs)) (hk : isTK kd = true) (hl : kvs.length < sizeLine) (q1 : ∀ v, getK kvs kd = some v → Q v h) (q2 : getK kvs kd = none → Q x (h.set k (.tdc (putKD kvs kd x)))) : wp (setd2T (.ref k) kd x h) Q := by
  unfold setd2T
  dsimp only
  rw [ek]
  dsimp only
  rw [if_pos ⟨hk, hl⟩]
  cases e : getK kvs kd with
  | none => exact ⟨_, _, rfl, q2 e⟩
  | some v => exact ⟨_, _, rfl, q1 v e⟩
theorem wp_ixT {k : Nat} {kd v : D} {kvs : List (D × D)} (ek : TdAt h k kvs) (hk : isTK kd = true) (ev : getK kvs kd = some v) (q : Q v h) : wp (ixT (.ref k) kd h) Q := by
  refine ⟨v, h, ?_, q⟩
  unfold ixT
  rcases ek with ek | ek <;> (dsimp only; rw [ek]; dsimp only; rw [if_pos hk, ev]; rfl)
theorem wp_inT {neg : Bool} {k : Nat} {kd : D} {kvs : List (D × D)} (ek : TdAt h k kvs) (hk : isTK kd = true) (q : Q (.bl (if neg then !(kvs.any fun p => decide (p.1 = kd)) else kvs.any fun p => decide (p.1 = kd))) h) : wp (inT neg kd (.ref k) h) Q := by
  refine ⟨_, h, ?_, q⟩
  unfold inT
  rcases ek with ek | ek <;> (dsimp only; rw [ek]; exact if_pos hk)
end
section
variable {σ : Sm} {h : Hm}
theorem wi_tkey {m : Sm → M D} {Q : List D × Src → Hm → Prop} (w : wp (m σ h) fun d h1 => ∃ k kvs, d = .ref k ∧ h1[k]? = some (.ltdc kvs) ∧ Q (kvs.map (·.1), []) h1) : wp (itT m σ h) Q := by
  obtain ⟨d, h1, e, k, kvs, rfl, ek, q⟩ := w
  refine ⟨_, h1, ?_, q⟩
  unfold itT
  refine (bind_of e).trans ?_
  unfold keyT
  dsimp only
  rw [ek]
theorem wl_lisT {m : Sm → M D} {Q : List D → Hm → Prop} (w : wp (m σ h) fun d h1 => ∃ k kvs, d = .ref k ∧ TdAt h1 k kvs ∧ Q (kvs.map (·.1)) h1) : wp (lisTM m σ h) Q := by
  obtain ⟨d, h1, e, k, kvs, rfl, ek, q⟩ := w
  refine ⟨_, h1, ?_, q⟩
  unfold lisTM
  refine (bind_of e).trans ?_
  unfold listTC
  rcases ek with ek | ek <;> (dsimp only; rw [ek])
theorem wl_valT {m : Sm → M D} {Q : List D → Hm → Prop} (w : wp (m σ h) fun d h1 => ∃ k kvs, d = .ref k ∧ TdAt h1 k kvs ∧ Q (kvs.map (·.2)) h1) : wp (valTM m σ h) Q := by
  obtain ⟨d, h1, e, k, kvs, rfl, ek, q⟩ := w
  refine ⟨_, h1, ?_, q⟩
  unfold valTM
  refine (bind_of e).trans ?_
  unfold valsTC
  rcases ek with ek | ek <;> (dsimp only; rw [ek])
theorem wu_putT {k : Nat} {mk mv : Sm → M D} {Q : Unit → Hm → Prop} (w : wp (mk σ h) fun kd h1 => wp (mv σ h1) fun vd h2 => ∃ kvs, h2[k]? = some (.tdc kvs) ∧ isTK kd = true ∧ kvs.length < sizeLine ∧ Q () (h2.set k (.tdc (putKD kvs kd vd)))) : wp (putBT k mk mv σ h) Q := by
  obtain ⟨kd, h1, e1, vd, h2, e2, kvs, ek, hk, hl, q⟩ := w
  refine ⟨(), _, ?_, q⟩
  unfold putBT
  refine (bind_of e1).trans ((bind_of e2).trans ?_)
  unfold setBT
  rw [ek]
  exact if_pos ⟨hk, hl⟩
theorem wp_dcT {it : Sm → M (List D × Src)} {g : D → Sm → Option Sm} {tt : Sm → M Bool} {mk mv : Sm → M D} {vs : List Nat} {Q : D → Hm → Prop} (w : wp (it σ h) fun p h1 => wp (cpR p.1 p.2 g tt (putBT h1.length mk mv) p.1 (wipeM σ vs) (h1 ++ [.tdc []])) fun _ h2 => Q (.ref h1.length) h2) : wp (dcTM it g tt mk mv vs σ h) Q := wp_cp (o := .tdc []) (b := fun k => putBT k mk mv) w
theorem ws_lockSA {i : Nat} {b : Sm → M Fl} {N B C : Sm → Hm → Prop} {R : D → Hm → Prop} (w : wpS (b σ (lockAt (slotK σ i) h)) (fun σ1 h1 => N σ1 (unlH h h1)) (fun d h1 => R d (unlH h h1)) (fun σ1 h1 => B σ1 (unlH h h1)) (fun σ1 h1 => C σ1 (unlH h h1))) : wpS (lockSA i b σ h) N R B C := by
  obtain ⟨f, h1, e, q⟩ := w
  refine ⟨f, _, by unfold lockSA; rw [e], ?_⟩
  cases f <;> exact q
theorem wp_popI {mo me : Sm → M D} {Q : D → Hm → Prop} (w : wp (mo σ h) fun o h1 => ∃ k xs, o = .ref k ∧ h1[k]? = some (.lst xs) ∧ wp (me σ h1) fun d h2 => ∃ i ys y, d = .int i ∧ h2[k]? = some (.lst ys) ∧ 0 ≤ i ∧ ys[i.toNat]? = some y ∧ Q y (h2.set k (.lst (ys.eraseIdx i.toNat)))) : wp (metL popIL mo (consA me nilA) σ h) Q := by
  obtain ⟨o, h1, e1, k, xs, rfl, ek, d, h2, e2, i, ys, y, rfl, ek2, h0, ey, q⟩ := w
  refine ⟨y, _, ?_, q⟩
  have l1 : isL (.ref k) h1 = some (.ref k, h1) := by unfold isL; dsimp only; rw [ek]
  have a1 : consA me nilA σ h1 = some ([.int i], h2) := cons_of e2 nil_of
  unfold metL
  rw [bind_app, bind_of e1, l1]
  dsimp only
  rw [bind_of a1]
  unfold popIL
  dsimp only
  rw [ek2]
  dsimp only
  rw [if_pos h0, ey]
  rfl
end
end ML

set_option Elab.async false
set_option linter.all false
set_option maxRecDepth 100000
set_option autoImplicit false
namespace ML
open PySem L2
/-! ### a text walked, a sign in a text -/
def signsD (x : Str) : List D := x.cps.toList.map fun c => D.str ⟨#[c]⟩
def itS (m : Sm → M D) : Sm → M (List D × Src) := fun σ => m σ >>= fun d => match d with
  | .str x => pure (signsD x, [])
  | _ => M.bad
theorem wk_str {T : Tx} {ι : List Addr} {H : Hp} {x : Str} : Wk T ι H (Its x) (signsD x) [] := by
  have hl : (signsD x).length = x.cps.size := by unfold signsD; rw [List.length_map]; rfl
  refine ⟨fun ι1 H1 h1 i x1 r1 c hi => ?_, fun ι1 H1 h1 x1 r1 c => by rw [hl]; exact Nat.le_refl _⟩
  rw [hl] at hi
  refine ⟨hi, fun y H' hy => ?_⟩
  obtain ⟨e, c', ec, ey⟩ := hy
  subst e ey
  refine ⟨Ex.refl _ _, r1, .str ⟨#[c']⟩, ?_, by rw [RV]⟩
  unfold signsD
  rw [List.getElem?_map, Array.getElem?_toList, ec]
  rfl
section
variable {X : Cx} {tg l : Expr} {m : Sm → M D}
theorem i_str (hl : PE X l (lf (tx X) m)) : PI X tg l (lfI (tx X) (itS m)) := (pi_str hl).imp fun σ H R q => by
  obtain ⟨ι, σm, h, p, h1, r, rs, e, k⟩ := q
  refine lf_then r rs e (P := fun ι2 H2 => ∀ J, Rl (tx X) ι2 H2 h1 → Wk (tx X) ι2 H2 J p.1 p.2 → R J H2) (fun ι2 H2 y J => k ι2 H2 J y) fun ι1 H1 x d h' x1 r1 rs1 q1 e1 k1 => ?_
  cases d with
  | str z =>
    obtain ⟨e2, e3⟩ := pure_some e1
    subst e2 e3
    rw [RV] at q1
    exact ⟨z, q1, k1 _ _ (Ex.refl _ _) _ r1 wk_str⟩
  | _ => cases e1
end
def inS (neg : Bool) : D → D → M D
  | .str x, .str z => (match x.cps.toList with
    | [c] => pure (.bl (if neg then !decide (c ∈ z.cps.toList) else decide (c ∈ z.cps.toList)))
    | _ => M.bad)
  | _, _ => M.bad
def rInSg (neg : Bool) : R2 := fun x y H Q => ∃ (c : Nat) (z : Str), x = .str ⟨#[c]⟩ ∧ y = .str z ∧ Q (.bl (if neg then !decide (c ∈ z.cps.toList) else decide (c ∈ z.cps.toList))) H
section
variable {X : Cx}
theorem o_inS : OpR X (compareOp .In) (rInSg false) := op_in_sign
theorem o_notInS : OpR X (compareOp .NotIn) (rInSg true) := op_notIn_sign
theorem o2_inS {neg : Bool} : Op2 (tx X) (rInSg neg) (inS neg) := by
  intro ι H h x y a b d h1 Q r qa qb e k
  cases a with
  | str u =>
    cases b with
    | str z =>
      have e : (match u.cps.toList with | [c] => (pure (.bl (if neg then !decide (c ∈ z.cps.toList) else decide (c ∈ z.cps.toList))) : M D) | _ => M.bad) h = some (d, h1) := e
      obtain ⟨⟨l⟩⟩ := u
      cases l with
      | nil => cases e
      | cons c l =>
        cases l with
        | cons c' l => cases e
        | nil =>
          obtain ⟨e1, e2⟩ := pure_some e
          subst e1 e2
          rw [RV] at qa qb
          exact ⟨c, z, qa, qb, k _ _ _ (Ex.refl _ _) r (by rw [RV])⟩
    | _ => cases e
  | _ => cases e
end
/-! ### d.get(k) -/
def met1D (g : D → D → D → M D) (mo mk : Sm → M D) : Sm → M D := fun σ => mo σ >>= isDc >>= fun d => mk σ >>= fun k => g d k .non
section
variable {X : Cx} {o e : Expr} {mo mk : Sm → M D} {apos cpos : Pos}
theorem m_dget1 (hu : X.A.units + 1 < cLine) (ho : PE X o (lf (tx X) mo)) (he : PE X e (lf (tx X) mk)) (m : M1 X o "get" apos e cpos) : PE X (.Call (.Attribute o "get" apos) [e] [] cpos) (lf (tx X) (met1D get2D mo mk)) := (pe_dget1 hu ho he m).imp fun σ H Q q => by
  obtain ⟨ι, σm, h, d, h1, r, rs, e, k⟩ := q
  obtain ⟨d1, h2, e1, e2⟩ := bind_some e
  obtain ⟨d0, h0, e3, e4⟩ := bind_some e1
  refine ⟨ι, σm, h, d0, h0, r, rs, e3, fun ι1 H1 x x1 r1 q1 => ?_⟩
  obtain ⟨ed, eh, a, ex, id⟩ := isDc_of r1 q1 e4
  subst ed eh
  refine ⟨a, ex, id, ?_⟩
  refine lf_then r1 (rs.up (x1.up r)) e2 (P := fun ι2 H2 => ∀ v, Rl (tx X) ι2 H2 h1 → RV (tx X) ι2 H2 d v → Q v H2) (fun ι2 H2 y v => k ι2 H2 v (x1.trans r1 y)) fun ι2 H2 ky kd h4 x2 r3 rs2 q2' e6 k3 => ?_
  have q1' := RV.up (x2.up r1) _ _ q1
  have q3 : RV (tx X) ι2 H2 .non .non := by rw [RV]
  cases d1 with
  | ref kk =>
    have e6 : (match h4[kk]? with | some (.dic kvs) => if (kD kd).isSome = true then some ((getK kvs kd).getD .non, h4) else none | some (.ldic kvs) => if (kD kd).isSome = true then some ((getK kvs kd).getD .non, h4) else none | _ => none) = some (d, h1) := e6
    cases q4 : h4[kk]? with
    | none => rw [q4] at e6; cases e6
    | some ob =>
      rw [q4] at e6
      cases ob with
      | dic kvs =>
        have e6 : (if (kD kd).isSome = true then some ((getK kvs kd).getD .non, h4) else none) = some (d, h1) := e6
        by_cases c : (kD kd).isSome = true
        · rw [if_pos c] at e6
          obtain ⟨e7, e8⟩ := some_pair e6
          subst e7 e8
          obtain ⟨key, ek⟩ := Option.isSome_iff_exists.mp c
          obtain ⟨p, ks, ep, _, hy, q⟩ := at_dic r3 q1' q4
          have ea : a = p := by rw [ex] at ep; injection ep
          subst ea
          refine ⟨valV ks key, ?_, k3 _ _ (Ex.refl _ _) _ r3 (getD_rv ek q q3)⟩
          rw [kD_V ek q2']
          exact DGet.k hy
        · rw [if_neg c] at e6; cases e6
      | ldic kvs =>
        have e6 : (if (kD kd).isSome = true then some ((getK kvs kd).getD .non, h4) else none) = some (d, h1) := e6
        by_cases c : (kD kd).isSome = true
        · rw [if_pos c] at e6
          obtain ⟨e7, e8⟩ := some_pair e6
          subst e7 e8
          obtain ⟨key, ek⟩ := Option.isSome_iff_exists.mp c
          obtain ⟨p, ob, ks, ep, _, hy, q⟩ := at_ldic r3 q1' q4
          have ea : a = p := by rw [ex] at ep; injection ep
          subst ea
          refine ⟨valV ks key, ?_, k3 _ _ (Ex.refl _ _) _ r3 (getD_rv ek q q3)⟩
          rw [kD_V ek q2']
          exact .inl ⟨ks, key, .inr ⟨ob, hy⟩, rfl, rfl⟩
        · rw [if_neg c] at e6; cases e6
      | _ => cases e6
  | _ => cases e6
end
/-! ### a list that is walked: of ours, or a tuple; enumerate, zip -/
/-- a list value, what is walked of it, and how it is checked -/
def lvF (f : List D → List D) (d : D) : M (List D × Src) := fun h => match d with
  | .fro ds => some ((f ds, []), h)
  | .ref k => match h[k]? with
    | some (.lst ds) => some ((f ds, [(k, ds)]), h)
    | _ => none
  | _ => none
def enuD : D → M (List D × Src) := lvF enumI
/-- enumerate of a value that is a list -/
def itEv (m : Sm → M D) : Sm → M (List D × Src) := fun σ => m σ >>= enuD
/-- what a list value reads, whatever else happens -/
theorem lst_reads {X : Cx} {ι : List Addr} {H : Hp} {h h1 : Hm} {d : D} {x : V} {p : List D × Src} {f : List D → List D} (r : Rl (tx X) ι H h) (q : RV (tx X) ι H d x)
    (e : lvF f d h = some (p, h1)) :
    h1 = h ∧ ∃ a ds, x = .ref a ∧ p.1 = f ds ∧ ∀ ι1 H1 h1, Ex ι H ι1 H1 → Rl (tx X) ι1 H1 h1 → (∀ items, Chk items p.2 h1) → ∃ xs, SqL X.K H1 a xs ∧ RVs (tx X) ι1 H1 ds xs := by
  cases d with
  | fro ds =>
    have e2 : some ((f ds, ([] : Src)), h) = some (p, h1) := e
    injection e2 with e2
    injection e2 with e3 e4
    subst e3 e4
    rw [RV] at q
    obtain ⟨a, xs, ea, sq, qs⟩ := q
    exact ⟨rfl, a, ds, ea, rfl, fun ι1 H1 h1 x1 r1 _ => ⟨xs, ((x1.up r).fz a xs sq).sq, RVs.up (x1.up r) _ _ qs⟩⟩
  | ref kk =>
    have e2 : (match h[kk]? with | some (.lst ds) => some ((f ds, [(kk, ds)]), h) | _ => none) = some (p, h1) := e
    cases q2 : h[kk]? with
    | none => rw [q2] at e2; cases e2
    | some o =>
      cases o with
      | lst ds =>
        rw [q2] at e2
        injection e2 with e2
        injection e2 with e3 e4
        subst e3 e4
        rw [RV] at q
        obtain ⟨a, ha, ea⟩ := q
        refine ⟨rfl, a, ds, ea, rfl, fun ι1 H1 h1 x1 r1 c => ?_⟩
        obtain ⟨xs, hx, qs⟩ := r1.obj kk a _ ((x1.up r).ix kk a ha) (c ds).get
        exact ⟨xs, SqL.of hx, qs⟩
      | _ => rw [q2] at e2; cases e2
  | _ => cases e
theorem chk_any {items : List D} {src : Src} {h : Hm} (c : Chk items src h) (items' : List D) : Chk items' src h := c
theorem lst_src {d : D} {h h1 : Hm} {p : List D × Src} {f : List D → List D} (e : lvF f d h = some (p, h1)) : ∀ items, Chk items p.2 h := by
  cases d with
  | fro ds =>
    have e2 : some ((f ds, ([] : Src)), h) = some (p, h1) := e
    injection e2 with e2
    injection e2 with e3 e4
    subst e3
    exact fun _ => Chk.nil
  | ref kk =>
    have e2 : (match h[kk]? with | some (.lst ds) => some ((f ds, [(kk, ds)]), h) | _ => none) = some (p, h1) := e
    cases q2 : h[kk]? with
    | none => rw [q2] at e2; cases e2
    | some o =>
      cases o with
      | lst ds =>
        rw [q2] at e2
        injection e2 with e2
        injection e2 with e3 e4
        subst e3
        exact fun _ => Chk.one q2
      | _ => rw [q2] at e2; cases e2
  | _ => cases e
theorem wk_enumv {T : Tx} {ι : List Addr} {H : Hp} {a : Addr} {ds : List D} {src : Src} (st : ∀ ι1 H1 h1, Ex ι H ι1 H1 → Rl T ι1 H1 h1 → (∀ items, Chk items src h1) → ∃ xs, SqL T.K H1 a xs ∧ RVs T ι1 H1 ds xs) : Wk T ι H (Ite T.K a) (enumI ds) src := by
  refine ⟨fun ι1 H1 h1 i x1 r1 c hi => ?_, fun ι1 H1 h1 x1 r1 c => ?_⟩
  · rw [enumI_len] at hi
    obtain ⟨xs, hs, q⟩ := st ι1 H1 h1 x1 r1 (chk_any c)
    obtain ⟨x, ex, qx⟩ := q.get (List.getElem?_eq_getElem hi)
    refine ⟨⟨xs, x, hs, ex⟩, fun y H' hy => ?_⟩
    obtain ⟨Tn, x', ey, hT, eH, f⟩ := hy
    subst ey eH
    have e2 := (f xs hs).symm.trans ex
    cases e2
    have qs : RVs T ι1 H1 [.int i, ds[i]] [.int (i : Nat), x] := by
      rw [RVs]
      refine ⟨_, _, rfl, by rw [RV], ?_⟩
      rw [RVs]
      exact ⟨_, _, rfl, qx, by rw [RVs]⟩
    obtain ⟨x3, r3, q3⟩ := new_tup r1 hT qs
    exact ⟨x3, r3, _, enumI_get hi, q3⟩
  · obtain ⟨xs, hs, q⟩ := st ι1 H1 h1 x1 r1 (chk_any c)
    exact ⟨xs, hs, by rw [enumI_len, q.length]; exact Nat.le_refl _⟩
section
variable {X : Cx}
theorem i_enumv {e : Expr} {m : Sm → M D} {p pos tpos : Pos} {elts : List Expr} {kk : Nat} (hg : Gl X "enumerate") (hm : X.mg "enumerate" = none) (he : PE X e (lf (tx X) m)) (hs : starEach [e] X.env = (false, eval e X.env) :: starEach [] X.env := by rfl) (hs' : starEach [e] X.env = [(false, eval e X.env)] := by rfl) :
    PI X (.Tuple elts kk tpos) (.Call (.Name "enumerate" p) [e] [] pos) (lfI (tx X) (itEv m)) := (pi_enum hg hm (pa_cons he pa_nil hs) hs').imp fun σ H R q => by
  obtain ⟨ι, σm, h, p, h1, r, rs, e, k⟩ := q
  show lf (tx X) m σ H fun v H1 => ∃ a xs, [v] = [V.ref a] ∧ SqL X.K H1 a xs ∧ R (Ite X.K a) H1
  refine lf_then r rs e (P := fun ι2 H2 => ∀ J, Rl (tx X) ι2 H2 h1 → Wk (tx X) ι2 H2 J p.1 p.2 → R J H2) (fun ι2 H2 y J => k ι2 H2 J y) fun ι1 H1 x d h' x1 r1 rs1 q1 e1 k1 => ?_
  obtain ⟨eh, a, ds, ex, ep, rd⟩ := lst_reads (f := enumI) r1 q1 e1
  have hc := lst_src (f := enumI) e1
  subst eh ex
  obtain ⟨xs, hx, _⟩ := rd _ _ _ (Ex.refl _ _) r1 hc
  refine ⟨a, xs, rfl, hx, k1 _ _ (Ex.refl _ _) _ r1 ?_⟩
  rw [ep]
  exact wk_enumv rd
end
def idL (xs : List D) : List D := xs
def lvD : D → M (List D × Src) := lvF idL
def zipI (xs ys : List D) : List D := (xs.zip ys).map fun p => D.tup [p.1, p.2]
def zipD (ds : List D) : M (List D × Src) := match ds with
  | [a, b] => lvD a >>= fun p => lvD b >>= fun q => pure (zipI p.1 q.1, p.2 ++ q.2)
  | _ => M.bad
def itZ (ms : Sm → M (List D)) : Sm → M (List D × Src) := fun σ => ms σ >>= zipD
theorem wk_zip {T : Tx} {ι : List Addr} {H : Hp} {a b : Addr} {ds es : List D} {src src' : Src}
    (st : ∀ ι1 H1 h1, Ex ι H ι1 H1 → Rl T ι1 H1 h1 → (∀ items, Chk items src h1) → ∃ xs, SqL T.K H1 a xs ∧ RVs T ι1 H1 ds xs)
    (st' : ∀ ι1 H1 h1, Ex ι H ι1 H1 → Rl T ι1 H1 h1 → (∀ items, Chk items src' h1) → ∃ xs, SqL T.K H1 b xs ∧ RVs T ι1 H1 es xs) : Wk T ι H (Itz T.K a b) (zipI ds es) (src ++ src') := by
  have hl : (zipI ds es).length = min ds.length es.length := by unfold zipI; rw [List.length_map, List.length_zip]
  refine ⟨fun ι1 H1 h1 i x1 r1 c hi => ?_, fun ι1 H1 h1 x1 r1 c => ?_⟩
  · rw [hl] at hi
    obtain ⟨xs, hs, q⟩ := st ι1 H1 h1 x1 r1 (fun _ p m => c p (List.mem_append_left _ m))
    obtain ⟨ys, hs', q'⟩ := st' ι1 H1 h1 x1 r1 (fun _ p m => c p (List.mem_append_right _ m))
    have h1' : i < ds.length := by omega
    have h2' : i < es.length := by omega
    obtain ⟨x, ex, qx⟩ := q.get (List.getElem?_eq_getElem h1')
    obtain ⟨x', ex', qx'⟩ := q'.get (List.getElem?_eq_getElem h2')
    refine ⟨⟨xs, ys, x, x', hs, hs', ex, ex'⟩, fun y H' hy => ?_⟩
    obtain ⟨Tn, u, u', ey, hT, eH, f, f'⟩ := hy
    subst ey eH
    have e2 := (f xs hs).symm.trans ex
    cases e2
    have e2 := (f' ys hs').symm.trans ex'
    cases e2
    have qs : RVs T ι1 H1 [ds[i], es[i]] [x, x'] := by
      rw [RVs]
      refine ⟨_, _, rfl, qx, ?_⟩
      rw [RVs]
      exact ⟨_, _, rfl, qx', by rw [RVs]⟩
    obtain ⟨x3, r3, q3⟩ := new_tup r1 hT qs
    refine ⟨x3, r3, _, ?_, q3⟩
    unfold zipI
    have hz : i < (ds.zip es).length := by rw [List.length_zip]; exact hi
    rw [List.getElem?_map, List.getElem?_eq_getElem hz, List.getElem_zip]
    rfl
  · obtain ⟨xs, hs, q⟩ := st ι1 H1 h1 x1 r1 (fun _ p m => c p (List.mem_append_left _ m))
    obtain ⟨ys, hs', q'⟩ := st' ι1 H1 h1 x1 r1 (fun _ p m => c p (List.mem_append_right _ m))
    refine ⟨xs, ys, hs, hs', ?_⟩
    rw [hl, q.length, q'.length]
    omega
section
variable {X : Cx}
theorem i_zip {e e2 : Expr} {ms : Sm → M (List D)} {p pos tpos : Pos} {elts : List Expr} {kk : Nat} (hg : Gl X "zip") (hm : X.mg "zip" = none) (ha : PA X [e, e2] (lfA (tx X) ms))
    (hs : starEach [e, e2] X.env = (false, eval e X.env) :: starEach [e2] X.env := by rfl) (hpl : (backTo pos (starEach [e2] X.env)).any (·.1) = false := by rfl) :
    PI X (.Tuple elts kk tpos) (.Call (.Name "zip" p) [e, e2] [] pos) (lfI (tx X) (itZ ms)) := (pi_zip hg hm ha hs hpl).imp fun σ H R q => by
  obtain ⟨ι, σm, h, p, h1, r, rs, e, k⟩ := q
  refine lfA_then r rs e (P := fun ι2 H2 => ∀ J, Rl (tx X) ι2 H2 h1 → Wk (tx X) ι2 H2 J p.1 p.2 → R J H2) (fun ι2 H2 y J => k ι2 H2 J y) fun ι1 H1 xs ds h' x1 r1 rs1 q1 e1 k1 => ?_
  unfold zipD at e1
  split at e1
  · rename_i a b
    obtain ⟨x, y, exy, qx, qy⟩ := RVs2 q1
    obtain ⟨p1, h2, e2, e3⟩ := bind_some e1
    obtain ⟨p2, h3, e4, e5⟩ := bind_some e3
    obtain ⟨e6, e7⟩ := pure_some e5
    subst e6 e7
    obtain ⟨eh, a', ds', ex, ep, rd⟩ := lst_reads (f := idL) r1 qx e2
    have hc := lst_src (f := idL) e2
    subst eh ex
    obtain ⟨eh, b', es', ex, ep', rd'⟩ := lst_reads (f := idL) r1 qy e4
    have hc' := lst_src (f := idL) e4
    subst eh ex
    obtain ⟨us, hu, _⟩ := rd _ _ _ (Ex.refl _ _) r1 hc
    obtain ⟨us', hu', _⟩ := rd' _ _ _ (Ex.refl _ _) r1 hc'
    refine ⟨a', b', us, us', exy, hu, hu', k1 _ _ (Ex.refl _ _) _ r1 ?_⟩
    rw [ep, ep']
    exact wk_zip rd rd'
  · cases e1
end
/-! ### list(range(a, b)) -/
def rngL (lo hi : Int) : M (List D) := if -(2 ^ 62) ≤ lo ∧ lo < 2 ^ 62 ∧ -(2 ^ 62) ≤ hi ∧ hi < 2 ^ 62 ∧ (hi - lo).toNat ≤ 2 ^ 24 then pure ((List.range (hi - lo).toNat).map fun (i : Nat) => D.int (lo + i)) else M.bad
def lisR1 (ma : Sm → M D) : Sm → M (List D) := fun σ => ma σ >>= fun a => match a with
  | .int hi => rngL 0 hi
  | _ => M.bad
def lisR2 (ma mb : Sm → M D) : Sm → M (List D) := fun σ => ma σ >>= fun a => mb σ >>= fun b => match a, b with
  | .int lo, .int hi => rngL lo hi
  | _, _ => M.bad
theorem rng_RVs {T : Tx} {ι : List Addr} {H : Hp} (lo : Int) : ∀ (l : List Nat), RVs T ι H (l.map fun (i : Nat) => D.int (lo + i)) (l.map fun i => V.int (lo + (i : Nat)))
  | [] => by rw [List.map_nil, RVs]; rfl
  | i :: l => by
    rw [List.map_cons, RVs]
    exact ⟨_, _, rfl, by rw [RV], rng_RVs lo l⟩
section
variable {X : Cx}
theorem rng_fresh {ι ι1 : List Addr} {H H1 : Hp} {h' h1 : Hm} {lo hi : Int} {d : List D} {Q : VK} (x1 : Ex ι H ι1 H1) (r1 : Rl (tx X) ι1 H1 h') (e1 : rngL lo hi h' = some (d, h1))
    (k1 : ∀ (ι2 : List Addr) (H2 : Hp), Ex ι1 H1 ι2 H2 → ∀ (a : Addr) (xs : List V), Rl (tx X) ι2 H2 h1 → H a = none → a ∉ ι2 → H2 a = some (.lst xs) → RVs (tx X) ι2 H2 d xs → Q (.ref a) H2) :
    RgOk lo hi ∧ ∀ q, H1 q = none → Q (.ref q) (upd H1 q (.lst (rgV lo hi))) := by
  unfold rngL at e1
  split at e1
  · rename_i hc
    obtain ⟨e2, e3⟩ := pure_some e1
    subst e2 e3
    refine ⟨hc, fun l hl => ?_⟩
    obtain ⟨x4, r4⟩ := r1.other (u := .lst (rgV lo hi)) hl
    obtain ⟨np, hH⟩ := fresh_of x1 r1 hl
    exact k1 _ _ x4 _ _ r4 hH np upd_same (rng_RVs lo _)
  · cases e1
theorem l_rng1 {a : Expr} {m : Sm → M D} {p pos p2 pos2 : Pos} (hc : X.calm = true) (hg : Gl X "list") (hm : X.mg "list" = none) (hg2 : Gl X "range") (hm2 : X.mg "range" = none) (ha : PE X a (lf (tx X) m))
    (na : starEach [a] X.env = (false, eval a X.env) :: starEach [] X.env := by rfl) (nb : starEach [Expr.Call (.Name "range" p2) [a] [] pos2] X.env = (false, eval (Expr.Call (.Name "range" p2) [a] [] pos2) X.env) :: starEach [] X.env := by rfl) :
    PE X (.Call (.Name "list" p) [.Call (.Name "range" p2) [a] [] pos2] [] pos) (lfL (tx X) (lisR1 m)) := (pe_listRg hc hg hm (prg_1 hg2 hm2 ha na) nb).imp fun σ H Q q => by
  obtain ⟨ι, σm, h, d, h1, r, rs, e, k⟩ := q
  refine lf_then r rs e (P := fun ι2 H2 => ∀ a xs, Rl (tx X) ι2 H2 h1 → H a = none → a ∉ ι2 → H2 a = some (.lst xs) → RVs (tx X) ι2 H2 d xs → Q (.ref a) H2) (fun ι2 H2 y a xs => k ι2 H2 a xs y) fun ι1 H1 v dv h' x1 r1 rs1 q1 e1 k1 => ?_
  cases dv with
  | int hi =>
    rw [RV] at q1
    exact ⟨hi, q1, rng_fresh x1 r1 e1 k1⟩
  | _ => cases e1
theorem l_rng2 {a b : Expr} {m n : Sm → M D} {p pos p2 pos2 : Pos} (hc : X.calm = true) (hg : Gl X "list") (hm : X.mg "list" = none) (hg2 : Gl X "range") (hm2 : X.mg "range" = none) (ha : PE X a (lf (tx X) m)) (hb : PE X b (lf (tx X) n))
    (na : starEach [a, b] X.env = (false, eval a X.env) :: starEach [b] X.env := by rfl) (na2 : starEach [b] X.env = (false, eval b X.env) :: starEach [] X.env := by rfl) (hp : (backTo pos2 (starEach [b] X.env)).any (·.1) = false := by rfl)
    (nb : starEach [Expr.Call (.Name "range" p2) [a, b] [] pos2] X.env = (false, eval (Expr.Call (.Name "range" p2) [a, b] [] pos2) X.env) :: starEach [] X.env := by rfl) :
    PE X (.Call (.Name "list" p) [.Call (.Name "range" p2) [a, b] [] pos2] [] pos) (lfL (tx X) (lisR2 m n)) := (pe_listRg hc hg hm (prg_2 hg2 hm2 ha hb na na2 hp) nb).imp fun σ H Q q => by
  obtain ⟨ι, σm, h, d, h1, r, rs, e, k⟩ := q
  refine lf_then r rs e (P := fun ι2 H2 => ∀ a xs, Rl (tx X) ι2 H2 h1 → H a = none → a ∉ ι2 → H2 a = some (.lst xs) → RVs (tx X) ι2 H2 d xs → Q (.ref a) H2) (fun ι2 H2 y a xs => k ι2 H2 a xs y) fun ι1 H1 v dv h' x1 r1 rs1 q1 e1 k1 => ?_
  refine lf_then r1 rs1 e1 k1 fun ι2 H2 v2 dv2 h2 x2 r2 rs2 q2 e2 k2 => ?_
  cases dv with
  | int lo =>
    cases dv2 with
    | int hi =>
      rw [RV] at q1 q2
      exact ⟨lo, hi, q1, q2, rng_fresh (x1.trans r1 x2) r2 e2 k2⟩
    | _ => cases e2
  | _ => cases e2
end
/-! ### dicts of the module, their keys texts -/
def KEs (K : PySem.W.Frag) : List (Str × D) → List DictEntry → Prop
  | [], es => es = []
  | p :: r, es => ∃ e s t, es = e :: s ∧ e.key = .str p.1 t ∧ KV K p.2 e.val ∧ KEs K r s
structure KDc (K : PySem.W.Frag) (w : World) (a : Addr) (kvs : List (Str × D)) : Prop where
  is : ∃ es n, KDict K w a es n ∧ KEs K kvs es.toList
def lookS (kvs : List (Str × D)) (x : Str) : Option D := (kvs.find? fun p => decide (p.1 = x)).map (·.2)
theorem kes_find {K : PySem.W.Frag} {x : Str} : ∀ {kvs : List (Str × D)} {es : List DictEntry}, KEs K kvs es →
    (∀ d, lookS kvs x = some d → ∃ e, es.find? (·.key.isStr x) = some e ∧ KV K d e.val) ∧ (lookS kvs x = none → es.find? (·.key.isStr x) = none) ∧ es.any (·.refKey) = false
  | [], es, h => by
    have : es = [] := h
    subst this
    exact ⟨(fun d e => by cases e), (fun _ => rfl), rfl⟩
  | p :: r, es, h => by
    obtain ⟨e, s, t, rfl, ek, ev, hs⟩ := h
    obtain ⟨f1, f2, f3⟩ := kes_find (x := x) hs
    have hk : e.key.isStr x = decide (p.1 = x) := by
      rw [ek]
      show (p.1 == x) = decide (p.1 = x)
      by_cases c : p.1 = x
      · rw [decide_eq_true c]; exact beq_iff_eq.mpr c
      · rw [decide_eq_false c]; exact beq_eq_false_iff_ne.mpr c
    have hr : e.refKey = false := by unfold DictEntry.refKey; rw [ek]
    have hl : lookS (p :: r) x = if p.1 = x then some p.2 else lookS r x := by
      unfold lookS
      rw [List.find?_cons]
      by_cases c : p.1 = x
      · rw [if_pos c, decide_eq_true c]; rfl
      · rw [if_neg c, decide_eq_false c]
    refine ⟨fun d hd => ?_, fun hd => ?_, ?_⟩
    · rw [hl] at hd
      rw [List.find?_cons, hk]
      by_cases c : p.1 = x
      · rw [if_pos c] at hd
        cases hd
        rw [decide_eq_true c]
        exact ⟨e, rfl, ev⟩
      · rw [if_neg c] at hd
        rw [decide_eq_false c]
        exact f1 d hd
    · rw [hl] at hd
      rw [List.find?_cons, hk]
      by_cases c : p.1 = x
      · rw [if_pos c] at hd; cases hd
      · rw [if_neg c] at hd
        rw [decide_eq_false c]
        exact f2 hd
    · rw [List.any_cons, hr, f3]; rfl
theorem kdc_ns {K : PySem.W.Frag} {w : World} {a : Addr} {kvs : List (Str × D)} (h : KDc K w a kvs) : ∃ es n, KDict K w a es n ∧ ∀ x, (∀ d, lookS kvs x = some d → ∃ u, PySem.W.nsIn K a x = some (some u) ∧ KV K d u) ∧ (lookS kvs x = none → PySem.W.nsIn K a x = some none) := by
  obtain ⟨es, n, k, q⟩ := h.is
  refine ⟨es, n, k, fun x => ?_⟩
  obtain ⟨f1, f2, f3⟩ := kes_find (x := x) q
  refine ⟨fun d hd => ?_, fun hd => ?_⟩
  · obtain ⟨e, he, hv⟩ := f1 d hd
    refine ⟨e.val, ?_, hv⟩
    unfold PySem.W.nsIn
    rw [k.at_]
    dsimp only
    rw [he]
  · unfold PySem.W.nsIn
    rw [k.at_]
    dsimp only
    rw [f2 hd]
    dsimp only
    rw [f3]
    rfl
def inK (x : Str) (kvs : List (Str × D)) (neg : Bool) : D → D → M D
  | .str k, .glob g => if g = x then pure (.bl (if neg then !(lookS kvs k).isSome else (lookS kvs k).isSome)) else M.bad
  | _, _ => M.bad
def ixK (x : Str) (kvs : List (Str × D)) : D → D → M D
  | .glob g, .str k => if g = x then (match lookS kvs k with | some d => pure d | none => M.bad) else M.bad
  | _, _ => M.bad
section
variable {X : Cx} {x : Str} {a : Addr} {kvs : List (Str × D)}
theorem m_glob {pos : Pos} {u : Value} {v : V} (hg : Gl X x) (hm : X.mg x = some u) (rv : RelV v u) (hd : (x == ("__debug__" : Str)) = false := by decide) : PE X (.Name x pos) (lf (tx X) (cM (.glob x))) := by
  refine ⟨fun pins s σ H Q I h => ?_⟩
  refine (pe_glob hg hm (v := v) rv hd).run pins s σ H Q I ?_
  obtain ⟨ι, σm, h0, d', h1, r, rs, e, k⟩ := h
  obtain ⟨e1, e2⟩ := pure_some e
  subst e1 e2
  exact k ι H v (Ex.refl _ _) r (by rw [RV]; exact ⟨u, hm, rv⟩)
theorem m_globR {pos : Pos} (hg : Gl X x) (hm : X.mg x = some (.ref a)) (hd : (x == ("__debug__" : Str)) = false := by decide) : PE X (.Name x pos) (lf (tx X) (cM (.glob x))) := m_glob hg hm (v := .ref a) rfl hd
def rInK (K : PySem.W.Frag) (a : Addr) (neg : Bool) : R2 := fun x y H Q => ∃ (z : Str) (r : Option Value), x = .str z ∧ y = .ref a ∧ PySem.W.nsIn K a z = some r ∧ Q (.bl (if neg then !r.isSome else r.isSome)) H
theorem o_inK (h : KDc X.K X.w a kvs) : OpR X (compareOp .In) (rInK X.K a false) := let ⟨_, _, k, _⟩ := h.is; op_in_kd k
theorem o_notInK (h : KDc X.K X.w a kvs) : OpR X (compareOp .NotIn) (rInK X.K a true) := let ⟨_, _, k, _⟩ := h.is; op_notIn_kd k
theorem glob_ref {ι : List Addr} {H : Hp} {y : V} (hm : X.mg x = some (.ref a)) (q : RV (tx X) ι H (.glob x) y) : y = .ref a := by
  rw [RV] at q
  obtain ⟨u, e, r⟩ := q
  have e' : X.mg x = some u := e
  rw [hm] at e'
  cases e'
  cases y with
  | ref b =>
    have : Value.ref a = Value.ref b := r
    cases this
    rfl
  | _ => first | (obtain ⟨t, z⟩ := r; cases z; done) | (exact absurd r (by intro z; cases z))
theorem o2_inK (h : KDc X.K X.w a kvs) (hm : X.mg x = some (.ref a)) {neg : Bool} : Op2 (tx X) (rInK X.K a neg) (inK x kvs neg) := by
  intro ι H h0 v y da db d h1 Q r qa qb e k
  cases da with
  | str z =>
    cases db with
    | glob g =>
      have e : (if g = x then (pure (.bl (if neg then !(lookS kvs z).isSome else (lookS kvs z).isSome)) : M D) else M.bad) h0 = some (d, h1) := e
      obtain ⟨hg, e1, e2⟩ := ifp e
      subst hg e1 e2
      rw [RV] at qa
      obtain ⟨es, n, kd, ns⟩ := kdc_ns h
      cases hl : lookS kvs z with
      | none =>
        rw [hl] at k
        exact ⟨z, none, qa, glob_ref hm qb, (ns z).2 hl, k _ _ _ (Ex.refl _ _) r (by rw [RV]; rfl)⟩
      | some d0 =>
        rw [hl] at k
        obtain ⟨u, eu, _⟩ := (ns z).1 d0 hl
        exact ⟨z, some u, qa, glob_ref hm qb, eu, k _ _ _ (Ex.refl _ _) r (by rw [RV]; rfl)⟩
    | _ => cases e
  | _ => cases e
theorem o2_ixK (h : KDc X.K X.w a kvs) (hm : X.mg x = some (.ref a)) : Op2 (tx X) (rIxD X.K X.w) (ixK x kvs) := by
  intro ι H h0 v y da db d h1 Q r qa qb e k
  cases da with
  | glob g =>
    cases db with
    | str z =>
      have e7 : (if g = x then (match lookS kvs z with | some d => (pure d : M D) | none => M.bad) else M.bad) h0 = some (d, h1) := e
      by_cases c : g = x
      · rw [if_pos c] at e7
        clear e
        subst c
        cases hl : lookS kvs z with
        | none => rw [hl] at e7; cases e7
        | some d0 =>
          rw [hl] at e7
          obtain ⟨e1, e2⟩ := pure_some e7
          subst e1 e2
          rw [RV] at qb
          obtain ⟨es, n, kd, ns⟩ := kdc_ns h
          obtain ⟨u, eu, kv⟩ := (ns z).1 d0 hl
          obtain ⟨v0, rv, q0⟩ := kv_RV (T := tx X) d0 u kv
          exact ⟨a, z, v0, glob_ref hm qa, qb, ⟨es, n, u, kd.at_, kd.lit, eu, rv⟩, k _ _ _ (Ex.refl _ _) r (q0 _ _)⟩
      · rw [if_neg c] at e7; cases e7
    | _ => cases e
  | _ => cases e
end
end ML

set_option Elab.async false
set_option linter.all false
set_option maxRecDepth 100000
set_option autoImplicit false
namespace K12
open PySem L2 ML
def top (i : Nat) : Stmt := PySem.Challenge.pw_calltowers_k12_truth_on_round_runs.main.body.getD i (.Pass ⟨0, 0, 0, 0⟩)
abbrev s_is_name : Stmt := top 4
abbrev N_is_name : List Str := ["text", "letter"]
theorem sc_is_name : FnScope N_is_name ["text"] (defScope s_is_name) := ⟨rfl, rfl, rfl, by decide +kernel, rfl, by decide +kernel, by decide +kernel⟩
abbrev s_has_form : Stmt := top 12
abbrev N_has_form : List Str := ["thing", "deepest", "word", "part"]
theorem sc_has_form : FnScope N_has_form ["thing", "deepest"] (defScope s_has_form) := ⟨rfl, rfl, rfl, by decide +kernel, rfl, by decide +kernel, by decide +kernel⟩
abbrev s_parts_ahead : Stmt := top 14
abbrev N_parts_ahead : List Str := ["promise", "found", "inner", "part"]
theorem sc_parts_ahead : FnScope N_parts_ahead ["promise"] (defScope s_parts_ahead) := ⟨rfl, rfl, rfl, by decide +kernel, rfl, by decide +kernel, by decide +kernel⟩
abbrev s_looks_too_far : Stmt := top 13
abbrev N_looks_too_far : List Str := ["promise"]
theorem sc_looks_too_far : FnScope N_looks_too_far ["promise"] (defScope s_looks_too_far) := ⟨rfl, rfl, rfl, by decide +kernel, rfl, by decide +kernel, by decide +kernel⟩
abbrev s_is_promise : Stmt := top 11
abbrev N_is_promise : List Str := ["thing"]
theorem sc_is_promise : FnScope N_is_promise ["thing"] (defScope s_is_promise) := ⟨rfl, rfl, rfl, by decide +kernel, rfl, by decide +kernel, by decide +kernel⟩
abbrev s_matches : Stmt := top 15
abbrev N_matches : List Str := ["mark", "kind", "name"]
theorem sc_matches : FnScope N_matches ["mark", "kind", "name"] (defScope s_matches) := ⟨rfl, rfl, rfl, by decide +kernel, rfl, by decide +kernel, by decide +kernel⟩
abbrev s_come_true : Stmt := top 18
abbrev N_come_true : List Str := ["ahead", "first", "second", "before", "at", "behind", "truths", "waiting", "reached", "_", "truth"]
theorem sc_come_true : FnScope N_come_true ["ahead", "first", "second"] (defScope s_come_true) := ⟨rfl, rfl, rfl, by decide +kernel, rfl, by decide +kernel, by decide +kernel⟩
abbrev s_RoundRun_truths : Stmt := inClass (top 17) 3
abbrev N_RoundRun_truths : List Str := ["self", "promise", "word", "parts", "ahead", "_", "mark", "part", "truth", "left", "right", "at"]
theorem sc_RoundRun_truths : FnScope N_RoundRun_truths ["self", "promise"] (defScope s_RoundRun_truths) := ⟨rfl, rfl, rfl, by decide +kernel, rfl, by decide +kernel, by decide +kernel⟩
abbrev s_RoundRun_match_calls : Stmt := inClass (top 17) 2
abbrev N_RoundRun_match_calls : List Str := ["self", "start", "end", "waiting", "at"]
theorem sc_RoundRun_match_calls : FnScope N_RoundRun_match_calls ["self", "start", "end"] (defScope s_RoundRun_match_calls) := ⟨rfl, rfl, rfl, by decide +kernel, rfl, by decide +kernel, by decide +kernel⟩
abbrev s_RoundRun_plain_beyond : Stmt := inClass (top 17) 1
abbrev N_RoundRun_plain_beyond : List Str := ["self", "at", "behind"]
theorem sc_RoundRun_plain_beyond : FnScope N_RoundRun_plain_beyond ["self", "at"] (defScope s_RoundRun_plain_beyond) := ⟨rfl, rfl, rfl, by decide +kernel, rfl, by decide +kernel, by decide +kernel⟩
abbrev s_RoundRun___init__ : Stmt := inClass (top 17) 0
abbrev N_RoundRun___init__ : List Str := ["self", "begin", "loop", "at"]
theorem sc_RoundRun___init__ : FnScope N_RoundRun___init__ ["self", "begin", "loop"] (defScope s_RoundRun___init__) := ⟨rfl, rfl, rfl, by decide +kernel, rfl, by decide +kernel, by decide +kernel⟩
abbrev s_holds : Stmt := top 16
abbrev N_holds : List Str := ["promise", "begin", "loop", "i"]
theorem sc_holds : FnScope N_holds ["promise", "begin", "loop", "i"] (defScope s_holds) := ⟨rfl, rfl, rfl, by decide +kernel, rfl, by decide +kernel, by decide +kernel⟩
abbrev s__law_start : Stmt := top 20
abbrev N__law_start : List Str := ["script", "cell"]
theorem sc__law_start : FnScope N__law_start ["script"] (defScope s__law_start) := ⟨rfl, rfl, rfl, by decide +kernel, rfl, by decide +kernel, by decide +kernel⟩
abbrev s__law_draw : Stmt := top 21
abbrev N__law_draw : List Str := ["state", "bound", "cell", "number"]
theorem sc__law_draw : FnScope N__law_draw ["state", "bound"] (defScope s__law_draw) := ⟨rfl, rfl, rfl, by decide +kernel, rfl, by decide +kernel, by decide +kernel⟩
abbrev s__law_pick : Stmt := top 22
abbrev N__law_pick : List Str := ["state", "things"]
theorem sc__law_pick : FnScope N__law_pick ["state", "things"] (defScope s__law_pick) := ⟨rfl, rfl, rfl, by decide +kernel, rfl, by decide +kernel, by decide +kernel⟩
abbrev s__law_is : Stmt := top 24
abbrev N__law_is : List Str := ["actual", "due"]
theorem sc__law_is : FnScope N__law_is ["actual", "due"] (defScope s__law_is) := ⟨rfl, rfl, rfl, by decide +kernel, rfl, by decide +kernel, by decide +kernel⟩
abbrev s__law_once : Stmt := top 25
abbrev N__law_once : List Str := ["things", "kept", "thing"]
theorem sc__law_once : FnScope N__law_once ["things"] (defScope s__law_once) := ⟨rfl, rfl, rfl, by decide +kernel, rfl, by decide +kernel, by decide +kernel⟩
abbrev s__law_promise : Stmt := top 26
abbrev N__law_promise : List Str := ["state", "deep", "kind", "kinds", "word"]
theorem sc__law_promise : FnScope N__law_promise ["state", "deep"] (defScope s__law_promise) := ⟨rfl, rfl, rfl, by decide +kernel, rfl, by decide +kernel, by decide +kernel⟩
abbrev s__law_matches : Stmt := top 27
abbrev N__law_matches : List Str := ["begin", "around", "matches_v", "part", "waiting", "k"]
theorem sc__law_matches : FnScope N__law_matches ["begin", "around"] (defScope s__law_matches) := ⟨rfl, rfl, rfl, by decide +kernel, rfl, by decide +kernel, by decide +kernel⟩
abbrev s__law_behind : Stmt := top 28
abbrev N__law_behind : List Str := ["marks", "begin", "i"]
theorem sc__law_behind : FnScope N__law_behind ["marks", "begin", "i"] (defScope s__law_behind) := ⟨rfl, rfl, rfl, by decide +kernel, rfl, by decide +kernel, by decide +kernel⟩
abbrev s__law_across : Stmt := top 29
abbrev N__law_across : List Str := ["marks", "begin", "matches_v", "i", "after"]
theorem sc__law_across : FnScope N__law_across ["marks", "begin", "matches_v", "i"] (defScope s__law_across) := ⟨rfl, rfl, rfl, by decide +kernel, rfl, by decide +kernel, by decide +kernel⟩
abbrev s__law_truths : Stmt := top 30
abbrev N__law_truths : List Str := ["promise", "begin", "around", "marks", "matches_v", "told", "found", "i", "at", "is_true", "turn", "after", "mark", "part"]
theorem sc__law_truths : FnScope N__law_truths ["promise", "begin", "around"] (defScope s__law_truths) := ⟨rfl, rfl, rfl, by decide +kernel, rfl, by decide +kernel, by decide +kernel⟩
abbrev s__law_is_name : Stmt := top 31
abbrev N__law_is_name : List Str := ["word", "good", "sign"]
theorem sc__law_is_name : FnScope N__law_is_name ["word"] (defScope s__law_is_name) := ⟨rfl, rfl, rfl, by decide +kernel, rfl, by decide +kernel, by decide +kernel⟩
abbrev s__law_good : Stmt := top 32
abbrev N__law_good : List Str := ["thing", "deep", "sizes", "part"]
theorem sc__law_good : FnScope N__law_good ["thing", "deep"] (defScope s__law_good) := ⟨rfl, rfl, rfl, by decide +kernel, rfl, by decide +kernel, by decide +kernel⟩
abbrev s__law_ahead : Stmt := top 33
abbrev N__law_ahead : List Str := ["thing", "found", "part"]
theorem sc__law_ahead : FnScope N__law_ahead ["thing"] (defScope s__law_ahead) := ⟨rfl, rfl, rfl, by decide +kernel, rfl, by decide +kernel, by decide +kernel⟩
abbrev s__law_odd : Stmt := top 34
abbrev N__law_odd : List Str := ["state", "promise", "kind", "k"]
theorem sc__law_odd : FnScope N__law_odd ["state", "promise"] (defScope s__law_odd) := ⟨rfl, rfl, rfl, by decide +kernel, rfl, by decide +kernel, by decide +kernel⟩
abbrev s_law : Stmt := top 35
abbrev N_law : List Str := ["script", "state", "promise", "due", "marks", "begin", "around", "truths", "k", "i"]
theorem sc_law : FnScope N_law ["script"] (defScope s_law) := ⟨rfl, rfl, rfl, by decide +kernel, rfl, by decide +kernel, by decide +kernel⟩
def c_PARTS : List (Str × D) := [("yes", (.int 0)), ("not", (.int 1)), ("and", (.int 2)), ("or", (.int 2)), ("next", (.int 1)), ("until", (.int 2)), ("over", (.int 1)), ("across", (.int 2))]
noncomputable def F_is_name : List D → M D := runB 2 (seqS (ifS (orT (notT (tvM (isiM "str" (gv 0)))) (tvM (op2M (inD false) (gv 0) (cM (.tup [(.str "and"), (.str "or"), (.str "not"), (.str "same")]))))) (retS (cM (.bl false))) skipS)
    (retS (andV (chM (cmpD fun i j => decide (i ≤ j)) (cmpD fun i j => decide (i ≤ j)) (cM (.int 1)) (bcM lenD (consA (gv 0) nilA)) (cM (.int 8))) (bcM allL (lcM (itS (gv 0)) (nameG 1) yesT (op2M (inS false) (gv 1) (cM (.str "abcdefghijklmnopqrstuvwxyz"))) [1])))))
noncomputable def F_has_form : Nat → List D → M D
  | 0 => fun _ => M.bad
  | n + 1 => runB 4 (seqS (ifS (orT (tvM (op2M eqD (gv 1) (cM (.int 0)))) (orT (notT (tvM (isiM "tuple" (gv 0)))) (orT (notT (trT (gv 0))) (notT (tvM (isiM "str" (op2M ixD (gv 0) (cM (.int 0))))))))) (retS (cM (.bl false))) skipS)
    (seqS (setS 2 (op2M ixD (gv 0) (cM (.int 0))))
    (seqS (ifS (tvM (op2M eqD (gv 2) (cM (.str "at")))) (retS (andV (op2M eqD (bcM lenD (consA (gv 0) nilA)) (cM (.int 3))) (andV (op2M (inD false) (op2M ixD (gv 0) (cM (.int 1))) (cM (.tup [(.str "call"), (.str "back"), (.str "say"), (.str "quiet")]))) (orV (op2M eqD (op2M ixD (gv 0) (cM (.int 2))) (cM (.str ""))) (callM F_is_name 1 (consA (op2M ixD (gv 0) (cM (.int 2))) nilA)))))) skipS)
    (seqS (ifS (orT (tvM (op2M (inK "PARTS" c_PARTS true) (gv 2) (cM (.glob "PARTS")))) (tvM (op2M neD (bcM lenD (consA (gv 0) nilA)) (op2M addD (cM (.int 1)) (op2M (ixK "PARTS" c_PARTS) (cM (.glob "PARTS")) (gv 2)))))) (retS (cM (.bl false))) skipS)
    (retS (bcM allL (lcM (itV (sliceM cutT (gv 0) (someP (cM (.int 1))) noP)) (nameG 3) yesT (callM (F_has_form n) 2 (consA (gv 3) (consA (op2M subD (gv 1) (cM (.int 1))) nilA))) [3])))))))
noncomputable def F_parts_ahead : Nat → List D → M D
  | 0 => fun _ => M.bad
  | n + 1 => runB 4 (seqS (setS 1 (ifE (tvM (op2M (inD false) (op2M ixD (gv 0) (cM (.int 0))) (cM (.tup [(.str "next"), (.str "until"), (.str "over"), (.str "across")])))) (newM (lstM (consA (gv 0) nilA))) (newM (lstM nilA))))
    (seqS (ifS (tvM (op2M neD (op2M ixD (gv 0) (cM (.int 0))) (cM (.str "at")))) (forS (itV (sliceM cutT (gv 0) (someP (cM (.int 1))) noP)) (nameG 2) (exprS (metL exuL (gv 1) (consA (newM (lcM (itV (callM (F_parts_ahead n) 1 (consA (gv 2) nilA))) (nameG 3) (tvM (op2M (inD true) (gv 3) (gv 1))) (gv 3) [3])) nilA)))) skipS)
    (retS (gv 1))))
noncomputable def F_looks_too_far : List D → M D := runB 1 (retS (op2M (cmpD fun i j => decide (i > j)) (bcM lenD (consA (callM (F_parts_ahead 10) 1 (consA (gv 0) nilA)) nilA)) (cM (.int 6))))
noncomputable def F_is_promise : List D → M D := runB 1 (retS (andV (callM (F_has_form 9) 2 (consA (gv 0) (consA (cM (.int 8)) nilA))) (notV (callM F_looks_too_far 1 (consA (gv 0) nilA)))))
noncomputable def F_matches : List D → M D := runB 3 (retS (andV (op2M eqD (op2M ixD (gv 0) (cM (.int 0))) (gv 1)) (op2M (inD false) (gv 2) (tupM (consA (cM (.str "")) (consA (op2M ixD (gv 0) (cM (.int 1))) nilA))))))
noncomputable def F_come_true : List D → M D := runB 11 (seqS (setS 3 (newM (lcM (itV (gv 0)) (nameG 9) yesT (newM (lstM nilA)) [9])))
    (seqS (forS (itEv (gv 0)) (tupG 2 (consG (nameG 4) (consG (nameG 5) nilG))) (ifS (tvM (op2M notND' (gv 5) (cM .non))) (exprS (metL appL (op2M ixD (gv 3) (gv 5)) (consA (gv 4) nilA))) skipS))
    (seqS (setS 6 (newM (lisM (gv 2))))
    (seqS (setS 7 (newM (lcM (itEv (gv 2)) (tupG 2 (consG (nameG 4) (consG (nameG 10) nilG))) (trT (gv 10)) (gv 4) [4, 10])))
    (seqS (whS (trT (gv 7)) (seqS (setS 8 (metL popL (gv 7) nilA))
    (forS (itV (op2M ixD (gv 3) (gv 8))) (nameG 4) (ifS (andT (trT (op2M ixD (gv 1) (gv 4))) (notT (trT (op2M ixD (gv 6) (gv 4))))) (seqS (subS (cM (.bl true)) (gv 6) (gv 4))
    (exprS (metL appL (gv 7) (consA (gv 4) nilA)))) skipS))))
    (retS (gv 6)))))))
noncomputable def F_RoundRun_truths : Nat → List D → M D
  | 0 => fun _ => M.bad
  | n + 1 => runB 12 (seqS (setS 2 (op2M ixD (gv 1) (cM (.int 0))))
    (seqS (ifS (tvM (op2M eqD (gv 2) (cM (.str "yes")))) (retS (newM (lcM (itV (op1M (fldD "RoundRun" "marks") (gv 0))) (nameG 5) yesT (cM (.bl true)) [5]))) skipS)
    (seqS (ifS (tvM (op2M eqD (gv 2) (cM (.str "at")))) (retS (newM (lcM (itV (op1M (fldD "RoundRun" "marks") (gv 0))) (nameG 6) yesT (callM F_matches 3 (consA (gv 6) (consA (op2M ixD (gv 1) (cM (.int 1))) (consA (op2M ixD (gv 1) (cM (.int 2))) nilA)))) [6]))) skipS)
    (seqS (setS 3 (newM (lcM (itV (sliceM cutT (gv 1) (someP (cM (.int 1))) noP)) (nameG 7) yesT (metI "RoundRun" "truths" (F_RoundRun_truths n) 2 (gv 0) (consA (gv 7) nilA)) [7])))
    (seqS (ifS (tvM (op2M eqD (gv 2) (cM (.str "not")))) (retS (newM (lcM (itV (op2M ixD (gv 3) (cM (.int 0)))) (nameG 8) yesT (notV (gv 8)) [8]))) skipS)
    (seqS (ifS (tvM (op2M eqD (gv 2) (cM (.str "and")))) (retS (newM (lcM (itZ (consA (op2M ixD (gv 3) (cM (.int 0))) (consA (op2M ixD (gv 3) (cM (.int 1))) nilA))) (tupG 2 (consG (nameG 9) (consG (nameG 10) nilG))) yesT (andV (gv 9) (gv 10)) [9, 10]))) skipS)
    (seqS (ifS (tvM (op2M eqD (gv 2) (cM (.str "or")))) (retS (newM (lcM (itZ (consA (op2M ixD (gv 3) (cM (.int 0))) (consA (op2M ixD (gv 3) (cM (.int 1))) nilA))) (tupG 2 (consG (nameG 9) (consG (nameG 10) nilG))) yesT (orV (gv 9) (gv 10)) [9, 10]))) skipS)
    (seqS (setS 4 (ifE (tvM (op2M (inD false) (gv 2) (tupM (consA (cM (.str "next")) (consA (cM (.str "until")) nilA))))) (op1M (fldD "RoundRun" "behind") (gv 0)) (op1M (fldD "RoundRun" "across_from") (gv 0))))
    (seqS (ifS (tvM (op2M (inD false) (gv 2) (tupM (consA (cM (.str "next")) (consA (cM (.str "over")) nilA))))) (retS (newM (lcM (itV (gv 4)) (nameG 11) yesT (andV (op2M notND' (gv 11) (cM .non)) (op2M ixD (op2M ixD (gv 3) (cM (.int 0))) (gv 11))) [11]))) skipS)
    (retS (callM F_come_true 3 (consA (gv 4) (consA (op2M ixD (gv 3) (cM (.int 0))) (consA (op2M ixD (gv 3) (cM (.int 1))) nilA))))))))))))))
noncomputable def F_RoundRun_match_calls : List D → M D := runB 5 (seqS (setS 3 (newM (lstM nilA)))
    (forS (itR2 (consA (gv 1) (consA (gv 2) nilA))) (nameG 4) (ifS (tvM (op2M eqD (op2M ixD (op2M ixD (op1M (fldD "RoundRun" "marks") (gv 0)) (gv 4)) (cM (.int 0))) (cM (.str "call")))) (exprS (metL appL (gv 3) (consA (gv 4) nilA))) (ifS (andT (tvM (op2M eqD (op2M ixD (op2M ixD (op1M (fldD "RoundRun" "marks") (gv 0)) (gv 4)) (cM (.int 0))) (cM (.str "back")))) (trT (gv 3))) (subS (gv 4) (op1M (fldD "RoundRun" "across_from") (gv 0)) (metL popL (gv 3) nilA)) skipS))))
noncomputable def F_RoundRun_plain_beyond : List D → M D := runB 3 (seqS (setS 2 (op2M ixD (op1M (fldD "RoundRun" "behind") (gv 0)) (gv 1)))
    (retS (ifE (orT (tvM (op2M eqD (op2M ixD (op2M ixD (op1M (fldD "RoundRun" "marks") (gv 0)) (gv 1)) (cM (.int 0))) (cM (.str "call")))) (tvM (op2M eqD (op2M ixD (op2M ixD (op1M (fldD "RoundRun" "marks") (gv 0)) (gv 2)) (cM (.int 0))) (cM (.str "back"))))) (cM .non) (gv 2))))
noncomputable def F_RoundRun___init__ : List D → M D := runB 4 (seqS (fldS "RoundRun" "marks" (op2M addD (gv 1) (gv 2)) (gv 0))
    (seqS (fldS "RoundRun" "behind" (op2M catD (newM (lisR2 (cM (.int 1)) (bcM lenD (consA (op1M (fldD "RoundRun" "marks") (gv 0)) nilA)))) (newM (lstM (consA (bcM lenD (consA (gv 1) nilA)) nilA)))) (gv 0))
    (seqS (fldS "RoundRun" "across_from" (newM (lcM (itR1 (consA (bcM lenD (consA (op1M (fldD "RoundRun" "marks") (gv 0)) nilA)) nilA)) (nameG 3) yesT (metI "RoundRun" "plain_beyond" F_RoundRun_plain_beyond 2 (gv 0) (consA (gv 3) nilA)) [3])) (gv 0))
    (seqS (exprS (metI "RoundRun" "match_calls" F_RoundRun_match_calls 3 (gv 0) (consA (cM (.int 0)) (consA (bcM lenD (consA (gv 1) nilA)) nilA))))
    (exprS (metI "RoundRun" "match_calls" F_RoundRun_match_calls 3 (gv 0) (consA (bcM lenD (consA (gv 1) nilA)) (consA (bcM lenD (consA (op1M (fldD "RoundRun" "marks") (gv 0)) nilA)) nilA))))))))
noncomputable def F_holds : List D → M D := runB 4 (retS (op2M ixD (metI "RoundRun" "truths" (F_RoundRun_truths 10) 2 (makeM "RoundRun" F_RoundRun___init__ 3 (consA (gv 1) (consA (gv 2) nilA))) (consA (gv 0) nilA)) (gv 3)))
noncomputable def F__law_start : List D → M D := runB 2 (retS (dispM [((cM (.str "cells")), (newM (lcM (itV (gv 0)) (nameG 1) yesT (bcM absD (consA (bcM intD (consA (gv 1) nilA)) nilA)) [1]))), ((cM (.str "at")), (cM (.int 0))), ((cM (.str "left")), (cM (.int 0))), ((cM (.str "mix")), (op2M addD (cM (.int 7)) (bcM lenD (consA (gv 0) nilA))))]))
noncomputable def F__law_draw : List D → M D := runB 4 (seqS (ifS (andT (tvM (op2M eqD (op2M ixD (gv 0) (cM (.str "left"))) (cM (.int 0)))) (tvM (op2M ltD (op2M ixD (gv 0) (cM (.str "at"))) (bcM lenD (consA (op2M ixD (gv 0) (cM (.str "cells"))) nilA))))) (seqS (setS 2 (op2M ixD (op2M ixD (gv 0) (cM (.str "cells"))) (op2M ixD (gv 0) (cM (.str "at")))))
    (seqS (subS (op2M addD (op2M ixD (gv 0) (cM (.str "at"))) (cM (.int 1))) (gv 0) (cM (.str "at")))
    (seqS (subS (op2M modD (bcM intD (consA (op2M addD (op2M addD (op2M mulD (op2M ixD (gv 0) (cM (.str "mix"))) (cM (.int 48271))) (gv 2)) (cM (.int 11))) nilA)) (cM (.int 2147483647))) (gv 0) (cM (.str "mix")))
    (seqS (ifS (tvM (op2M ltD (gv 2) (op2M powD (cM (.int 10)) (cM (.int 18))))) (retS (op2M modD (bcM intD (consA (gv 2) nilA)) (gv 1))) skipS)
    (subS (gv 2) (gv 0) (cM (.str "left"))))))) skipS)
    (seqS (ifS (tvM (op2M (cmpD fun i j => decide (i > j)) (op2M ixD (gv 0) (cM (.str "left"))) (cM (.int 0)))) (seqS (setS 3 (op2M modD (bcM intD (consA (op2M ixD (gv 0) (cM (.str "left"))) nilA)) (gv 1)))
    (seqS (subS (op2M fdivD (op2M ixD (gv 0) (cM (.str "left"))) (gv 1)) (gv 0) (cM (.str "left")))
    (retS (gv 3)))) skipS)
    (seqS (subS (op2M modD (bcM intD (consA (op2M addD (op2M mulD (op2M ixD (gv 0) (cM (.str "mix"))) (cM (.int 48271))) (cM (.int 11))) nilA)) (cM (.int 2147483647))) (gv 0) (cM (.str "mix")))
    (retS (op2M modD (bcM intD (consA (op2M modD (bcM intD (consA (op2M addD (op2M mulD (op2M ixD (gv 0) (cM (.str "mix"))) (cM (.int 69621))) (cM (.int 5))) nilA)) (cM (.int 2147483629))) nilA)) (gv 1))))))
noncomputable def F__law_pick : List D → M D := runB 2 (retS (op2M ixD (gv 1) (callM F__law_draw 2 (consA (gv 0) (consA (bcM lenD (consA (gv 1) nilA)) nilA)))))
noncomputable def F__law_is : List D → M D := runB 2 (retS (andV (isiM "bool" (gv 0)) (op2M eqD (gv 0) (gv 1))))
noncomputable def F__law_once : List D → M D := runB 3 (seqS (setS 1 (newM (lstM nilA)))
    (seqS (forS (itV (gv 0)) (nameG 2) (ifS (tvM (op2M (inD true) (gv 2) (gv 1))) (exprS (metL appL (gv 1) (consA (gv 2) nilA))) skipS))
    (retS (gv 1))))
noncomputable def F__law_promise : Nat → List D → M D
  | 0 => fun _ => M.bad
  | n + 1 => runB 5 (seqS (setS 2 (ifE (tvM (op2M (cmpD fun i j => decide (i > j)) (gv 1) (cM (.int 0)))) (callM F__law_draw 2 (consA (gv 0) (consA (cM (.int 9)) nilA))) (cM (.int 0))))
    (seqS (ifS (tvM (op2M ltD (gv 2) (cM (.int 2)))) (seqS (setS 3 (callM F__law_pick 2 (consA (gv 0) (consA (newM (lstM (consA (cM (.str "call")) (consA (cM (.str "back")) (consA (cM (.str "say")) (consA (cM (.str "say")) (consA (cM (.str "quiet")) nilA))))))) nilA))))
    (retS (callM F__law_pick 2 (consA (gv 0) (consA (newM (lstM (consA (tupM (consA (cM (.str "at")) (consA (gv 3) (consA (callM F__law_pick 2 (consA (gv 0) (consA (newM (lstM (consA (cM (.str "")) (consA (cM (.str "p")) (consA (cM (.str "hi")) nilA))))) nilA))) nilA)))) (consA (tupM (consA (cM (.str "at")) (consA (cM (.str "say")) (consA (cM (.str "hi")) nilA)))) (consA (tupM (consA (cM (.str "yes")) nilA)) nilA))))) nilA))))) skipS)
    (seqS (ifS (tvM (op2M (inD false) (gv 2) (newM (lstM (consA (cM (.int 2)) (consA (cM (.int 3)) nilA)))))) (retS (tupM (consA (callM F__law_pick 2 (consA (gv 0) (consA (newM (lstM (consA (cM (.str "not")) (consA (cM (.str "next")) (consA (cM (.str "over")) nilA))))) nilA))) (consA (callM (F__law_promise n) 2 (consA (gv 0) (consA (op2M subD (gv 1) (cM (.int 1))) nilA))) nilA)))) skipS)
    (seqS (setS 4 (callM F__law_pick 2 (consA (gv 0) (consA (newM (lstM (consA (cM (.str "and")) (consA (cM (.str "or")) (consA (cM (.str "until")) (consA (cM (.str "across")) (consA (cM (.str "until")) (consA (cM (.str "across")) nilA)))))))) nilA))))
    (retS (tupM (consA (gv 4) (consA (callM (F__law_promise n) 2 (consA (gv 0) (consA (op2M subD (gv 1) (cM (.int 1))) nilA))) (consA (callM (F__law_promise n) 2 (consA (gv 0) (consA (op2M subD (gv 1) (cM (.int 1))) nilA))) nilA)))))))))
noncomputable def F__law_matches : List D → M D := runB 6 (seqS (setS 2 newK)
    (seqS (forS (itL (lstM (consA (tupM (consA (cM (.int 0)) (consA (gv 0) nilA))) (consA (tupM (consA (bcM lenD (consA (gv 0) nilA)) (consA (gv 1) nilA))) nilA)))) (nameG 3) (seqS (setS 4 (newM (lstM nilA)))
    (forS (itR1 (consA (bcM lenD (consA (op2M ixD (gv 3) (cM (.int 1))) nilA)) nilA)) (nameG 5) (seqS (ifS (tvM (op2M eqD (op2M ixD (op2M ixD (op2M ixD (gv 3) (cM (.int 1))) (gv 5)) (cM (.int 0))) (cM (.str "call")))) (exprS (metL appL (gv 4) (consA (op2M addD (op2M ixD (gv 3) (cM (.int 0))) (gv 5)) nilA))) skipS)
    (ifS (andT (tvM (op2M eqD (op2M ixD (op2M ixD (op2M ixD (gv 3) (cM (.int 1))) (gv 5)) (cM (.int 0))) (cM (.str "back")))) (tvM (op2M (cmpD fun i j => decide (i > j)) (bcM lenD (consA (gv 4) nilA)) (cM (.int 0))))) (subS (op2M addD (op2M ixD (gv 3) (cM (.int 0))) (gv 5)) (gv 2) (metL popL (gv 4) nilA)) skipS)))))
    (retS (gv 2))))
noncomputable def F__law_behind : List D → M D := runB 3 (retS (ifE (tvM (op2M ltD (op2M addD (gv 2) (cM (.int 1))) (bcM lenD (consA (gv 0) nilA)))) (op2M addD (gv 2) (cM (.int 1))) (bcM lenD (consA (gv 1) nilA))))
noncomputable def F__law_across : List D → M D := runB 5 (seqS (ifS (tvM (op2M eqD (op2M ixD (op2M ixD (gv 0) (gv 3)) (cM (.int 0))) (cM (.str "call")))) (retS (met1D get2D (gv 2) (gv 3))) skipS)
    (seqS (setS 4 (callM F__law_behind 3 (consA (gv 0) (consA (gv 1) (consA (gv 3) nilA)))))
    (retS (ifE (tvM (op2M eqD (op2M ixD (op2M ixD (gv 0) (gv 4)) (cM (.int 0))) (cM (.str "back")))) (cM .non) (gv 4)))))
noncomputable def F__law_truths : Nat → List D → M D
  | 0 => fun _ => M.bad
  | n + 1 => runB 14 (seqS (setS 3 (op2M catD (newM (lisM (gv 1))) (newM (lisM (gv 2)))))
    (seqS (setS 4 (callM F__law_matches 2 (consA (gv 1) (consA (gv 2) nilA))))
    (seqS (ifS (tvM (op2M eqD (op2M ixD (gv 0) (cM (.int 0))) (cM (.str "yes")))) (retS (newM (lcM (itV (gv 3)) (nameG 12) yesT (cM (.bl true)) [12]))) skipS)
    (seqS (ifS (tvM (op2M eqD (op2M ixD (gv 0) (cM (.int 0))) (cM (.str "at")))) (retS (newM (lcM (itV (gv 3)) (nameG 12) yesT (andV (op2M eqD (op2M ixD (gv 12) (cM (.int 0))) (op2M ixD (gv 0) (cM (.int 1)))) (op2M (inD false) (op2M ixD (gv 0) (cM (.int 2))) (newM (lstM (consA (cM (.str "")) (consA (op2M ixD (gv 12) (cM (.int 1))) nilA)))))) [12]))) skipS)
    (seqS (setS 5 (newM (lcM (itV (sliceM cutT (gv 0) (someP (cM (.int 1))) noP)) (nameG 13) yesT (callM (F__law_truths n) 3 (consA (gv 13) (consA (gv 1) (consA (gv 2) nilA)))) [13])))
    (seqS (ifS (tvM (op2M eqD (op2M ixD (gv 0) (cM (.int 0))) (cM (.str "not")))) (retS (newM (lcM (itR1 (consA (bcM lenD (consA (gv 3) nilA)) nilA)) (nameG 7) yesT (notV (op2M ixD (op2M ixD (gv 5) (cM (.int 0))) (gv 7))) [7]))) skipS)
    (seqS (ifS (tvM (op2M eqD (op2M ixD (gv 0) (cM (.int 0))) (cM (.str "and")))) (retS (newM (lcM (itR1 (consA (bcM lenD (consA (gv 3) nilA)) nilA)) (nameG 7) yesT (andV (op2M ixD (op2M ixD (gv 5) (cM (.int 0))) (gv 7)) (op2M ixD (op2M ixD (gv 5) (cM (.int 1))) (gv 7))) [7]))) skipS)
    (seqS (ifS (tvM (op2M eqD (op2M ixD (gv 0) (cM (.int 0))) (cM (.str "or")))) (retS (newM (lcM (itR1 (consA (bcM lenD (consA (gv 3) nilA)) nilA)) (nameG 7) yesT (orV (op2M ixD (op2M ixD (gv 5) (cM (.int 0))) (gv 7)) (op2M ixD (op2M ixD (gv 5) (cM (.int 1))) (gv 7))) [7]))) skipS)
    (seqS (setS 6 (newM (lstM nilA)))
    (seqS (forS (itR1 (consA (bcM lenD (consA (gv 3) nilA)) nilA)) (nameG 7) (seqS (setS 8 (gv 7))
    (seqS (setS 9 (cM (.bl false)))
    (seqS (forS (itR1 (consA (op2M addD (bcM lenD (consA (gv 3) nilA)) (cM (.int 1))) nilA)) (nameG 10) (seqS (setS 11 (callM F__law_behind 3 (consA (gv 3) (consA (gv 1) (consA (gv 8) nilA)))))
    (seqS (ifS (tvM (op2M (inD false) (op2M ixD (gv 0) (cM (.int 0))) (newM (lstM (consA (cM (.str "over")) (consA (cM (.str "across")) nilA)))))) (setS 11 (callM F__law_across 4 (consA (gv 3) (consA (gv 1) (consA (gv 4) (consA (gv 8) nilA)))))) skipS)
    (seqS (ifS (tvM (op2M (inD false) (op2M ixD (gv 0) (cM (.int 0))) (newM (lstM (consA (cM (.str "next")) (consA (cM (.str "over")) nilA)))))) (seqS (setS 9 (andV (op2M notND' (gv 11) (cM .non)) (op2M ixD (op2M ixD (gv 5) (cM (.int 0))) (gv 11))))
    brkS) skipS)
    (seqS (ifS (trT (op2M ixD (op2M ixD (gv 5) (cM (.int 1))) (gv 8))) (seqS (setS 9 (cM (.bl true)))
    brkS) skipS)
    (seqS (ifS (orT (notT (trT (op2M ixD (op2M ixD (gv 5) (cM (.int 0))) (gv 8)))) (tvM (op2M isND' (gv 11) (cM .non)))) brkS skipS)
    (setS 8 (gv 11))))))))
    (exprS (metL appL (gv 6) (consA (gv 9) nilA)))))))
    (retS (gv 6))))))))))))
noncomputable def F__law_is_name : List D → M D := runB 3 (seqS (setS 1 (andV (chM (cmpD fun i j => decide (i ≤ j)) (cmpD fun i j => decide (i ≤ j)) (cM (.int 1)) (bcM lenD (consA (gv 0) nilA)) (cM (.int 8))) (bcM allL (lcM (itS (gv 0)) (nameG 2) yesT (op2M (inS false) (gv 2) (cM (.str "abcdefghijklmnopqrstuvwxyz"))) [2]))))
    (retS (andV (gv 1) (op2M (inD true) (gv 0) (newM (lstM (consA (cM (.str "and")) (consA (cM (.str "or")) (consA (cM (.str "not")) (consA (cM (.str "same")) nilA))))))))))
noncomputable def F__law_good : Nat → List D → M D
  | 0 => fun _ => M.bad
  | n + 1 => runB 4 (seqS (ifS (orT (tvM (op2M eqD (gv 1) (cM (.int 0)))) (orT (notT (tvM (isiM "tuple" (gv 0)))) (orT (tvM (op2M eqD (bcM lenD (consA (gv 0) nilA)) (cM (.int 0)))) (notT (tvM (isiM "str" (op2M ixD (gv 0) (cM (.int 0))))))))) (retS (cM (.bl false))) skipS)
    (seqS (ifS (tvM (op2M eqD (op2M ixD (gv 0) (cM (.int 0))) (cM (.str "at")))) (seqS (ifS (orT (tvM (op2M neD (bcM lenD (consA (gv 0) nilA)) (cM (.int 3)))) (orT (tvM (op2M (inD true) (op2M ixD (gv 0) (cM (.int 1))) (newM (lstM (consA (cM (.str "call")) (consA (cM (.str "back")) (consA (cM (.str "say")) (consA (cM (.str "quiet")) nilA)))))))) (notT (tvM (isiM "str" (op2M ixD (gv 0) (cM (.int 2)))))))) (retS (cM (.bl false))) skipS)
    (retS (orV (op2M eqD (op2M ixD (gv 0) (cM (.int 2))) (cM (.str ""))) (callM F__law_is_name 1 (consA (op2M ixD (gv 0) (cM (.int 2))) nilA))))) skipS)
    (seqS (setS 2 (dispM [((cM (.str "yes")), (cM (.int 0))), ((cM (.str "not")), (cM (.int 1))), ((cM (.str "next")), (cM (.int 1))), ((cM (.str "over")), (cM (.int 1))), ((cM (.str "and")), (cM (.int 2))), ((cM (.str "or")), (cM (.int 2))), ((cM (.str "until")), (cM (.int 2))), ((cM (.str "across")), (cM (.int 2)))]))
    (seqS (ifS (tvM (op2M neD (op2M subD (bcM lenD (consA (gv 0) nilA)) (cM (.int 1))) (met2D get2D (gv 2) (op2M ixD (gv 0) (cM (.int 0))) (op1M negD (cM (.int 1)))))) (retS (cM (.bl false))) skipS)
    (retS (bcM allL (lcM (itV (sliceM cutT (gv 0) (someP (cM (.int 1))) noP)) (nameG 3) yesT (callM (F__law_good n) 2 (consA (gv 3) (consA (op2M subD (gv 1) (cM (.int 1))) nilA))) [3])))))))
noncomputable def F__law_ahead : Nat → List D → M D
  | 0 => fun _ => M.bad
  | n + 1 => runB 3 (seqS (ifS (tvM (op2M (inD false) (op2M ixD (gv 0) (cM (.int 0))) (newM (lstM (consA (cM (.str "at")) (consA (cM (.str "yes")) nilA)))))) (retS (newM (lstM nilA))) skipS)
    (seqS (setS 1 (ifE (tvM (op2M (inD false) (op2M ixD (gv 0) (cM (.int 0))) (newM (lstM (consA (cM (.str "next")) (consA (cM (.str "until")) (consA (cM (.str "over")) (consA (cM (.str "across")) nilA)))))))) (newM (lstM (consA (gv 0) nilA))) (newM (lstM nilA))))
    (seqS (forS (itV (sliceM cutT (gv 0) (someP (cM (.int 1))) noP)) (nameG 2) (exprS (metL exuL (gv 1) (consA (callM (F__law_ahead n) 1 (consA (gv 2) nilA)) nilA))))
    (retS (callM F__law_once 1 (consA (gv 1) nilA))))))
noncomputable def F__law_odd : List D → M D := runB 4 (seqS (setS 2 (callM F__law_draw 2 (consA (gv 0) (consA (cM (.int 5)) nilA))))
    (seqS (ifS (tvM (op2M eqD (gv 2) (cM (.int 0)))) (retS (tupM (consA (callM F__law_pick 2 (consA (gv 0) (consA (newM (lstM (consA (cM (.str "and")) (consA (cM (.str "not")) (consA (cM (.str "hop")) (consA (cM (.str "at")) (consA (cM (.str "yes")) nilA))))))) nilA))) (consA (gv 1) nilA)))) skipS)
    (seqS (ifS (tvM (op2M eqD (gv 2) (cM (.int 1)))) (retS (tupM (consA (cM (.str "or")) (consA (gv 1) (consA (tupM (consA (cM (.str "at")) (consA (callM F__law_pick 2 (consA (gv 0) (consA (newM (lstM (consA (cM (.str "say")) (consA (cM (.str "hop")) nilA)))) nilA))) (consA (callM F__law_pick 2 (consA (gv 0) (consA (newM (lstM (consA (cM (.str "x")) (consA (cM (.str "X")) (consA (cM (.str "and")) (consA (cM (.str "")) nilA)))))) nilA))) nilA)))) nilA))))) skipS)
    (seqS (ifS (tvM (op2M eqD (gv 2) (cM (.int 2)))) (seqS (forS (itR1 (consA (callM F__law_pick 2 (consA (gv 0) (consA (newM (lstM (consA (cM (.int 4)) (consA (cM (.int 5)) (consA (cM (.int 6)) (consA (cM (.int 7)) nilA)))))) nilA))) nilA)) (nameG 3) (setS 1 (tupM (consA (cM (.str "not")) (consA (gv 1) nilA)))))
    (retS (gv 1))) skipS)
    (seqS (forS (itR1 (consA (callM F__law_pick 2 (consA (gv 0) (consA (newM (lstM (consA (cM (.int 3)) (consA (cM (.int 5)) (consA (cM (.int 6)) nilA))))) nilA))) nilA)) (nameG 3) (setS 1 (callM F__law_pick 2 (consA (gv 0) (consA (newM (lstM (consA (tupM (consA (cM (.str "next")) (consA (gv 1) nilA))) (consA (tupM (consA (cM (.str "not")) (consA (gv 1) nilA))) nilA)))) nilA)))))
    (retS (gv 1)))))))
noncomputable def F_law : List D → M D := runB 10 (seqS (setS 1 (callM F__law_start 1 (consA (gv 0) nilA)))
    (seqS (setS 2 (callM (F__law_promise 6) 2 (consA (gv 1) (consA (callM F__law_draw 2 (consA (gv 1) (consA (cM (.int 5)) nilA))) nilA))))
    (seqS (ifS (tvM (op2M eqD (callM F__law_draw 2 (consA (gv 1) (consA (cM (.int 3)) nilA))) (cM (.int 0)))) (setS 2 (callM F__law_odd 2 (consA (gv 1) (consA (gv 2) nilA)))) skipS)
    (seqS (setS 3 (andV (callM (F__law_good 9) 2 (consA (gv 2) (consA (cM (.int 8)) nilA))) (op2M (cmpD fun i j => decide (i ≤ j)) (bcM lenD (consA (callM (F__law_ahead 10) 1 (consA (gv 2) nilA)) nilA)) (cM (.int 6)))))
    (seqS (ifS (notT (tvM (callM F__law_is 2 (consA (callM F_is_promise 1 (consA (gv 2) nilA)) (consA (gv 3) nilA))))) (retS (cM (.bl false))) skipS)
    (seqS (ifS (notT (trT (gv 3))) (retS (cM (.bl true))) skipS)
    (seqS (setS 4 (newM (lstM (consA (tupM (consA (cM (.str "call")) (consA (cM (.str "p")) nilA))) (consA (tupM (consA (cM (.str "back")) (consA (cM (.str "p")) nilA))) (consA (tupM (consA (cM (.str "say")) (consA (cM (.str "hi")) nilA))) (consA (tupM (consA (cM (.str "quiet")) (consA (cM (.str "")) nilA))) (consA (tupM (consA (cM (.str "say")) (consA (cM (.str "ho")) nilA))) (consA (tupM (consA (cM (.str "call")) (consA (cM (.str "q")) nilA))) nilA)))))))))
    (seqS (setS 5 (bcM tupL (lcM (itR1 (consA (callM F__law_draw 2 (consA (gv 1) (consA (cM (.int 8)) nilA))) nilA)) (nameG 8) yesT (callM F__law_pick 2 (consA (gv 1) (consA (gv 4) nilA))) [8])))
    (seqS (setS 6 (bcM tupL (lcM (itR1 (consA (op2M addD (cM (.int 1)) (callM F__law_draw 2 (consA (gv 1) (consA (cM (.int 7)) nilA)))) nilA)) (nameG 8) yesT (callM F__law_pick 2 (consA (gv 1) (consA (gv 4) nilA))) [8])))
    (seqS (setS 7 (callM (F__law_truths 10) 3 (consA (gv 2) (consA (gv 5) (consA (gv 6) nilA)))))
    (seqS (forS (itR1 (consA (cM (.int 4)) nilA)) (nameG 8) (seqS (setS 9 (callM F__law_draw 2 (consA (gv 1) (consA (bcM lenD (consA (gv 7) nilA)) nilA))))
    (ifS (notT (tvM (callM F__law_is 2 (consA (callM F_holds 4 (consA (gv 2) (consA (gv 5) (consA (gv 6) (consA (gv 9) nilA))))) (consA (op2M ixD (gv 7) (gv 9)) nilA))))) (retS (cM (.bl false))) skipS)))
    (retS (cM (.bl true))))))))))))))

end K12

section
open PySem L2 ML
local macro_rules | `(tactic| kcf_all) => `(tactic| (repeat (first | ((with_reducible apply wp_gv); rfl) | (with_reducible refine ws_seq ?_) | (with_reducible refine ws_set ?_) | (with_reducible refine ws_par ?_) | (with_reducible refine ws_expr ?_) | (with_reducible refine ws_ret ?_) | (with_reducible refine ws_if ?_) | (with_reducible refine ws_asg ?_) | (with_reducible refine ws_sub ?_) | (with_reducible refine ws_subT ?_) | (with_reducible refine ws_fldS ?_) | (with_reducible refine ws_skip ?_) | (with_reducible refine ws_brk ?_) | (with_reducible refine ws_ct ?_) | (with_reducible refine ws_retN ?_) | (with_reducible refine ws_lockS ?_) | (with_reducible refine wp_run ?_) | (with_reducible refine wp_cM ?_) | (with_reducible refine wp_fld ?_) | (with_reducible refine wp_op2 ?_) | (with_reducible refine wp_op1 ?_) | (with_reducible refine wp_call ?_) | (with_reducible refine wp_meth ?_) | (with_reducible refine wp_make ?_) | (with_reducible refine wp_new ?_) | (with_reducible refine wp_tup ?_) | (with_reducible refine wp_newK ?_) | (with_reducible refine wp_newT ?_) | (with_reducible refine wp_ifE ?_) | (with_reducible refine wp_notV ?_) | (with_reducible refine wp_andV ?_) | (with_reducible refine wp_orV ?_) | (with_reducible refine wp_met2D ?_) | (with_reducible refine wp_app ?_) | (with_reducible refine wp_ext ?_) | (with_reducible refine wx_exu ?_) | (with_reducible refine wp_pop ?_) | (with_reducible refine wp_slice ?_) | (with_reducible refine wo_no ?_) | (with_reducible refine wo_some ?_) | (with_reducible refine ch_of ?_) | (with_reducible refine wl_slice ?_) | (with_reducible refine wd_any ?_) | (with_reducible refine wd_all ?_) | (with_reducible refine wd_anyL ?_) | (with_reducible refine wd_allL ?_) | (with_reducible refine wp_bc ?_) | (with_reducible refine wp_disp ?_) | (with_reducible refine wq_cons ?_) | (with_reducible refine wq_nil ?_) | (with_reducible refine wp_lockM ?_) | (with_reducible refine wt_tv ?_) | (with_reducible refine wt_and ?_) | (with_reducible refine wt_or ?_) | (with_reducible refine wt_not ?_) | (with_reducible refine wt_tr ?_) | (with_reducible refine wt_yes ?_) | (with_reducible refine wl_nil ?_) | (with_reducible refine wl_cons ?_) | (with_reducible refine wl_lst ?_) | (with_reducible refine wl_lis ?_) | (with_reducible refine wi_lst ?_) | (with_reducible refine wi_rng ?_))))
set_option Elab.async false
set_option linter.all false
set_option maxRecDepth 100000
set_option autoImplicit false
/-! ### what several laws share: draws, the pushdown, its steps -/
namespace ML
open PySem L2
noncomputable def pushF : List D → M D := runB 5 (seqS (setS 1 (newM (lstM nilA)))
    (seqS (forS (itR1 (consA (op2M addD (cM (.int 1)) (callM drawF 2 (consA (gv 0) (consA (cM (.int 8)) nilA)))) nilA)) (nameG 2) (seqS (setS 3 (bcM tupL (lcM (itR1 (consA (callM pickF 2 (consA (gv 0) (consA (newM (lstM (consA (cM (.int 0)) (consA (cM (.int 0)) (consA (cM (.int 1)) (consA (cM (.int 2)) (consA (cM (.int 2)) nilA))))))) nilA))) nilA)) (nameG 4) yesT (callM pickF 2 (consA (gv 0) (consA (newM (lstM (consA (cM (.str "a")) (consA (cM (.str "b")) nilA)))) nilA))) [4])))
    (exprS (metL appL (gv 1) (consA (tupM (consA (callM drawF 2 (consA (gv 0) (consA (cM (.int 3)) nilA))) (consA (callM pickF 2 (consA (gv 0) (consA (newM (lstM (consA (cM (.str "a")) (consA (cM (.str "b")) nilA)))) nilA))) (consA (callM drawF 2 (consA (gv 0) (consA (cM (.int 3)) nilA))) (consA (gv 3) (consA (bcM intD (consA (op2M eqD (callM drawF 2 (consA (gv 0) (consA (cM (.int 3)) nilA))) (cM (.int 0))) nilA)) nilA)))))) nilA)))))
    (retS (bcM tupD (consA (gv 1) nilA)))))
noncomputable def nextF : List D → M D := runB 9 (seqS (setS 2 (newM (lstM nilA)))
    (seqS (forS (itR1 (consA (bcM lenD (consA (gv 0) nilA)) nilA)) (nameG 3) (seqS (asgS (tupG 5 (consG (nameG 4) (consG (nameG 5) (consG (nameG 6) (consG (nameG 7) (consG (nameG 8) nilG)))))) (op2M ixD (gv 0) (gv 3)))
    (ifS (andT (tvM (op2M eqD (op2M ixD (gv 1) (cM (.int 0))) (gv 4))) (tvM (op2M eqD (sliceM cutT (op2M ixD (gv 1) (cM (.int 1))) noP (someP (cM (.int 1)))) (tupM (consA (gv 5) nilA))))) (exprS (metL appL (gv 2) (consA (tupM (consA (gv 3) (consA (tupM (consA (gv 6) (consA (op2M addD (gv 7) (sliceM cutT (op2M ixD (gv 1) (cM (.int 1))) (someP (cM (.int 1))) noP)) nilA))) nilA))) nilA))) skipS)))
    (retS (gv 2))))
section
variable {k c : Nat} {cs : List Int} {h : Hm}
theorem draw_w {b : Int} (s : StA k c cs h) (hkc : c ≠ k) (hb : 0 < b) (hb2 : b < 1073741824) : wp (drawF [.ref k, .int b] h) fun d h1 => ∃ n, d = .int n ∧ 0 ≤ n ∧ n < b ∧ StA k c cs h1 ∧ Fr k h h1 ∧ h1.length = h.length := by
  obtain ⟨n, h1, e, n0, n1, s1, f1, l1⟩ := draw_ok s hb hb2 hkc
  exact ⟨_, h1, e, n, rfl, n0, n1, s1, f1, l1⟩
theorem pick_w {j : Nat} {ds : List D} (s : StA k c cs h) (hkc : c ≠ k) (ej : h[j]? = some (.lst ds)) (hjk : j ≠ k) (h0 : ds ≠ []) (hl : ds.length < 1073741824) : wp (pickF [.ref k, .ref j] h) fun d h1 => d ∈ ds ∧ StA k c cs h1 ∧ Fr k h h1 ∧ h1.length = h.length := by
  obtain ⟨d, h1, e, md, s1, f1, l1⟩ := pick_ok s hkc ej hjk h0 hl
  exact ⟨d, h1, e, md, s1, f1, l1⟩
theorem StA.lt (s : StA k c cs h) : k < h.length ∧ c < h.length := by
  obtain ⟨⟨a, l, m, q, _⟩, q2, _⟩ := s
  exact ⟨(List.getElem?_eq_some_iff.mp q).1, (List.getElem?_eq_some_iff.mp q2).1⟩
theorem StA.fr0 {h1 : Hm} (s : StA k c cs h) (old : ∀ j, j < h.length → (j = k ∨ j = c) → h1[j]? = h[j]?) : StA k c cs h1 := by
  have l := s.lt
  obtain ⟨⟨a, l', m, q, q1, q2⟩, q3, q4⟩ := s
  exact ⟨⟨a, l', m, (old k l.1 (.inl rfl)).trans q, q1, q2⟩, (old c l.2 (.inr rfl)).trans q3, q4⟩
theorem StA.app (s : StA k c cs h) (o : List O) : StA k c cs (h ++ o) := s.fr0 fun j hj _ => List.getElem?_append_left hj
theorem StA.setO (s : StA k c cs h) {j : Nat} (hj : j ≠ k) (hc : j ≠ c) (o : O) : StA k c cs (h.set j o) := s.fr0 fun i _ z => by
  rw [List.getElem?_set_ne]
  rcases z with z | z <;> rw [z] <;> assumption
theorem Fr.app (k : Nat) (h : Hm) (o : List O) : Fr k h (h ++ o) := ⟨by simp, fun i hi _ => List.getElem?_append_left hi⟩
/-- new objects written do not touch the old ones -/
theorem Fr.setN {h1 : Hm} (f : Fr k h h1) {j : Nat} (hj : h.length ≤ j) (o : O) : Fr k h (h1.set j o) := ⟨by rw [List.length_set]; exact f.1, fun i hi ik => by rw [List.getElem?_set_ne (by omega)]; exact f.2 i hi ik⟩
theorem Fr.get {h1 : Hm} {j : Nat} {o : O} (f : Fr k h h1) (e : h[j]? = some o) (hj : j ≠ k) : h1[j]? = some o := (f.2 j (List.getElem?_eq_some_iff.mp e).1 hj).trans e
theorem Fr.tr {h1 h2 : Hm} (a : Fr k h h1) (b : Fr k h1 h2) : Fr k h h2 := a.trans b
end
/-! #### pushdowns -/
structure Rul where
  p : D
  s : D
  q : D
  w : List D
  m : Int
def rulV (r : Rul) : D := .tup [r.p, r.s, r.q, .tup r.w, .int r.m]
def P3 : List D := [.int 0, .int 1, .int 2]
def AB : List D := [.str "a", .str "b"]
structure GoodRul (r : Rul) : Prop where
  p : r.p ∈ P3
  s : r.s ∈ AB
  q : r.q ∈ P3
  w : ∀ s ∈ r.w, s ∈ AB
  l : r.w.length ≤ 2
  m : r.m = 0 ∨ r.m = 1
theorem int_P3 {n : Int} (h0 : 0 ≤ n) (h3 : n < 3) : D.int n ∈ P3 := by
  have : n = 0 ∨ n = 1 ∨ n = 2 := by omega
  rcases this with e | e | e <;> subst e <;> decide
section
variable {k c : Nat} {cs : List Int} {h : Hm}
theorem push_w (s : StA k c cs h) (hkc : c ≠ k) : wp (pushF [.ref k] h) fun d h1 => ∃ R : List Rul, d = .tup (R.map rulV) ∧ (∀ r ∈ R, GoodRul r) ∧ 1 ≤ R.length ∧ R.length ≤ 8 ∧ StA k c cs h1 ∧ Fr k h h1 := by
  have lt := s.lt
  unfold pushF
  kcf_all
  refine ⟨by show _ ≤ 2 ^ 24; simp, ?_⟩
  refine ws_seq (ws_for (wi_rng ?_))
  kcf_all
  refine ⟨rfl, wp_imp (draw_w (s.app [.lst []]) hkc (by decide) (by decide)) fun d h1 ⟨n, ed, n0, n8, s1, f1, l1⟩ => ?_⟩
  subst ed
  kcf_all
  refine wp_of (a := .int (1 + n)) (h := h1) rfl ?_
  kcf_all
  refine ⟨1 + n, rfl, by omega, by omega, fun l σ hh => ∃ (R : List Rul) (a2 a3 a4 : Option D), σ = [some (.ref k), some (.ref h.length), a2, a3, a4] ∧ hh[h.length]? = some (.lst (R.map rulV)) ∧ (∀ r ∈ R, GoodRul r) ∧ R.length + l.length = (1 + n).toNat ∧ StA k c cs hh ∧ Fr k h hh,
    ⟨[], none, none, none, rfl, f1.get (by simp) (by omega), (fun _ z => by cases z), by simp, s1, (Fr.app k h _).tr f1⟩, fun d r σ hh ⟨R, a2, a3, a4, hσ, e1, gR, len, st, fr⟩ => ⟨(fun _ z => by cases z), ?_⟩, fun σ hh ⟨R, a2, a3, a4, hσ, e1, gR, len, st, fr⟩ => ⟨(fun _ z => by cases z), ?_⟩⟩
  · subst hσ
    refine ⟨_, rfl, ?_⟩
    have lt1 := (List.getElem?_eq_some_iff.mp e1).1
    kcf_all
    refine wl_lc (wi_rng ?_)
    kcf_all
    refine ⟨by show _ ≤ 2 ^ 24; simp, ?_⟩
    kcf_all
    refine ⟨rfl, wp_imp (pick_w (j := hh.length) (ds := [.int 0, .int 0, .int 1, .int 2, .int 2]) (st.app [.lst [.int 0, .int 0, .int 1, .int 2, .int 2]]) hkc (by simp) (by omega) (by simp) (by decide)) fun d2 h2 ⟨md, s2, f2, l2⟩ => ?_⟩
    obtain ⟨j, ej, j0, j2⟩ : ∃ j : Int, d2 = .int j ∧ 0 ≤ j ∧ j ≤ 2 := by
      simp only [List.mem_cons, List.not_mem_nil, or_false] at md
      rcases md with e | e | e | e | e <;> exact ⟨_, e, by decide, by decide⟩
    subst ej
    kcf_all
    refine ⟨j, rfl, j0, by omega, fun l acc h3 => (∀ s ∈ acc, s ∈ AB) ∧ acc.length + l.length = j.toNat ∧ StA k c cs h3 ∧ Fr k hh h3, ⟨(fun _ z => by cases z), by simp, s2, (Fr.app k hh _).tr f2⟩,
      fun d3 r3 acc h3 ⟨ga, la, s3, f3⟩ => ⟨(fun _ z => by cases z), _, rfl, wt_yes ⟨(fun z => by cases z), fun _ => ?_⟩⟩, fun acc h3 ⟨ga, la, s3, f3⟩ => ⟨(fun _ z => by cases z), by simp at la; show _ ≤ 2 ^ 24; omega, ?_⟩⟩
    · kcf_all
      refine ⟨by show _ ≤ 2 ^ 24; simp, ?_⟩
      kcf_all
      refine ⟨rfl, wp_imp (pick_w (j := h3.length) (ds := [.str "a", .str "b"]) (s3.app [.lst [.str "a", .str "b"]]) hkc (by simp) (by have := f3.1; omega) (by simp) (by decide)) fun d4 h4 ⟨md4, s4, f4, l4⟩ => ⟨fun s m => ?_, by simp at la ⊢; omega, s4, f3.tr ((Fr.app k h3 _).tr f4)⟩⟩
      rcases List.mem_append.mp m with m | m
      · exact ga s m
      · rw [List.mem_singleton.mp m]; exact md4
    · refine wp_of (a := .tup acc) (h := h3) rfl ?_
      have e3 : h3[h.length]? = some (.lst (R.map rulV)) := f3.get e1 (by omega)
      kcf_all
      refine ⟨h.length, _, rfl, e3, ?_⟩
      kcf_all
      refine ⟨rfl, wp_imp (draw_w s3 hkc (by decide) (by decide)) fun d4 h4 ⟨n4, ed4, n40, n43, s4, f4, l4⟩ => ?_⟩
      subst ed4
      kcf_all
      refine ⟨by show _ ≤ 2 ^ 24; simp, ?_⟩
      kcf_all
      refine ⟨rfl, wp_imp (pick_w (j := h4.length) (ds := [.str "a", .str "b"]) (s4.app [.lst [.str "a", .str "b"]]) hkc (by simp) (by have := f3.1; have := f4.1; omega) (by simp) (by decide)) fun d5 h5 ⟨md5, s5, f5, l5⟩ => ?_⟩
      kcf_all
      refine ⟨rfl, wp_imp (draw_w s5 hkc (by decide) (by decide)) fun d6 h6 ⟨n6, ed6, n60, n63, s6, f6, l6⟩ => ?_⟩
      subst ed6
      kcf_all
      refine ⟨rfl, wp_imp (draw_w s6 hkc (by decide) (by decide)) fun d7 h7 ⟨n7, ed7, n70, n73, s7, f7, l7⟩ => ?_⟩
      subst ed7
      kcf_all
      refine wp_of (eqD_of n7 0 h7) ?_
      kcf_all
      refine wp_of (a := .int (if decide (n7 = 0) = true then 1 else 0)) (h := h7) rfl ?_
      kcf_all
      have f37 : Fr k hh h7 := f3.tr (f4.tr ((Fr.app k h4 _).tr (f5.tr (f6.tr f7))))
      have e7 : h7[h.length]? = some (.lst (R.map rulV)) := f37.get e1 (by omega)
      refine ⟨by show _ ≤ 2 ^ 24; simp, _, e7, by simp at len ⊢; show _ < 2 ^ 24; omega, ?_⟩
      refine ⟨R ++ [⟨.int n4, d5, .int n6, acc, if decide (n7 = 0) = true then 1 else 0⟩], _, _, _, rfl, ?_, fun r' m => ?_, by simp at len ⊢; omega, s7.setO (by omega) (by omega) _, (fr.tr f37).setN (Nat.le_refl _) _⟩
      · rw [List.getElem?_set_self (List.getElem?_eq_some_iff.mp e7).1, List.map_append]
        rfl
      · rcases List.mem_append.mp m with m | m
        · exact gR r' m
        · rw [List.mem_singleton.mp m]
          refine ⟨int_P3 n40 n43, md5, int_P3 n60 n63, ga, ?_, ?_⟩
          · simp at la
            show acc.length ≤ 2
            omega
          · show (if decide (n7 = 0) = true then (1 : Int) else 0) = 0 ∨ _ = 1
            split <;> simp
  · subst hσ
    kcf_all
    refine wp_of (a := .tup (R.map rulV)) (h := hh) (by unfold tupD; dsimp only; rw [e1]) ?_
    simp at len
    exact ⟨R, rfl, gR, by omega, by omega, st, fr⟩
end
end ML

end
section
set_option Elab.async false
set_option linter.all false
set_option maxRecDepth 100000
set_option autoImplicit false
/-! ### slices and indexes, read; the steps of a pushdown -/
namespace ML
open PySem L2
section
variable {σ : Sm} {h : Hm} {Q : D → Hm → Prop}
theorem wp_slice {g : D → Option Int → Option Int → M D} {m : Sm → M D} {lo hi : Sm → M (Option Int)} (w : wp (m σ h) fun d h1 => wp (lo σ h1) fun a h2 => wp (hi σ h2) fun b h3 => wp (g d a b h3) Q) : wp (sliceM g m lo hi σ h) Q := by
  obtain ⟨d, h1, e1, a, h2, e2, b, h3, e3, r, h4, e4, q⟩ := w
  exact ⟨r, h4, (bind_of e1).trans ((bind_of e2).trans ((bind_of e3).trans e4)), q⟩
theorem wo_no {Q : Option Int → Hm → Prop} (q : Q none h) : wp (noP σ h) Q := ⟨_, _, rfl, q⟩
theorem wo_some {m : Sm → M D} {Q : Option Int → Hm → Prop} (w : wp (m σ h) fun d h1 => ∃ i, d = .int i ∧ Q (some i) h1) : wp (someP m σ h) Q := by
  obtain ⟨d, h1, e, i, rfl, q⟩ := w
  exact ⟨some i, h1, bind_of e, q⟩
theorem wp_cut {xs : List D} {a b : Option Int} (q : Q (.tup (cutL xs a b)) h) : wp (cutT (.tup xs) a b h) Q := ⟨_, h, rfl, q⟩
theorem wl_slice {m : Sm → M D} {lo hi : Sm → M (Option Int)} {Q : List D → Hm → Prop} (w : wp (m σ h) fun d h1 => wp (lo σ h1) fun a h2 => wp (hi σ h2) fun b h3 => ∃ k xs, d = .ref k ∧ h3[k]? = some (.lst xs) ∧ Q (cutL xs a b) h3) : wp (sliceL m lo hi σ h) Q := by
  obtain ⟨d, h1, e1, a, h2, e2, b, h3, e3, k, xs, rfl, ek, q⟩ := w
  refine ⟨_, h3, (bind_of e1).trans ((bind_of e2).trans ((bind_of e3).trans ?_)), q⟩
  dsimp only
  rw [ek]
theorem ch_of {g g' : D → D → M D} {ma mb mc : Sm → M D} (w : wp (ma σ h) fun a h1 => wp (mb σ h1) fun b h2 => wp (g a b h2) fun z h3 => ∃ t, z = .bl t ∧ (t = true → wp (mc σ h3) fun c h4 => wp (g' b c h4) Q) ∧ (t = false → Q (.bl false) h3)) : wp (chM g g' ma mb mc σ h) Q := by
  obtain ⟨a, h1, e1, b, h2, e2, z, h3, e3, t, rfl, q1, q2⟩ := w
  unfold chM
  refine wp_bind ⟨a, h1, e1, wp_bind ⟨b, h2, e2, wp_bind ⟨.bl t, h3, e3, ?_⟩⟩⟩
  cases t with
  | true => exact wp_bind (q1 rfl)
  | false => exact ⟨_, h3, rfl, q2 rfl⟩
theorem wx_exu {mo me : Sm → M D} (w : wp (mo σ h) fun o h1 => ∃ k xs, o = .ref k ∧ h1[k]? = some (.lst xs) ∧ wp (me σ h1) fun d h2 => ∃ ys zs, (d = .tup ys ∨ ∃ j, d = .ref j ∧ h2[j]? = some (.lst ys)) ∧ h2[k]? = some (.lst zs) ∧ zs.length + ys.length ≤ sizeLine ∧ Q .non (h2.set k (.lst (zs ++ ys)))) : wp (metL exuL mo (consA me nilA) σ h) Q := by
  obtain ⟨o, h1, e1, k, xs, rfl, ek, d, h2, e2, ys, zs, alt, ek2, hl, q⟩ := w
  have l1 : isL (.ref k) h1 = some (.ref k, h1) := by unfold isL; dsimp only; rw [ek]
  have a1 : consA me nilA σ h1 = some ([d], h2) := cons_of e2 nil_of
  refine ⟨_, _, ?_, q⟩
  unfold metL
  rw [bind_app, bind_of e1, l1]
  dsimp only
  rw [bind_of a1]
  rcases alt with rfl | ⟨j, rfl, ej⟩
  · unfold exuL
    dsimp only
    rw [ek2]
    exact if_pos hl
  · show extL (.ref k) [.ref j] h2 = _
    unfold extL
    dsimp only
    rw [ek2, ej]
    exact if_pos hl
end
theorem cut_take {xs : List D} (n : Nat) : cutL xs none (some (n : Int)) = xs.take n := by
  unfold cutL
  rw [HT.sIx_none, HT.sIx_nat, List.drop_zero, Nat.sub_zero]
  by_cases q : n ≤ xs.length
  · rw [Nat.min_eq_left q]
  · rw [Nat.min_eq_right (by omega), List.take_of_length_le (by omega), List.take_of_length_le (by omega)]
theorem cut_drop {xs : List D} (n : Nat) : cutL xs (some (n : Int)) none = xs.drop n := by
  unfold cutL
  rw [HT.sIx_none, HT.sIx_nat]
  by_cases q : n ≤ xs.length
  · rw [Nat.min_eq_left q, List.take_of_length_le (by rw [List.length_drop]; omega)]
  · rw [Nat.min_eq_right (by omega), Nat.sub_self, List.take_zero, List.drop_eq_nil_of_le (by omega)]
theorem cut_takeI {xs : List D} {i : Int} (h : 0 ≤ i) : cutL xs none (some i) = xs.take i.toNat := by
  have := cut_take (xs := xs) i.toNat
  rw [Int.toNat_of_nonneg h] at this
  exact this
theorem cut_dropI {xs : List D} {i : Int} (h : 0 ≤ i) : cutL xs (some i) none = xs.drop i.toNat := by
  have := cut_drop (xs := xs) i.toNat
  rw [Int.toNat_of_nonneg h] at this
  exact this
theorem atI_of {xs : List D} {i : Int} {v : D} (h0 : 0 ≤ i) (e : xs[i.toNat]? = some v) : atI xs i = some v := by
  have := atI_nat (xs := xs) (j := i.toNat) e
  rw [Int.toNat_of_nonneg h0] at this
  exact this
theorem ix_tup {xs : List D} {i : Int} {v : D} {h : Hm} (h0 : 0 ≤ i) (e : xs[i.toNat]? = some v) : ixD (.tup xs) (.int i) h = some (v, h) := by
  show (atI xs i).map (fun d => (d, h)) = _
  rw [atI_of h0 e]
  rfl
theorem ix_lst {xs : List D} {k : Nat} {i : Int} {v : D} {h : Hm} (ek : h[k]? = some (.lst xs)) (h0 : 0 ≤ i) (e : xs[i.toNat]? = some v) : ixD (.ref k) (.int i) h = some (v, h) := ix_list ek (atI_of h0 e)
theorem len_tup {xs : List D} {h : Hm} : lenD [.tup xs] h = some (.int xs.length, h) := rfl
theorem len_lst {xs : List D} {k : Nat} {h : Hm} (ek : h[k]? = some (.lst xs)) : lenD [.ref k] h = some (.int xs.length, h) := by
  unfold lenD
  dsimp only
  rw [ek]
theorem lt_int (i j : Int) (h : Hm) : ltD (.int i) (.int j) h = some (.bl (decide (i < j)), h) := congrFun (ltD_int i j) h
theorem ok_P3 : ∀ a ∈ P3, nb a = true ∧ okD a = true := by decide +kernel
theorem ok_AB : ∀ a ∈ AB, nb a = true ∧ okD a = true := by decide +kernel
/-! #### plain data, said by their parts -/
theorem okD_tup {xs : List D} (n : Nat) (h : ∀ x ∈ xs, (toP x).canLay0 = true ∧ (toP x).depth ≤ n) (hn : n < 64) : okD (.tup xs) = true := by
  have go : ∀ {xs : List D}, (∀ x ∈ xs, (toP x).canLay0 = true ∧ (toP x).depth ≤ n) → PyData.canLayAll0 (toPs xs) = true ∧ PyData.depthAll (toPs xs) ≤ n := by
    intro xs
    induction xs with
    | nil => intro _; exact ⟨by rw [toPs, PyData.canLayAll0], by rw [toPs, PyData.depthAll]; omega⟩
    | cons x xs ih =>
      intro h
      obtain ⟨a, b⟩ := ih fun y m => h y (List.mem_cons_of_mem _ m)
      obtain ⟨c, d⟩ := h x (by simp)
      exact ⟨by rw [toPs, PyData.canLayAll0, c, a]; rfl, by rw [toPs, PyData.depthAll]; omega⟩
  obtain ⟨a, b⟩ := go h
  unfold okD SeqAt.shaped
  rw [toP, PyData.canLay0, a, PyData.depth, decide_eq_true (by omega)]
  rfl
theorem lay_AB : ∀ a ∈ AB, (toP a).canLay0 = true ∧ (toP a).depth ≤ 0 := by decide +kernel
theorem lay_P3 : ∀ a ∈ P3, (toP a).canLay0 = true ∧ (toP a).depth ≤ 0 := by decide +kernel
theorem nb_tup {xs : List D} (h : ∀ x ∈ xs, nb x = true) : nb (.tup xs) = true := by
  rw [nb]
  exact nbs_iff.mpr h
theorem ok_stack {st : List D} (h : ∀ s ∈ st, s ∈ AB) : nb (.tup st) = true ∧ okD (.tup st) = true := ⟨nb_tup fun x m => (ok_AB x (h x m)).1, okD_tup 0 (fun x m => lay_AB x (h x m)) (by decide)⟩
/-! #### the steps of a pushdown -/
def stepTo (r : Rul) (p : D) (st : List D) : Option (D × List D) := match st with
  | [] => none
  | t :: rest => if r.p = p ∧ r.s = t then some (r.q, r.w ++ rest) else none
def confV (c : D × List D) : D := .tup [c.1, .tup c.2]
def nextsF (p : D) (st : List D) : Nat → List Rul → List D
  | _, [] => []
  | n, r :: rs => (match stepTo r p st with
    | some c => [.tup [.int n, confV c]]
    | none => []) ++ nextsF p st (n + 1) rs
theorem nexts_app (p : D) (st : List D) (r : Rul) : ∀ (rs : List Rul) (n : Nat), nextsF p st n (rs ++ [r]) = nextsF p st n rs ++ (match stepTo r p st with
    | some c => [.tup [.int (n + rs.length : Nat), confV c]]
    | none => [])
  | [], n => by
    show (match stepTo r p st with | some c => [D.tup [.int n, confV c]] | none => []) ++ [] = [] ++ _
    rw [List.append_nil, List.nil_append]
    rfl
  | x :: rs, n => by
    rw [List.cons_append, nextsF, nexts_app p st r rs (n + 1), nextsF, List.append_assoc]
    congr 2
    rw [List.length_cons, show n + 1 + rs.length = n + (rs.length + 1) by omega]
open PySem L2 ML
local macro_rules | `(tactic| kcf_all) => `(tactic| (repeat (first | ((with_reducible apply wp_gv); rfl) | (with_reducible refine ws_seq ?_) | (with_reducible refine ws_set ?_) | (with_reducible refine ws_par ?_) | (with_reducible refine ws_expr ?_) | (with_reducible refine ws_ret ?_) | (with_reducible refine ws_if ?_) | (with_reducible refine ws_asg ?_) | (with_reducible refine ws_sub ?_) | (with_reducible refine ws_subT ?_) | (with_reducible refine ws_fldS ?_) | (with_reducible refine ws_skip ?_) | (with_reducible refine ws_brk ?_) | (with_reducible refine ws_ct ?_) | (with_reducible refine ws_retN ?_) | (with_reducible refine ws_lockS ?_) | (with_reducible refine wp_run ?_) | (with_reducible refine wp_cM ?_) | (with_reducible refine wp_fld ?_) | (with_reducible refine wp_op2 ?_) | (with_reducible refine wp_op1 ?_) | (with_reducible refine wp_call ?_) | (with_reducible refine wp_meth ?_) | (with_reducible refine wp_make ?_) | (with_reducible refine wp_new ?_) | (with_reducible refine wp_tup ?_) | (with_reducible refine wp_newK ?_) | (with_reducible refine wp_newT ?_) | (with_reducible refine wp_ifE ?_) | (with_reducible refine wp_notV ?_) | (with_reducible refine wp_andV ?_) | (with_reducible refine wp_orV ?_) | (with_reducible refine wp_met2D ?_) | (with_reducible refine wp_app ?_) | (with_reducible refine wp_ext ?_) | (with_reducible refine wx_exu ?_) | (with_reducible refine wp_pop ?_) | (with_reducible refine wp_slice ?_) | (with_reducible refine wo_no ?_) | (with_reducible refine wo_some ?_) | (with_reducible refine ch_of ?_) | (with_reducible refine wl_slice ?_) | (with_reducible refine wd_any ?_) | (with_reducible refine wd_all ?_) | (with_reducible refine wd_anyL ?_) | (with_reducible refine wd_allL ?_) | (with_reducible refine wp_bc ?_) | (with_reducible refine wp_disp ?_) | (with_reducible refine wq_cons ?_) | (with_reducible refine wq_nil ?_) | (with_reducible refine wp_lockM ?_) | (with_reducible refine wt_tv ?_) | (with_reducible refine wt_and ?_) | (with_reducible refine wt_or ?_) | (with_reducible refine wt_not ?_) | (with_reducible refine wt_tr ?_) | (with_reducible refine wt_yes ?_) | (with_reducible refine wl_nil ?_) | (with_reducible refine wl_cons ?_) | (with_reducible refine wl_lst ?_) | (with_reducible refine wl_lis ?_) | (with_reducible refine wi_lst ?_) | (with_reducible refine wi_rng ?_))))
theorem next_w {R : List Rul} (gR : ∀ r ∈ R, GoodRul r) (hR : R.length ≤ 1000) {p : D} (hp : p ∈ P3) {st : List D} (hs : ∀ s ∈ st, s ∈ AB) (hl : st.length ≤ 1000000) (h : Hm) :
    wp (nextF [.tup (R.map rulV), .tup [p, .tup st]] h) fun d h1 => ∃ j, d = .ref j ∧ h1[j]? = some (.lst (nextsF p st 0 R)) ∧ h.length ≤ j ∧ h.length ≤ h1.length ∧ ∀ i, i < h.length → h1[i]? = h[i]? := by
  unfold nextF
  kcf_all
  refine ⟨by show _ ≤ 2 ^ 24; simp, ?_⟩
  refine ws_seq (ws_for (wi_rng ?_))
  kcf_all
  refine wp_of len_tup ?_
  kcf_all
  have take1 : ∀ {t : D} {rest : List D}, cutL (t :: rest) none (some 1) = [t] := fun {t rest} => cut_take 1
  have drop1 : ∀ {t : D} {rest : List D}, cutL (t :: rest) (some 1) none = rest := fun {t rest} => cut_drop 1
  refine ⟨(R.map rulV).length, rfl, by omega, by rw [List.length_map]; omega, fun l σ hh => ∃ (n : Nat) (a3 a4 a5 a6 a7 a8 : Option D), σ = [some (.tup (R.map rulV)), some (.tup [p, .tup st]), some (.ref h.length), a3, a4, a5, a6, a7, a8] ∧ n + l.length = R.length ∧ l = (List.range' n l.length).map (fun (i : Nat) => D.int i) ∧ hh = h ++ [.lst (nextsF p st 0 (R.take n))],
    ⟨0, none, none, none, none, none, none, rfl, by simp, ?_, rfl⟩, fun d l σ hh ⟨n, a3, a4, a5, a6, a7, a8, hσ, en, el, eh⟩ => ⟨(fun _ z => by cases z), ?_⟩, fun σ hh ⟨n, a3, a4, a5, a6, a7, a8, hσ, en, el, eh⟩ => ⟨(fun _ z => by cases z), ?_⟩⟩
  · simp [List.range_eq_range']
  · subst hσ
    rw [List.length_cons, List.range'_succ, List.map_cons] at el
    injection el with ed el
    subst ed eh
    have ln : n < R.length := by simp at en; omega
    have er : R[n]? = some R[n] := List.getElem?_eq_getElem ln
    obtain ⟨gp, gs, gq, gw, gl, gm⟩ := gR R[n] (List.getElem_mem ln)
    have et : R.take (n + 1) = R.take n ++ [R[n]] := by rw [List.take_succ, er]; rfl
    have ll : (R.take n).length = n := by rw [List.length_take]; omega
    have bnd : (nextsF p st 0 (R.take n)).length ≤ n := by
      have go : ∀ (rs : List Rul) (m : Nat), (nextsF p st m rs).length ≤ rs.length := by
        intro rs
        induction rs with
        | nil => intro m; exact Nat.le_refl _
        | cons r rs ih =>
          intro m
          rw [nextsF, List.length_append, List.length_cons]
          have := ih (m + 1)
          split <;> simp <;> omega
      have := go (R.take n) 0
      omega
    refine ⟨[some (.tup (R.map rulV)), some (.tup [p, .tup st]), some (.ref h.length), some (.int n), a4, a5, a6, a7, a8], rfl, ?_⟩
    kcf_all
    refine wp_of (a := rulV R[n]) (h := h ++ [.lst (nextsF p st 0 (R.take n))]) (ix_tup (by omega) (by rw [Int.toNat_natCast, List.getElem?_map, er]; rfl)) ⟨[some (.tup (R.map rulV)), some (.tup [p, .tup st]), some (.ref h.length), some (.int n), some R[n].p, some R[n].s, some R[n].q, some (.tup R[n].w), some (.int R[n].m)], rfl, ?_⟩
    kcf_all
    refine wp_of (a := p) (h := h ++ [.lst (nextsF p st 0 (R.take n))]) rfl ?_
    kcf_all
    refine wp_of (eq_nb (ok_P3 p hp).1 (ok_P3 _ gp).1 (ok_P3 p hp).2 (ok_P3 _ gp).2 _) ⟨_, rfl, fun c => ?_, fun c => ?_⟩
    · have ep := of_decide_eq_true c
      kcf_all
      refine wp_of (a := .tup st) (h := h ++ [.lst (nextsF p st 0 (R.take n))]) rfl ?_
      kcf_all
      refine ⟨1, rfl, wp_cut ?_⟩
      kcf_all
      refine ⟨by show _ ≤ 2 ^ 24; simp, ?_⟩
      have o1 := ok_stack (st := [R[n].s]) (fun s m => by rw [List.mem_singleton.mp m]; exact gs)
      have o2 := ok_stack (st := cutL st none (some 1)) (fun s m => by
        rw [show (1 : Int) = ((1 : Nat) : Int) from rfl, cut_take] at m
        exact hs s (List.mem_of_mem_take m))
      refine wp_of (eq_nb o2.1 o1.1 o2.2 o1.2 _) ⟨_, rfl, fun c2 => ?_, fun c2 => ?_⟩
      · have c2 := of_decide_eq_true c2
        cases st with
        | nil =>
          rw [show (1 : Int) = ((1 : Nat) : Int) from rfl, cut_take] at c2
          cases c2
        | cons t rest =>
        rw [take1] at c2
        have c2 : t = R[n].s := by injection c2 with c2; injection c2
        kcf_all
        refine ⟨h.length, nextsF p (t :: rest) 0 (R.take n), rfl, by simp, ?_⟩
        kcf_all
        refine wp_of (a := .tup (t :: rest)) (h := h ++ [.lst (nextsF p (t :: rest) 0 (R.take n))]) rfl ?_
        kcf_all
        refine ⟨1, rfl, ?_⟩
        kcf_all
        refine wp_cut ?_
        rw [drop1]
        refine wp_of (a := .tup (R[n].w ++ rest)) (h := h ++ [.lst (nextsF p (t :: rest) 0 (R.take n))]) ?_ ?_
        · unfold addD
          dsimp only
          rw [if_pos (by simp at hl; show _ ≤ 2 ^ 24; omega)]
          rfl
        kcf_all
        refine ⟨by show _ ≤ 2 ^ 24; simp, ?_⟩
        kcf_all
        refine ⟨by show _ ≤ 2 ^ 24; simp, nextsF p (t :: rest) 0 (R.take n), by simp, by show _ < 2 ^ 24; omega, ?_⟩
        refine ⟨n + 1, _, _, _, _, _, _, rfl, by simp at en; omega, el, ?_⟩
        rw [et, nexts_app, ll]
        have es : stepTo R[n] p (t :: rest) = some (R[n].q, R[n].w ++ rest) := if_pos ⟨ep.symm, c2.symm⟩
        rw [es, List.set_append_right _ _ (Nat.le_refl _), Nat.sub_self]
        simp [confV]
      · kcf_all
        refine ⟨n + 1, _, _, _, _, _, _, rfl, by simp at en; omega, el, ?_⟩
        rw [et, nexts_app, ll]
        have es : stepTo R[n] p st = none := by
          cases st with
          | nil => rfl
          | cons t rest =>
            refine if_neg fun z => of_decide_eq_false c2 ?_
            rw [take1, z.2]
        rw [es, List.append_nil]
    · refine ⟨(fun z => by cases z), fun _ => ?_⟩
      kcf_all
      refine ⟨n + 1, _, _, _, _, _, _, rfl, by simp at en; omega, el, ?_⟩
      rw [et, nexts_app, ll]
      have es : stepTo R[n] p st = none := by
        cases st with
        | nil => rfl
        | cons t rest => exact if_neg fun z => of_decide_eq_false c z.1.symm
      rw [es, List.append_nil]
  · subst hσ eh
    kcf_all
    simp at en
    refine ⟨h.length, rfl, ?_, Nat.le_refl _, by simp, fun i hi => List.getElem?_append_left hi⟩
    rw [en, List.take_length]
    simp
end ML

end
section
open PySem L2 ML
local macro_rules | `(tactic| kqd_sub) => `(tactic| (repeat (first | ((with_reducible apply wp_gv); rfl) | (with_reducible refine wp_met2T ?_) | (with_reducible refine wp_dcT ?_) | (with_reducible refine ws_lockSA ?_) | (with_reducible refine wp_popI ?_) | (with_reducible refine wl_lisT ?_) | (with_reducible refine wl_valT ?_) | (with_reducible refine wi_tkey ?_) | (with_reducible refine to_all ?_) | (with_reducible refine to_any ?_) | (with_reducible refine ws_seq ?_) | (with_reducible refine ws_set ?_) | (with_reducible refine ws_par ?_) | (with_reducible refine ws_expr ?_) | (with_reducible refine ws_ret ?_) | (with_reducible refine ws_if ?_) | (with_reducible refine ws_asg ?_) | (with_reducible refine ws_sub ?_) | (with_reducible refine ws_subT ?_) | (with_reducible refine ws_fldS ?_) | (with_reducible refine ws_skip ?_) | (with_reducible refine ws_brk ?_) | (with_reducible refine ws_ct ?_) | (with_reducible refine ws_retN ?_) | (with_reducible refine ws_lockS ?_) | (with_reducible refine wp_run ?_) | (with_reducible refine wp_cM ?_) | (with_reducible refine wp_fld ?_) | (with_reducible refine wp_op2 ?_) | (with_reducible refine wp_op1 ?_) | (with_reducible refine wp_call ?_) | (with_reducible refine wp_meth ?_) | (with_reducible refine wp_make ?_) | (with_reducible refine wp_new ?_) | (with_reducible refine wp_tup ?_) | (with_reducible refine wp_newK ?_) | (with_reducible refine wp_newT ?_) | (with_reducible refine wp_ifE ?_) | (with_reducible refine wp_notV ?_) | (with_reducible refine wp_andV ?_) | (with_reducible refine wp_orV ?_) | (with_reducible refine wp_met2D ?_) | (with_reducible refine wp_app ?_) | (with_reducible refine wp_ext ?_) | (with_reducible refine wx_exu ?_) | (with_reducible refine wp_pop ?_) | (with_reducible refine wp_slice ?_) | (with_reducible refine wo_no ?_) | (with_reducible refine wo_some ?_) | (with_reducible refine ch_of ?_) | (with_reducible refine wl_slice ?_) | (with_reducible refine wp_bc ?_) | (with_reducible refine wp_disp ?_) | (with_reducible refine wq_cons ?_) | (with_reducible refine wq_nil ?_) | (with_reducible refine wp_lockM ?_) | (with_reducible refine wt_tv ?_) | (with_reducible refine wt_and ?_) | (with_reducible refine wt_or ?_) | (with_reducible refine wt_not ?_) | (with_reducible refine wt_tr ?_) | (with_reducible refine wt_yes ?_) | (with_reducible refine wl_nil ?_) | (with_reducible refine wl_cons ?_) | (with_reducible refine wl_lst ?_) | (with_reducible refine wl_lis ?_) | (with_reducible refine wi_lst ?_) | (with_reducible refine wi_rng ?_) | (with_reducible refine wl_listT ?_) | (with_reducible refine wp_met1D ?_) | (with_reducible refine wl_lisR2 ?_) | (with_reducible refine wl_lisR1 ?_) | (with_reducible refine wp_eqI ?_) | (with_reducible refine wp_neI ?_) | (with_reducible refine wp_ltI ?_) | (with_reducible refine wp_cmpI ?_) | (with_reducible refine wp_addI ?_) | (with_reducible refine wp_subI ?_) | (with_reducible refine wp_negI ?_) | (with_reducible refine wp_isN0 ?_) | (with_reducible refine wp_isNI ?_) | (with_reducible refine wp_isNS ?_) | (with_reducible refine wp_isNT ?_) | (with_reducible refine wp_isNR ?_) | (with_reducible refine wp_ntN0 ?_) | (with_reducible refine wp_ntNI ?_) | (with_reducible refine wp_ntNS ?_) | (with_reducible refine wp_ntNT ?_) | (with_reducible refine wp_ntNR ?_) | (with_reducible refine wp_lenT ?_) | (with_reducible refine wp_ix0 ?_) | (with_reducible refine wp_ix1 ?_) | (with_reducible refine wp_ix2 ?_) | (with_reducible refine wp_ix3 ?_) | (with_reducible refine wp_ix4 ?_) | (with_reducible refine wp_max ?_) | (with_reducible refine wp_min ?_) | (with_reducible refine wp_intD ?_) | (with_reducible refine wp_intB ?_) | (with_reducible refine wt_trN ?_) | (with_reducible refine wt_trB ?_) | (with_reducible refine wt_trI ?_) | (with_reducible refine wt_trT ?_) | (with_reducible refine wp_isi ?_) | (with_reducible refine is_ss ?_) | (with_reducible refine is_st ?_) | (with_reducible refine is_si ?_) | (with_reducible refine is_ts ?_) | (with_reducible refine is_tt ?_) | (with_reducible refine is_ti ?_) | (with_reducible refine is_is ?_) | (with_reducible refine is_it ?_) | (with_reducible refine is_ii ?_) | (with_reducible refine is_ib ?_) | (with_reducible refine is_bb ?_) | (with_reducible refine is_bi ?_) | (with_reducible refine is_bs ?_) | (with_reducible refine is_bt ?_) | (with_reducible refine is_ns ?_) | (with_reducible refine is_nt ?_) | (with_reducible refine is_ni ?_) | (with_reducible refine is_nb ?_) | (with_reducible refine ex_bl ?_) | (with_reducible refine ex_int ?_) | (with_reducible refine br_t ?_) | (with_reducible refine br_f ?_) | (with_reducible refine br_nt ?_) | (with_reducible refine br_nf ?_) | (refine fits (by simp) ?_) | (refine br_T (by rfl) ?_) | (refine br_F (by rfl) ?_))))
set_option Elab.async false
set_option linter.all false
set_option maxRecDepth 100000
set_option autoImplicit false
/-! ### primitive results, told at once -/
namespace ML
open PySem L2
/-- plain data no deeper than n -/
structure Pd (n : Nat) (d : D) : Prop where
  nb : nb d = true
  lay : (toP d).canLay0 = true
  dep : (toP d).depth ≤ n
theorem Pd.mono {n m : Nat} {d : D} (p : Pd n d) (h : n ≤ m) : Pd m d := ⟨p.nb, p.lay, Nat.le_trans p.dep h⟩
theorem Pd.ok {n : Nat} {d : D} (p : Pd n d) (h : n ≤ 64) : okD d = true := by
  unfold okD SeqAt.shaped
  rw [p.lay, decide_eq_true (Nat.le_trans p.dep h)]
  rfl
theorem Pd.int (i : Int) : Pd 0 (.int i) := ⟨rfl, rfl, Nat.le_refl _⟩
theorem Pd.non : Pd 0 .non := ⟨rfl, rfl, Nat.le_refl _⟩
theorem Pd.str {x : Str} (h : PyData.strOk x = true) : Pd 0 (.str x) := ⟨rfl, by show PyData.canLay0 (.str x) = true; rw [PyData.canLay0]; exact h, Nat.le_refl _⟩
theorem Pd.tup {n : Nat} {xs : List D} (h : ∀ x ∈ xs, Pd n x) : Pd (n + 1) (.tup xs) := by
  have go : ∀ {xs : List D}, (∀ x ∈ xs, Pd n x) → PyData.canLayAll0 (toPs xs) = true ∧ PyData.depthAll (toPs xs) ≤ n := by
    intro xs
    induction xs with
    | nil => intro _; exact ⟨by rw [toPs, PyData.canLayAll0], by rw [toPs, PyData.depthAll]; omega⟩
    | cons x xs ih =>
      intro h
      obtain ⟨a, b⟩ := ih fun y m => h y (List.mem_cons_of_mem _ m)
      have p := h x (by simp)
      exact ⟨by rw [toPs, PyData.canLayAll0, p.lay, a]; rfl, by rw [toPs, PyData.depthAll]; exact Nat.max_le.mpr ⟨p.dep, b⟩⟩
  obtain ⟨a, b⟩ := go h
  refine ⟨nb_tup fun x m => (h x m).nb, by rw [toP, PyData.canLay0, a], ?_⟩
  rw [toP, PyData.depth]
  omega
theorem Pd.of {n : Nat} {d : D} (h : (ML.nb d && (toP d).canLay0 && decide ((toP d).depth ≤ n)) = true) : Pd n d := by
  rw [Bool.and_eq_true, Bool.and_eq_true, decide_eq_true_eq] at h
  exact ⟨h.1.1, h.1.2, h.2⟩
section
variable {h : Hm} {Q : D → Hm → Prop}
theorem we_P {a b : D} {n : Nat} (pa : Pd n a) (pb : Pd n b) (hn : n ≤ 64) (q : Q (.bl (decide (a = b))) h) : wp (eqD a b h) Q := wp_of (eq_nb pa.nb pb.nb (pa.ok hn) (pb.ok hn) h) q
theorem wn_P {a b : D} {n : Nat} (pa : Pd n a) (pb : Pd n b) (hn : n ≤ 64) (q : Q (.bl (!decide (a = b))) h) : wp (neD a b h) Q := wp_of (ne_nb pa.nb pb.nb (pa.ok hn) (pb.ok hn) h) q
theorem wi_P {a : D} {xs : List D} {n : Nat} {neg : Bool} {y : D} (pa : Pd n a) (pxs : ∀ x ∈ xs, Pd n x) (hn : n ≤ 64) (s : seqOf h y = some xs) (q : Q (.bl (if neg then !decide (a ∈ xs) else decide (a ∈ xs))) h) : wp (inD neg a y h) Q :=
  wp_of (in_nb pa.nb (pa.ok hn) (fun y m => ⟨(pxs y m).nb, (pxs y m).ok hn⟩) s) q
theorem wi_T {a : D} {xs : List D} {n : Nat} (pa : Pd n a) (pxs : ∀ x ∈ xs, Pd n x) (hn : n ≤ 64) (q : Q (.bl (decide (a ∈ xs))) h) : wp (inD false a (.tup xs) h) Q := wi_P pa pxs hn rfl q
theorem wni_T {a : D} {xs : List D} {n : Nat} (pa : Pd n a) (pxs : ∀ x ∈ xs, Pd n x) (hn : n ≤ 64) (q : Q (.bl (!decide (a ∈ xs))) h) : wp (inD true a (.tup xs) h) Q := wi_P pa pxs hn rfl q
theorem seq_lst {k : Nat} {xs : List D} (ek : h[k]? = some (.lst xs)) : seqOf h (.ref k) = some xs := by
  unfold seqOf
  dsimp only
  rw [ek]
theorem seq_new {k : Nat} {xs : List D} (hk : k = h.length) : seqOf (h ++ [.lst xs]) (.ref k) = some xs := by
  subst hk
  exact seq_lst (by simp)
theorem wi_N {a : D} {h0 : Hm} {xs : List D} {n : Nat} {Q : D → Hm → Prop} (pa : Pd n a) (pxs : ∀ x ∈ xs, Pd n x) (hn : n ≤ 64) (q : Q (.bl (decide (a ∈ xs))) (h0 ++ [.lst xs])) : wp (inD false a (.ref h0.length) (h0 ++ [.lst xs])) Q := wi_P pa pxs hn (seq_new rfl) q
theorem wni_N {a : D} {h0 : Hm} {xs : List D} {n : Nat} {Q : D → Hm → Prop} (pa : Pd n a) (pxs : ∀ x ∈ xs, Pd n x) (hn : n ≤ 64) (q : Q (.bl (!decide (a ∈ xs))) (h0 ++ [.lst xs])) : wp (inD true a (.ref h0.length) (h0 ++ [.lst xs])) Q := wi_P pa pxs hn (seq_new rfl) q
theorem wp_eqI {i j : Int} (q : Q (.bl (decide (i = j))) h) : wp (eqD (.int i) (.int j) h) Q := wp_of (eqD_of i j h) q
theorem wp_neI {i j : Int} (q : Q (.bl (!decide (i = j))) h) : wp (neD (.int i) (.int j) h) Q := wp_of (congrFun (neD_int i j) h) q
theorem wp_ltI {i j : Int} (q : Q (.bl (decide (i < j))) h) : wp (ltD (.int i) (.int j) h) Q := wp_of (lt_int i j h) q
theorem wp_cmpI {p : Int → Int → Bool} {i j : Int} (q : Q (.bl (p i j)) h) : wp (cmpD p (.int i) (.int j) h) Q := wp_of rfl q
theorem wp_addI {i j : Int} (q : Q (.int (i + j)) h) : wp (addD (.int i) (.int j) h) Q := wp_of rfl q
theorem wp_addT {x y : List D} (hl : x.length + y.length ≤ sizeLine) (q : Q (.tup (x ++ y)) h) : wp (addD (.tup x) (.tup y) h) Q := wp_of (a := .tup (x ++ y)) (h := h) (by show (if x.length + y.length ≤ sizeLine then (pure (.tup (x ++ y)) : M D) else M.bad) h = _; rw [if_pos hl]; rfl) q
theorem wp_subI {i j : Int} (q : Q (.int (i - j)) h) : wp (subD (.int i) (.int j) h) Q := wp_of rfl q
theorem wp_negI {i : Int} (q : Q (.int (-i)) h) : wp (negD (.int i) h) Q := wp_of rfl q
theorem wp_isN0 (q : Q (.bl true) h) : wp (isND' .non .non h) Q := wp_of rfl q
theorem wp_isNI {i : Int} (q : Q (.bl false) h) : wp (isND' (.int i) .non h) Q := wp_of rfl q
theorem wp_isNS {i : Str} (q : Q (.bl false) h) : wp (isND' (.str i) .non h) Q := wp_of rfl q
theorem wp_isNT {i : List D} (q : Q (.bl false) h) : wp (isND' (.tup i) .non h) Q := wp_of rfl q
theorem wp_isNR {i : Nat} (q : Q (.bl false) h) : wp (isND' (.ref i) .non h) Q := wp_of rfl q
theorem wp_ntN0 (q : Q (.bl false) h) : wp (notND' .non .non h) Q := wp_of rfl q
theorem wp_ntNI {i : Int} (q : Q (.bl true) h) : wp (notND' (.int i) .non h) Q := wp_of rfl q
theorem wp_ntNS {i : Str} (q : Q (.bl true) h) : wp (notND' (.str i) .non h) Q := wp_of rfl q
theorem wp_ntNT {i : List D} (q : Q (.bl true) h) : wp (notND' (.tup i) .non h) Q := wp_of rfl q
theorem wp_ntNR {i : Nat} (q : Q (.bl true) h) : wp (notND' (.ref i) .non h) Q := wp_of rfl q
theorem wp_lenT {xs : List D} (q : Q (.int xs.length) h) : wp (lenD [.tup xs] h) Q := wp_of len_tup q
theorem wp_ix0 {a : D} {xs : List D} (q : Q a h) : wp (ixD (.tup (a :: xs)) (.int 0) h) Q := wp_of (ix_tup (by decide) rfl) q
theorem wp_ix1 {a b : D} {xs : List D} (q : Q b h) : wp (ixD (.tup (a :: b :: xs)) (.int 1) h) Q := wp_of (ix_tup (by decide) rfl) q
theorem wp_ix2 {a b c : D} {xs : List D} (q : Q c h) : wp (ixD (.tup (a :: b :: c :: xs)) (.int 2) h) Q := wp_of (ix_tup (by decide) rfl) q
theorem wp_ix3 {a b c d : D} {xs : List D} (q : Q d h) : wp (ixD (.tup (a :: b :: c :: d :: xs)) (.int 3) h) Q := wp_of (ix_tup (by decide) rfl) q
theorem wp_ix4 {a b c d e : D} {xs : List D} (q : Q e h) : wp (ixD (.tup (a :: b :: c :: d :: e :: xs)) (.int 4) h) Q := wp_of (ix_tup (by decide) rfl) q
theorem wp_max {i j : Int} (q : Q (.int (if j > i then j else i)) h) : wp (max2D [.int i, .int j] h) Q := wp_of rfl q
theorem wp_min {i j : Int} (q : Q (.int (if j < i then j else i)) h) : wp (min2D [.int i, .int j] h) Q := wp_of rfl q
theorem wp_intD {i : Int} (q : Q (.int i) h) : wp (intD [.int i] h) Q := wp_of rfl q
theorem wp_intB {b : Bool} (q : Q (.int (if b then 1 else 0)) h) : wp (intD [.bl b] h) Q := wp_of rfl q
end
section
variable {h : Hm} {Q : Bool → Hm → Prop}
theorem wt_trN (q : Q false h) : wp (truD .non h) Q := ⟨_, _, rfl, q⟩
theorem wt_trB {b : Bool} (q : Q b h) : wp (truD (.bl b) h) Q := ⟨_, _, rfl, q⟩
theorem wt_trI {i : Int} (q : Q (i != 0) h) : wp (truD (.int i) h) Q := ⟨_, _, rfl, q⟩
theorem wt_trT {xs : List D} (q : Q (!xs.isEmpty) h) : wp (truD (.tup xs) h) Q := ⟨_, _, rfl, q⟩
theorem wt_trL {k : Nat} {xs : List D} (e : h[k]? = some (.lst xs)) (q : Q (!xs.isEmpty) h) : wp (truD (.ref k) h) Q := ⟨_, h, by unfold truD; dsimp only; rw [e], q⟩
end
theorem wp_isi {n : String} {m : Sm → M D} {σ : Sm} {h : Hm} {Q : D → Hm → Prop} (w : wp (m σ h) fun d h1 => wp (isiD n d h1) Q) : wp (isiM n m σ h) Q := wp_bind w
section
variable {h : Hm} {Q : D → Hm → Prop}
theorem is_ss {x : Str} (q : Q (.bl true) h) : wp (isiD "str" (.str x) h) Q := wp_of rfl q
theorem is_st {x : Str} (q : Q (.bl false) h) : wp (isiD "tuple" (.str x) h) Q := wp_of rfl q
theorem is_si {x : Str} (q : Q (.bl false) h) : wp (isiD "int" (.str x) h) Q := wp_of rfl q
theorem is_ts {x : List D} (q : Q (.bl false) h) : wp (isiD "str" (.tup x) h) Q := wp_of rfl q
theorem is_tt {x : List D} (q : Q (.bl true) h) : wp (isiD "tuple" (.tup x) h) Q := wp_of rfl q
theorem is_ti {x : List D} (q : Q (.bl false) h) : wp (isiD "int" (.tup x) h) Q := wp_of rfl q
theorem is_is {x : Int} (q : Q (.bl false) h) : wp (isiD "str" (.int x) h) Q := wp_of rfl q
theorem is_it {x : Int} (q : Q (.bl false) h) : wp (isiD "tuple" (.int x) h) Q := wp_of rfl q
theorem is_ii {x : Int} (q : Q (.bl true) h) : wp (isiD "int" (.int x) h) Q := wp_of rfl q
theorem is_ib {x : Int} (q : Q (.bl false) h) : wp (isiD "bool" (.int x) h) Q := wp_of rfl q
theorem is_bb {x : Bool} (q : Q (.bl true) h) : wp (isiD "bool" (.bl x) h) Q := wp_of rfl q
theorem is_bi {x : Bool} (q : Q (.bl true) h) : wp (isiD "int" (.bl x) h) Q := wp_of rfl q
theorem is_bs {x : Bool} (q : Q (.bl false) h) : wp (isiD "str" (.bl x) h) Q := wp_of rfl q
theorem is_bt {x : Bool} (q : Q (.bl false) h) : wp (isiD "tuple" (.bl x) h) Q := wp_of rfl q
theorem is_ns (q : Q (.bl false) h) : wp (isiD "str" .non h) Q := wp_of rfl q
theorem is_nt (q : Q (.bl false) h) : wp (isiD "tuple" .non h) Q := wp_of rfl q
theorem is_ni (q : Q (.bl false) h) : wp (isiD "int" .non h) Q := wp_of rfl q
theorem is_nb (q : Q (.bl false) h) : wp (isiD "bool" .non h) Q := wp_of rfl q
end
theorem br_T {b : Bool} {A B : Prop} (e : b = true) (a : A) : (b = true → A) ∧ (b = false → B) := ⟨fun _ => a, fun z => by rw [e] at z; cases z⟩
theorem br_F {b : Bool} {A B : Prop} (e : b = false) (a : B) : (b = true → A) ∧ (b = false → B) := ⟨fun z => (by rw [e] at z; cases z), fun _ => a⟩
theorem br_nt {A B : Prop} (b : B) : ((!true) = true → A) ∧ ((!true) = false → B) := ⟨fun z => (by cases z), fun _ => b⟩
theorem br_nf {A B : Prop} (a : A) : ((!false) = true → A) ∧ ((!false) = false → B) := ⟨fun _ => a, fun z => by cases z⟩
theorem ex_bl {P : Bool → Prop} {b : Bool} (p : P b) : ∃ c, D.bl b = .bl c ∧ P c := ⟨b, rfl, p⟩
theorem ex_int {P : Int → Prop} {b : Int} (p : P b) : ∃ c, D.int b = .int c ∧ P c := ⟨b, rfl, p⟩
theorem br_t {A B : Prop} (a : A) : (true = true → A) ∧ (true = false → B) := ⟨fun _ => a, fun z => by cases z⟩
theorem br_f {A B : Prop} (b : B) : (false = true → A) ∧ (false = false → B) := ⟨fun z => (by cases z), fun _ => b⟩
theorem br_d {p : Prop} [Decidable p] {A B : Prop} (a : p → A) (b : ¬ p → B) : (decide p = true → A) ∧ (decide p = false → B) := ⟨fun z => a (of_decide_eq_true z), fun z => b (of_decide_eq_false z)⟩
theorem br_nd {p : Prop} [Decidable p] {A B : Prop} (a : ¬ p → A) (b : p → B) : ((!decide p) = true → A) ∧ ((!decide p) = false → B) := ⟨fun z => a (of_decide_eq_false (by simpa using z)), fun z => b (of_decide_eq_true (by simpa using z))⟩
theorem w_inK {x k : Str} {kvs : List (Str × D)} {neg : Bool} {h : Hm} {Q : D → Hm → Prop} (q : Q (.bl (if neg then !(lookS kvs k).isSome else (lookS kvs k).isSome)) h) : wp (inK x kvs neg (.str k) (.glob x) h) Q := wp_of (a := .bl (if neg then !(lookS kvs k).isSome else (lookS kvs k).isSome)) (by show (if x = x then _ else _ : M D) h = _; rw [if_pos rfl]; rfl) q
theorem w_ixK {x k : Str} {kvs : List (Str × D)} {d : D} {h : Hm} {Q : D → Hm → Prop} (e : lookS kvs k = some d) (q : Q d h) : wp (ixK x kvs (.glob x) (.str k) h) Q := wp_of (a := d) (by show (if x = x then (match lookS kvs k with | some d => (pure d : M D) | none => M.bad) else M.bad) h = _; rw [if_pos rfl, e]; rfl) q
theorem wp_eqn {α : Type} {o : Option (α × Hm)} {d : α} {h : Hm} (w : wp o fun d' h1 => h1 = h ∧ d' = d) : o = some (d, h) := by
  obtain ⟨_, _, e, rfl, rfl⟩ := w
  exact e
theorem wl_allT {α : Type} (xs : List α) (emb : α → D) (p : α → Bool) {it : Sm → M (List D × Src)} {g : D → Sm → Option Sm} {el : Sm → M D} {vs : List Nat} {σ : Sm} {h : Hm} {Q : D → Hm → Prop}
    (w : wp (it σ h) fun q h1 => q.1 = xs.map emb ∧ Chk q.1 q.2 h1 ∧ xs.length ≤ sizeLine ∧ (∀ x ∈ xs, ∃ σ1, g (emb x) (wipeM σ vs) = some σ1 ∧ el σ1 h1 = some (.bl (p x), h1)) ∧ Q (.bl (xs.all p)) h1) : wp (lcM it g yesT el vs σ h) fun ds h1 => ∃ bs : List Bool, ds = bs.map .bl ∧ Q (.bl (bs.all id)) h1 :=
  wl_mapT xs emb (fun _ => true) (fun x => .bl (p x)) (wp_imp w fun q h1 ⟨a, b, c, d, e⟩ => ⟨a, b, c, fun x m => (d x m).elim fun σ1 z => ⟨σ1, z.1, rfl, fun _ => z.2⟩, xs.map p, by rw [filter_yes, List.map_map]; rfl, by rw [List.all_map]; exact e⟩)
theorem wl_anyT {α : Type} (xs : List α) (emb : α → D) (p : α → Bool) {it : Sm → M (List D × Src)} {g : D → Sm → Option Sm} {el : Sm → M D} {vs : List Nat} {σ : Sm} {h : Hm} {Q : D → Hm → Prop}
    (w : wp (it σ h) fun q h1 => q.1 = xs.map emb ∧ Chk q.1 q.2 h1 ∧ xs.length ≤ sizeLine ∧ (∀ x ∈ xs, ∃ σ1, g (emb x) (wipeM σ vs) = some σ1 ∧ el σ1 h1 = some (.bl (p x), h1)) ∧ Q (.bl (xs.any p)) h1) : wp (lcM it g yesT el vs σ h) fun ds h1 => ∃ bs : List Bool, ds = bs.map .bl ∧ Q (.bl (bs.any id)) h1 :=
  wl_mapT xs emb (fun _ => true) (fun x => .bl (p x)) (wp_imp w fun q h1 ⟨a, b, c, d, e⟩ => ⟨a, b, c, fun x m => (d x m).elim fun σ1 z => ⟨σ1, z.1, rfl, fun _ => z.2⟩, xs.map p, by rw [filter_yes, List.map_map]; rfl, by rw [List.any_map]; exact e⟩)
theorem wd_allT {α : Type} (xs : List α) (emb : α → D) (p : α → Bool) {it : Sm → M (List D × Src)} {g : D → Sm → Option Sm} {el : Sm → M D} {vs : List Nat} {σ : Sm} {h : Hm} {Q : D → Hm → Prop}
    (w : wp (it σ h) fun q h1 => q.1 = xs.map emb ∧ Chk q.1 q.2 h1 ∧ xs.length ≤ sizeLine ∧ (∀ x ∈ xs, ∃ σ1, g (emb x) (wipeM σ vs) = some σ1 ∧ el σ1 h1 = some (.bl (p x), h1)) ∧ Q (.bl (xs.all p)) h1) : wp (bcM allL (lcM it g yesT el vs) σ h) Q := wd_allL (wl_allT xs emb p w)
theorem wd_anyT {α : Type} (xs : List α) (emb : α → D) (p : α → Bool) {it : Sm → M (List D × Src)} {g : D → Sm → Option Sm} {el : Sm → M D} {vs : List Nat} {σ : Sm} {h : Hm} {Q : D → Hm → Prop}
    (w : wp (it σ h) fun q h1 => q.1 = xs.map emb ∧ Chk q.1 q.2 h1 ∧ xs.length ≤ sizeLine ∧ (∀ x ∈ xs, ∃ σ1, g (emb x) (wipeM σ vs) = some σ1 ∧ el σ1 h1 = some (.bl (p x), h1)) ∧ Q (.bl (xs.any p)) h1) : wp (bcM anyL (lcM it g yesT el vs) σ h) Q := wd_anyL (wl_anyT xs emb p w)
theorem wp_get2 {k : Nat} {kvs : List (D × D)} {key x : D} {h : Hm} {Q : D → Hm → Prop} (e : h[k]? = some (.dic kvs)) (hk : (kD key).isSome = true) (q : Q ((getK kvs key).getD x) h) : wp (get2D (.ref k) key x h) Q := wp_of (by unfold get2D; dsimp only; rw [e]; exact if_pos hk) q
theorem get_new {h : Hm} {o : O} : (h ++ [o])[h.length]? = some o := by simp
/-- what was there is as it was -/
structure Gr (h h1 : Hm) : Prop where
  len : h.length ≤ h1.length
  at_ : ∀ j, j < h.length → h1[j]? = h[j]?
theorem Gr.refl (h : Hm) : Gr h h := ⟨Nat.le_refl _, fun _ _ => rfl⟩
theorem Gr.tr {h h1 h2 : Hm} (a : Gr h h1) (b : Gr h1 h2) : Gr h h2 := ⟨Nat.le_trans a.len b.len, fun j hj => (b.at_ j (Nat.lt_of_lt_of_le hj a.len)).trans (a.at_ j hj)⟩
theorem Gr.app (h : Hm) (o : List O) : Gr h (h ++ o) := ⟨by simp, fun j hj => List.getElem?_append_left hj⟩
theorem Gr.setN {h h1 : Hm} (g : Gr h h1) {j : Nat} (hj : h.length ≤ j) (o : O) : Gr h (h1.set j o) := ⟨by rw [List.length_set]; exact g.len, fun i hi => by rw [List.getElem?_set_ne (by omega)]; exact g.at_ i hi⟩
theorem Gr.get {h h1 : Hm} (g : Gr h h1) {j : Nat} {o : O} (e : h[j]? = some o) : h1[j]? = some o := (g.at_ j (List.getElem?_eq_some_iff.mp e).1).trans e
theorem lt_of_get {h : Hm} {j : Nat} {o : O} (e : h[j]? = some o) : j < h.length := (List.getElem?_eq_some_iff.mp e).1
theorem Gr.fr {h h1 : Hm} (g : Gr h h1) (k : Nat) : Fr k h h1 := ⟨g.len, fun j hj _ => g.at_ j hj⟩
theorem Gr.of_fr {h h1 : Hm} (f : Fr h.length h h1) : Gr h h1 := ⟨f.1, fun j hj => f.2 j hj (by omega)⟩
theorem set_at {h : Hm} {j : Nat} {o o' : O} (e : h[j]? = some o) : (h.set j o')[j]? = some o' := List.getElem?_set_self (lt_of_get e)
theorem ws_mid {σ : Sm} {h : Hm} {N B C : Sm → Hm → Prop} {R : D → Hm → Prop} {s t : Sm → M Fl} (P : Sm → Hm → Prop) (w1 : wpS (s σ h) P R B C) (w2 : ∀ σ1 h1, P σ1 h1 → wpS (t σ1 h1) N R B C) : wpS (seqS s t σ h) N R B C :=
  ws_seq (wpS_imp w1 w2 (fun _ _ z => z) (fun _ _ z => z) (fun _ _ z => z))
theorem ixN_nat {n i : Nat} (hi : i < n) : ixN n (i : Int) = some i := by
  unfold ixN
  rw [if_pos (by omega), if_pos (by omega)]
  simp
theorem store_lst {k i : Nat} {xs : List D} {v : D} {h : Hm} (e : h[k]? = some (.lst xs)) (hi : i < xs.length) : storeD (.ref k) (.int (i : Int)) v h = some (h.set k (.lst (xs.set i v))) := by
  unfold storeD
  dsimp only
  rw [e]
  dsimp only
  rw [ixN_nat hi]
  rfl
theorem store_dic {k : Nat} {kvs : List (D × D)} {i v : D} {h : Hm} (e : h[k]? = some (.dic kvs)) (hk : (kD i).isSome = true) (hl : kvs.length < 16777216) : storeD (.ref k) i v h = some (h.set k (.dic (putKD kvs i v))) := by
  unfold storeD
  dsimp only
  rw [e]
  exact if_pos ⟨hk, hl⟩
theorem set_ne {h : Hm} {j k : Nat} {o o' : O} (e : h[j]? = some o) (ne : j ≠ k) : (h.set k o')[j]? = some o := by rw [List.getElem?_set_ne (Ne.symm ne)]; exact e
theorem wp_popA {mo : Sm → M D} {σ : Sm} {h : Hm} {Q : D → Hm → Prop} {j : Nat} {l : List D} {x : D} (e : mo σ h = some (.ref j, h)) (el : h[j]? = some (.lst (l ++ [x]))) (q : Q x (h.set j (.lst l))) : wp (metL popL mo nilA σ h) Q := wp_pop ⟨_, h, e, j, x, l, rfl, el, q⟩
/-- all, any of a new list: stops kqd_sub -/
def AllG (ms : Sm → M (List D)) (σ : Sm) (h : Hm) (Q : D → Hm → Prop) : Prop := wp (bcM allL ms σ h) Q
def AnyG (ms : Sm → M (List D)) (σ : Sm) (h : Hm) (Q : D → Hm → Prop) : Prop := wp (bcM anyL ms σ h) Q
theorem to_all {ms : Sm → M (List D)} {σ : Sm} {h : Hm} {Q : D → Hm → Prop} (w : AllG ms σ h Q) : wp (bcM allL ms σ h) Q := w
theorem to_any {ms : Sm → M (List D)} {σ : Sm} {h : Hm} {Q : D → Hm → Prop} (w : AnyG ms σ h Q) : wp (bcM anyL ms σ h) Q := w
/-- a comprehension whose turns keep something of the heap -/
theorem wl_mapI {α : Type} (xs : List α) (emb f : α → D) (I : Hm → Prop) {it : Sm → M (List D × Src)} {g : D → Sm → Option Sm} {el : Sm → M D} {vs : List Nat} {σ : Sm} {h : Hm} {Q : List D → Hm → Prop}
    (w : wp (it σ h) fun q h1 => q.1 = xs.map emb ∧ (∀ h2, I h2 → Chk q.1 q.2 h2) ∧ xs.length ≤ sizeLine ∧ I h1 ∧ (∀ x ∈ xs, ∀ h2, I h2 → ∃ σ1, g (emb x) (wipeM σ vs) = some σ1 ∧ wp (el σ1 h2) fun d h3 => d = f x ∧ I h3) ∧ ∀ h2, I h2 → Q (xs.map f) h2) : wp (lcM it g yesT el vs σ h) Q := by
  obtain ⟨q, h1, e1, ep, ck, hl, i1, step, fin⟩ := w
  refine wl_lc ⟨q, h1, e1, (fun l acc h2 => I h2 ∧ ∃ ys : List α, l = ys.map emb ∧ (∀ x ∈ ys, x ∈ xs) ∧ acc ++ ys.map f = xs.map f), ⟨i1, xs, ep, (fun _ m => m), rfl⟩, fun d r acc h2 ⟨i2, ys, el_, m, ea⟩ => ?_, fun acc h2 ⟨i2, ys, el_, _, ea⟩ => ?_⟩
  · cases ys with
    | nil => cases el_
    | cons y ys =>
    injection el_ with e5 e6
    subst e5 e6
    obtain ⟨σ1, e2, w2⟩ := step y (m y (by simp)) h2 i2
    refine ⟨ck h2 i2, σ1, e2, wt_yes ⟨(fun z => by cases z), fun _ => wp_imp w2 fun d h3 ⟨ed, i3⟩ => ⟨i3, ys, rfl, (fun x hx => m x (List.mem_cons_of_mem _ hx)), ?_⟩⟩⟩
    rw [ed, List.append_assoc]
    exact ea
  · have ey : ys = [] := List.map_eq_nil_iff.mp el_.symm
    subst ey
    rw [List.map_nil, List.append_nil] at ea
    subst ea
    exact ⟨ck h2 i2, by rw [List.length_map]; exact hl, fin h2 i2⟩
theorem wd_allI {α : Type} (xs : List α) (emb : α → D) (p : α → Bool) (I : Hm → Prop) {it : Sm → M (List D × Src)} {g : D → Sm → Option Sm} {el : Sm → M D} {vs : List Nat} {σ : Sm} {h : Hm} {Q : D → Hm → Prop}
    (w : wp (it σ h) fun q h1 => q.1 = xs.map emb ∧ (∀ h2, I h2 → Chk q.1 q.2 h2) ∧ xs.length ≤ sizeLine ∧ I h1 ∧ (∀ x ∈ xs, ∀ h2, I h2 → ∃ σ1, g (emb x) (wipeM σ vs) = some σ1 ∧ wp (el σ1 h2) fun d h3 => d = .bl (p x) ∧ I h3) ∧ ∀ h2, I h2 → Q (.bl (xs.all p)) h2) : wp (bcM allL (lcM it g yesT el vs) σ h) Q :=
  wd_allL (wl_mapI xs emb (fun x => .bl (p x)) I (wp_imp w fun q h1 ⟨a, b, c, d, e, f⟩ => ⟨a, b, c, d, e, fun h2 i2 => ⟨xs.map p, by rw [List.map_map]; rfl, by rw [List.all_map]; exact f h2 i2⟩⟩))
/-- lists without equal items -/
theorem nodup_le {α : Type} [DecidableEq α] : ∀ {l m : List α}, l.Nodup → (∀ x ∈ l, x ∈ m) → l.length ≤ m.length
  | [], _, _, _ => Nat.zero_le _
  | x :: l, m, nd, sub => by
    obtain ⟨n1, n2⟩ := List.nodup_cons.mp nd
    have hx : x ∈ m := sub x List.mem_cons_self
    have ih := nodup_le (l := l) (m := m.erase x) n2 fun y hy => (List.mem_erase_of_ne (fun e : y = x => n1 (e ▸ hy))).2 (sub y (List.mem_cons_of_mem _ hy))
    have e := List.length_erase_of_mem hx
    have hp : 0 < m.length := List.length_pos_of_mem hx
    rw [List.length_cons]
    omega
theorem nodup_eq {α : Type} [DecidableEq α] {l m : List α} (a : l.Nodup) (b : m.Nodup) (e : ∀ x, x ∈ l ↔ x ∈ m) : l.length = m.length := Nat.le_antisymm (nodup_le a fun x => (e x).mp) (nodup_le b fun x => (e x).mpr)
/-- each thing once, as _law_once keeps it -/
def onceL (acc : List D) : List D → List D
  | [] => acc
  | x :: l => onceL (if x ∈ acc then acc else acc ++ [x]) l
theorem onceL_mem : ∀ {l acc : List D} {x : D}, x ∈ onceL acc l ↔ x ∈ acc ∨ x ∈ l
  | [], acc, x => by simp [onceL]
  | y :: l, acc, x => by
    rw [onceL, onceL_mem]
    by_cases c : y ∈ acc
    · rw [if_pos c, List.mem_cons]
      constructor
      · rintro (h | h)
        · exact .inl h
        · exact .inr (.inr h)
      · rintro (h | h | h)
        · exact .inl h
        · exact .inl (h ▸ c)
        · exact .inr h
    · rw [if_neg c, List.mem_append, List.mem_singleton, List.mem_cons, or_assoc]
theorem onceL_nodup : ∀ {l acc : List D}, acc.Nodup → (onceL acc l).Nodup
  | [], acc, h => h
  | y :: l, acc, h => by
    rw [onceL]
    refine onceL_nodup ?_
    by_cases c : y ∈ acc
    · rw [if_pos c]; exact h
    · rw [if_neg c, List.nodup_append]
      exact ⟨h, by simp, fun a m b mb => by rw [List.mem_singleton.mp mb]; exact fun e => c (e ▸ m)⟩
theorem onceL_len : ∀ {l acc : List D}, (onceL acc l).length ≤ acc.length + l.length
  | [], acc => Nat.le_refl _
  | y :: l, acc => by
    rw [onceL]
    refine Nat.le_trans onceL_len ?_
    rw [List.length_cons]
    split
    · omega
    · rw [List.length_append, List.length_singleton]; omega
theorem len_str {x : Str} (hx : x.length ≤ 16777216) (h : Hm) : lenD [.str x] h = some (.int x.length, h) := by
  show (if x.length ≤ sizeLine then some (D.int x.length, h) else none) = _
  exact if_pos hx
theorem fits {n : Nat} {p : Prop} (h : n ≤ 16777216) (q : p) : n ≤ sizeLine ∧ p := ⟨h, q⟩
end ML

end
section
open PySem L2 ML
local macro_rules | `(tactic| kqd_sub) => `(tactic| (repeat (first | ((with_reducible apply wp_gv); rfl) | (with_reducible refine wp_met2T ?_) | (with_reducible refine wp_dcT ?_) | (with_reducible refine ws_lockSA ?_) | (with_reducible refine wp_popI ?_) | (with_reducible refine wl_lisT ?_) | (with_reducible refine wl_valT ?_) | (with_reducible refine wi_tkey ?_) | (with_reducible refine to_all ?_) | (with_reducible refine to_any ?_) | (with_reducible refine ws_seq ?_) | (with_reducible refine ws_set ?_) | (with_reducible refine ws_par ?_) | (with_reducible refine ws_expr ?_) | (with_reducible refine ws_ret ?_) | (with_reducible refine ws_if ?_) | (with_reducible refine ws_asg ?_) | (with_reducible refine ws_sub ?_) | (with_reducible refine ws_subT ?_) | (with_reducible refine ws_fldS ?_) | (with_reducible refine ws_skip ?_) | (with_reducible refine ws_brk ?_) | (with_reducible refine ws_ct ?_) | (with_reducible refine ws_retN ?_) | (with_reducible refine ws_lockS ?_) | (with_reducible refine wp_run ?_) | (with_reducible refine wp_cM ?_) | (with_reducible refine wp_fld ?_) | (with_reducible refine wp_op2 ?_) | (with_reducible refine wp_op1 ?_) | (with_reducible refine wp_call ?_) | (with_reducible refine wp_meth ?_) | (with_reducible refine wp_make ?_) | (with_reducible refine wp_new ?_) | (with_reducible refine wp_tup ?_) | (with_reducible refine wp_newK ?_) | (with_reducible refine wp_newT ?_) | (with_reducible refine wp_ifE ?_) | (with_reducible refine wp_notV ?_) | (with_reducible refine wp_andV ?_) | (with_reducible refine wp_orV ?_) | (with_reducible refine wp_met2D ?_) | (with_reducible refine wp_app ?_) | (with_reducible refine wp_ext ?_) | (with_reducible refine wx_exu ?_) | (with_reducible refine wp_pop ?_) | (with_reducible refine wp_slice ?_) | (with_reducible refine wo_no ?_) | (with_reducible refine wo_some ?_) | (with_reducible refine ch_of ?_) | (with_reducible refine wl_slice ?_) | (with_reducible refine wp_bc ?_) | (with_reducible refine wp_disp ?_) | (with_reducible refine wq_cons ?_) | (with_reducible refine wq_nil ?_) | (with_reducible refine wp_lockM ?_) | (with_reducible refine wt_tv ?_) | (with_reducible refine wt_and ?_) | (with_reducible refine wt_or ?_) | (with_reducible refine wt_not ?_) | (with_reducible refine wt_tr ?_) | (with_reducible refine wt_yes ?_) | (with_reducible refine wl_nil ?_) | (with_reducible refine wl_cons ?_) | (with_reducible refine wl_lst ?_) | (with_reducible refine wl_lis ?_) | (with_reducible refine wi_lst ?_) | (with_reducible refine wi_rng ?_) | (with_reducible refine wl_listT ?_) | (with_reducible refine wp_met1D ?_) | (with_reducible refine wl_lisR2 ?_) | (with_reducible refine wl_lisR1 ?_) | (with_reducible refine wp_eqI ?_) | (with_reducible refine wp_neI ?_) | (with_reducible refine wp_ltI ?_) | (with_reducible refine wp_cmpI ?_) | (with_reducible refine wp_addI ?_) | (with_reducible refine wp_subI ?_) | (with_reducible refine wp_negI ?_) | (with_reducible refine wp_isN0 ?_) | (with_reducible refine wp_isNI ?_) | (with_reducible refine wp_isNS ?_) | (with_reducible refine wp_isNT ?_) | (with_reducible refine wp_isNR ?_) | (with_reducible refine wp_ntN0 ?_) | (with_reducible refine wp_ntNI ?_) | (with_reducible refine wp_ntNS ?_) | (with_reducible refine wp_ntNT ?_) | (with_reducible refine wp_ntNR ?_) | (with_reducible refine wp_lenT ?_) | (with_reducible refine wp_ix0 ?_) | (with_reducible refine wp_ix1 ?_) | (with_reducible refine wp_ix2 ?_) | (with_reducible refine wp_ix3 ?_) | (with_reducible refine wp_ix4 ?_) | (with_reducible refine wp_max ?_) | (with_reducible refine wp_min ?_) | (with_reducible refine wp_intD ?_) | (with_reducible refine wp_intB ?_) | (with_reducible refine wt_trN ?_) | (with_reducible refine wt_trB ?_) | (with_reducible refine wt_trI ?_) | (with_reducible refine wt_trT ?_) | (with_reducible refine wp_isi ?_) | (with_reducible refine is_ss ?_) | (with_reducible refine is_st ?_) | (with_reducible refine is_si ?_) | (with_reducible refine is_ts ?_) | (with_reducible refine is_tt ?_) | (with_reducible refine is_ti ?_) | (with_reducible refine is_is ?_) | (with_reducible refine is_it ?_) | (with_reducible refine is_ii ?_) | (with_reducible refine is_ib ?_) | (with_reducible refine is_bb ?_) | (with_reducible refine is_bi ?_) | (with_reducible refine is_bs ?_) | (with_reducible refine is_bt ?_) | (with_reducible refine is_ns ?_) | (with_reducible refine is_nt ?_) | (with_reducible refine is_ni ?_) | (with_reducible refine is_nb ?_) | (with_reducible refine ex_bl ?_) | (with_reducible refine ex_int ?_) | (with_reducible refine br_t ?_) | (with_reducible refine br_f ?_) | (with_reducible refine br_nt ?_) | (with_reducible refine br_nf ?_) | (refine fits (by simp) ?_) | (refine br_T (by rfl) ?_) | (refine br_F (by rfl) ?_))))
set_option Elab.async false
set_option linter.all false
set_option maxRecDepth 100000
set_option autoImplicit false
/-! ### k12: names, forms of promises -/
namespace K12
open PySem L2 ML
def GoodS (x : Str) : Prop := PyData.strOk x = true ∧ x.length ≤ 16
def tre : Nat → D → Prop
  | _, .str x => GoodS x
  | n + 1, .tup xs => xs ≠ [] ∧ xs.length ≤ 3 ∧ ∀ x ∈ xs, tre n x
  | _, _ => False
theorem tre_pd : ∀ (n : Nat) (d : D), tre n d → Pd n d
  | n, .str x, h => by
    have h : GoodS x := by cases n <;> exact h
    exact (Pd.str h.1).mono (Nat.zero_le _)
  | n + 1, .tup xs, h => Pd.tup fun x m => tre_pd n x (h.2.2 x m)
  | 0, .tup _, h => h.elim
  | 0, .non, h => h.elim
  | _ + 1, .non, h => h.elim
  | 0, .bl _, h => h.elim
  | _ + 1, .bl _, h => h.elim
  | 0, .int _, h => h.elim
  | _ + 1, .int _, h => h.elim
  | 0, .ref _, h => h.elim
  | _ + 1, .ref _, h => h.elim
  | 0, .glob _, h => h.elim
  | _ + 1, .glob _, h => h.elim
  | 0, .fro _, h => h.elim
  | _ + 1, .fro _, h => h.elim
def abc : Str := "abcdefghijklmnopqrstuvwxyz"
def NON : List D := [.str "and", .str "or", .str "not", .str "same"]
def allAbc (x : Str) : Bool := x.cps.toList.all fun c => decide (c ∈ abc.cps.toList)
def nameB (x : Str) : Bool := (decide (1 ≤ (x.length : Int)) && decide ((x.length : Int) ≤ 8)) && allAbc x && !decide (D.str x ∈ NON)
def nameD : D → Bool
  | .str x => nameB x
  | _ => false
theorem NON_pd : ∀ x ∈ NON, Pd 0 x := fun x m => by
  simp only [NON, List.mem_cons, List.not_mem_nil, or_false] at m
  rcases m with e | e | e | e <;> subst e <;> exact Pd.of (by decide +kernel)
section
variable {h : Hm}
theorem letters_w {x : Str} {σ : Sm} {i : Nat} {Q : D → Hm → Prop} (hx : x.cps.size ≤ 16) {m : Sm → M D} (e : m σ h = some (.str x, h)) (hi : ∀ d : D, gv i ((wipeM σ [i]).set i (some d)) h = some (d, h)) (q : Q (.bl (allAbc x)) h) : wp (bcM allL (lcM (itS m) (nameG i) yesT (op2M (inS false) (gv i) (cM (.str abc))) [i]) σ h) Q := by
  refine wd_allL (wl_mapT x.cps.toList (fun c => D.str ⟨#[c]⟩) (fun _ => true) (fun c => .bl (decide (c ∈ abc.cps.toList))) ?_)
  refine ⟨(signsD x, []), h, by unfold itS; exact (bind_of e).trans rfl, rfl, Chk.nil, by show _ ≤ 2 ^ 24; rw [Array.length_toList]; omega, fun c _ => ⟨_, rfl, rfl, fun _ => ?_⟩, ?_⟩
  · exact (op2_of' (hi _) rfl).trans rfl
  · rw [filter_yes]
    refine ⟨x.cps.toList.map fun c => decide (c ∈ abc.cps.toList), by rw [List.map_map]; rfl, ?_⟩
    rw [List.all_map]
    exact q
theorem name_w (d : D) (n : Nat) (t : tre n d) : wp (F_is_name [d] h) fun r h1 => h1 = h ∧ r = .bl (nameD d) := by
  unfold F_is_name
  cases d with
  | str x =>
    have g : GoodS x := by cases n <;> exact t
    have px : Pd 0 (.str x) := Pd.str g.1
    kqd_sub
    refine wi_T (n := 0) px NON_pd (by decide) ?_
    kqd_sub
    refine br_d (fun c => ?_) (fun c => ?_)
    · kqd_sub
      refine ⟨rfl, ?_⟩
      show D.bl false = D.bl (nameB x)
      unfold nameB
      rw [decide_eq_true (show D.str x ∈ NON from c)]
      simp
    · kqd_sub
      refine wp_of (len_str (by have := g.2; omega) h) ?_
      have nm : nameB x = ((decide (1 ≤ (x.length : Int)) && decide ((x.length : Int) ≤ 8)) && allAbc x) := by
        unfold nameB
        rw [decide_eq_false (show ¬ D.str x ∈ NON from c)]
        simp
      kqd_sub
      refine br_d (fun c1 => ?_) (fun c1 => ?_)
      · kqd_sub
        refine br_d (fun c2 => ?_) (fun c2 => ?_)
        · refine letters_w g.2 rfl (fun _ => rfl) ⟨rfl, ?_⟩
          show D.bl (allAbc x) = D.bl (nameB x)
          rw [nm, decide_eq_true c1, decide_eq_true c2]
          simp
        · refine ⟨rfl, ?_⟩
          show D.bl false = D.bl (nameB x)
          rw [nm, decide_eq_false c2]
          simp
      · kqd_sub
        refine ⟨rfl, ?_⟩
        show D.bl false = D.bl (nameB x)
        rw [nm, decide_eq_false c1]
        simp
  | tup xs =>
    kqd_sub
    exact ⟨rfl, rfl⟩
  | _ => cases n <;> exact t.elim
theorem lname_w (x : Str) (g : GoodS x) : wp (F__law_is_name [.str x] h) fun r h1 => Fr h.length h h1 ∧ r = .bl (nameB x) := by
  have px : Pd 0 (.str x) := Pd.str g.1
  have fin : ∀ b : Bool, wpS (retS (andV (gv 1) (op2M (inD true) (gv 0) (newM (lstM (consA (cM (.str "and")) (consA (cM (.str "or")) (consA (cM (.str "not")) (consA (cM (.str "same")) nilA)))))))) [some (.str x), some (.bl b), none] h) (fun _ _ => False) (fun r h1 => Fr h.length h h1 ∧ r = .bl (b && !decide (D.str x ∈ NON))) (fun _ _ => False) (fun _ _ => False) := fun b => by
    kqd_sub
    cases b with
    | true =>
      kqd_sub
      refine wni_N (n := 0) px NON_pd (by decide) ⟨Fr.app _ _ _, rfl⟩
    | false =>
      kqd_sub
      exact ⟨Fr.refl _ _, rfl⟩
  unfold F__law_is_name
  kqd_sub
  refine wp_of (len_str (by have := g.2; omega) h) ?_
  kqd_sub
  refine br_d (fun c1 => ?_) (fun c1 => ?_)
  · kqd_sub
    refine br_d (fun c2 => ?_) (fun c2 => ?_)
    · refine letters_w g.2 rfl (fun _ => rfl) ?_
      refine wpS_imp (fin _) (fun _ _ z => z.elim) (fun r h1 q => ⟨q.1, q.2.trans ?_⟩) (fun _ _ z => z.elim) (fun _ _ z => z.elim)
      unfold nameB
      rw [decide_eq_true c1, decide_eq_true c2] <;> simp
    · kqd_sub
      refine ⟨Fr.refl _ _, ?_⟩
      unfold nameB
      rw [decide_eq_false c2] <;> simp
  · kqd_sub
    refine ⟨Fr.refl _ _, ?_⟩
    unfold nameB
    rw [decide_eq_false c1] <;> simp
/-! #### the form -/
def KIN : List D := [.str "call", .str "back", .str "say", .str "quiet"]
def arity (w : Str) : Option Int := if w = "yes" then some 0 else if w = "not" then some 1 else if w = "and" then some 2 else if w = "or" then some 2 else if w = "next" then some 1 else if w = "until" then some 2 else if w = "over" then some 1 else if w = "across" then some 2 else none
def atB (ps : List D) : Bool := match ps with
  | [k, x] => decide (k ∈ KIN) && (decide (x = .str "") || nameD x)
  | _ => false
theorem atB_eq (a b : D) : atB [a, b] = (decide (a ∈ KIN) && (decide (b = .str "") || nameD b)) := rfl
def formB : Nat → D → Bool
  | 0, _ => false
  | n + 1, .tup (.str w :: ps) => if w = "at" then atB ps else (decide (arity w = some (ps.length : Int)) && ps.all (formB n))
  | _ + 1, _ => false
theorem KIN_pd : ∀ x ∈ KIN, Pd 0 x := fun x m => by
  simp only [KIN, List.mem_cons, List.not_mem_nil, or_false] at m
  rcases m with e | e | e | e <;> subst e <;> exact Pd.of (by decide +kernel)
theorem look_PARTS (w : Str) : (lookS c_PARTS w) = (arity w).map D.int := by
  unfold lookS c_PARTS arity
  simp only [List.find?_cons, List.find?_nil]
  by_cases c1 : ("yes" : Str) = w
  · subst c1; rfl
  by_cases c2 : ("not" : Str) = w
  · subst c2; rfl
  by_cases c3 : ("and" : Str) = w
  · subst c3; rfl
  by_cases c4 : ("or" : Str) = w
  · subst c4; rfl
  by_cases c5 : ("next" : Str) = w
  · subst c5; rfl
  by_cases c6 : ("until" : Str) = w
  · subst c6; rfl
  by_cases c7 : ("over" : Str) = w
  · subst c7; rfl
  by_cases c8 : ("across" : Str) = w
  · subst c8; rfl
  rw [decide_eq_false c1, decide_eq_false c2, decide_eq_false c3, decide_eq_false c4, decide_eq_false c5, decide_eq_false c6, decide_eq_false c7, decide_eq_false c8, if_neg (Ne.symm c1), if_neg (Ne.symm c2), if_neg (Ne.symm c3), if_neg (Ne.symm c4), if_neg (Ne.symm c5), if_neg (Ne.symm c6), if_neg (Ne.symm c7), if_neg (Ne.symm c8)]
  rfl
theorem str_pd {n : Nat} {x : Str} (t : tre n (.str x)) : Pd 0 (.str x) ∧ GoodS x := by
  have g : GoodS x := by cases n <;> exact t
  exact ⟨Pd.str g.1, g⟩
theorem tre_cases {n : Nat} {d : D} (t : tre n d) : (∃ x, d = .str x ∧ GoodS x) ∨ ∃ m xs x, n = m + 1 ∧ d = .tup (x :: xs) ∧ xs.length ≤ 2 ∧ tre m x ∧ ∀ y ∈ xs, tre m y := by
  cases d with
  | str x => exact .inl ⟨x, rfl, (str_pd t).2⟩
  | tup xs =>
    cases n with
    | zero => exact t.elim
    | succ m =>
      cases xs with
      | nil => exact absurd rfl t.1
      | cons x xs => exact .inr ⟨m, xs, x, rfl, rfl, by have := t.2.1; simp at this; omega, t.2.2 x List.mem_cons_self, fun y hy => t.2.2 y (List.mem_cons_of_mem _ hy)⟩
  | _ => cases n <;> exact t.elim
theorem tre_tup {m : Nat} {x : D} {xs : List D} (hl : xs.length ≤ 2) (hx : tre m x) (h : ∀ y ∈ xs, tre m y) : tre (m + 1) (.tup (x :: xs)) := ⟨by simp, by simp; omega, fun y hy => by
  rcases List.mem_cons.mp hy with e | e
  · rw [e]; exact hx
  · exact h y e⟩
theorem all_bl {α : Type} {l : List α} {p : α → Bool} : (l.map fun x => D.bl (p x)) = (l.map p).map D.bl := by rw [List.map_map]; rfl
/-- the program's look at a form -/
theorem form_w : ∀ (n N k : Nat) (d : D), tre N d → N ≤ 60 → k ≤ n → ∀ h : Hm, wp (F_has_form (n + 1) [d, .int k] h) fun r h1 => h1 = h ∧ r = .bl (formB k d) := by
  intro n
  induction n with
  | zero =>
    intro N k d t hN hk h
    obtain rfl : k = 0 := by omega
    unfold F_has_form
    kqd_sub
    exact ⟨rfl, rfl⟩
  | succ n ih =>
    intro N k d t hN hk h
    cases k with
    | zero =>
      unfold F_has_form
      kqd_sub
      exact ⟨rfl, rfl⟩
    | succ k =>
      rcases tre_cases t with ⟨x, rfl, g⟩ | ⟨m, ps, x, rfl, rfl, hl, tx, tps⟩
      · unfold F_has_form
        kqd_sub
        exact ⟨rfl, rfl⟩
      · rcases tre_cases tx with ⟨w, rfl, g⟩ | ⟨m', ys, y, rfl, rfl, _⟩
        · have tw := Pd.str g.1
          unfold F_has_form
          kqd_sub
          refine we_P (n := 0) tw (Pd.of (by decide +kernel)) (by decide) ?_
          kqd_sub
          refine br_d (fun c => ?_) (fun c => ?_)
          · have ew : w = "at" := by injection c
            subst ew
            have ef : formB (k + 1) (.tup (.str "at" :: ps)) = atB ps := by unfold formB; exact if_pos rfl
            match ps, hl, tps, t, ef with
            | [], _, _, _, ef => (kqd_sub; try exact ⟨rfl, congrArg D.bl ef.symm⟩)
            | [a], _, _, _, ef => (kqd_sub; try exact ⟨rfl, congrArg D.bl ef.symm⟩)
            | a :: b :: c :: _, hl, _, _, _ => exact absurd hl (by simp)
            | [a, b], _, tps, _, ef =>
              have pa := (tre_pd m a (tps a (by simp))).mono (show m ≤ 60 by omega)
              have pb := (tre_pd m b (tps b (by simp))).mono (show m ≤ 60 by omega)
              kqd_sub
              refine wi_T (n := 60) pa (fun x mx => (KIN_pd x mx).mono (by omega)) (by decide) ?_
              kqd_sub
              refine br_d (fun c1 => ?_) (fun c1 => ?_)
              · kqd_sub
                refine we_P (n := 60) pb (Pd.of (by decide +kernel)) (by decide) ?_
                kqd_sub
                refine br_d (fun c2 => ?_) (fun c2 => ?_)
                · kqd_sub
                  refine ⟨rfl, ?_⟩
                  rw [ef, atB_eq, decide_eq_true (show a ∈ KIN from c1), decide_eq_true c2]
                  rfl
                · kqd_sub
                  refine ⟨rfl, wp_imp (name_w b m (tps b (by simp))) fun r h1 ⟨e1, e2⟩ => ⟨e1, e2.trans ?_⟩⟩
                  rw [ef, atB_eq, decide_eq_true (show a ∈ KIN from c1), decide_eq_false c2]
                  simp
              · refine ⟨rfl, ?_⟩
                rw [ef, atB_eq, decide_eq_false (show ¬ a ∈ KIN from c1)]
                rfl
          · have nw : w ≠ "at" := fun z => c (by rw [z])
            have ef : formB (k + 1) (.tup (.str w :: ps)) = (decide (arity w = some (ps.length : Int)) && ps.all (formB k)) := by unfold formB; exact if_neg nw
            kqd_sub
            refine w_inK ?_
            rw [look_PARTS]
            cases ar : arity w with
            | none =>
              kqd_sub
              exact ⟨rfl, by rw [ef, ar]; rfl⟩
            | some a =>
              kqd_sub
              refine w_ixK (d := .int a) (by rw [look_PARTS, ar]; rfl) ?_
              kqd_sub
              refine br_nd (fun c1 => ?_) (fun c1 => ?_)
              · kqd_sub
                refine ⟨rfl, ?_⟩
                rw [ef, ar, decide_eq_false]
                · rfl
                · intro z
                  injection z with z
                  exact c1 (by rw [z]; simp; omega)
              · kqd_sub
                refine wd_allT ps id (formB k) ?_
                kqd_sub
                refine wi_tup ?_
                kqd_sub
                refine wp_cut ⟨_, rfl, ?_⟩
                refine ⟨by rw [cut_dropI (by decide)]; simp, Chk.nil, by show _ ≤ 2 ^ 24; omega, fun d md => ⟨_, rfl, wp_eqn ?_⟩, ?_⟩
                · kqd_sub
                  refine ⟨rfl, ?_⟩
                  rw [show ((k + 1 : Nat) : Int) - 1 = (k : Int) by omega]
                  exact ih m k d (tps d md) (by omega) (by omega) h
                · refine ⟨rfl, ?_⟩
                  rw [ef, ar, decide_eq_true]
                  · simp
                  · congr 1
                    simp at c1
                    omega
        · unfold F_has_form
          kqd_sub
          exact ⟨rfl, rfl⟩
def SZ : List (D × D) := mergeD [(.str "yes", .int 0), (.str "not", .int 1), (.str "next", .int 1), (.str "over", .int 1), (.str "and", .int 2), (.str "or", .int 2), (.str "until", .int 2), (.str "across", .int 2)]
theorem SZ_eq : SZ = [(.str "yes", .int 0), (.str "not", .int 1), (.str "next", .int 1), (.str "over", .int 1), (.str "and", .int 2), (.str "or", .int 2), (.str "until", .int 2), (.str "across", .int 2)] := by decide +kernel
theorem get_SZ (w : Str) : getK SZ (.str w) = (arity w).map D.int := by
  rw [SZ_eq]
  simp only [getK_cons, D.str.injEq]
  unfold arity
  by_cases c1 : ("yes" : Str) = w
  · subst c1; rfl
  by_cases c2 : ("not" : Str) = w
  · subst c2; rfl
  by_cases c3 : ("next" : Str) = w
  · subst c3; rfl
  by_cases c4 : ("over" : Str) = w
  · subst c4; rfl
  by_cases c5 : ("and" : Str) = w
  · subst c5; rfl
  by_cases c6 : ("or" : Str) = w
  · subst c6; rfl
  by_cases c7 : ("until" : Str) = w
  · subst c7; rfl
  by_cases c8 : ("across" : Str) = w
  · subst c8; rfl
  rw [if_neg c1, if_neg c2, if_neg c3, if_neg c4, if_neg c5, if_neg c6, if_neg c7, if_neg c8, if_neg (Ne.symm c1), if_neg (Ne.symm c2), if_neg (Ne.symm c3), if_neg (Ne.symm c4), if_neg (Ne.symm c5), if_neg (Ne.symm c6), if_neg (Ne.symm c7), if_neg (Ne.symm c8)]
  rfl
theorem arity_lt {w : Str} {a : Int} (e : arity w = some a) : 0 ≤ a ∧ a ≤ 2 := by
  unfold arity at e
  repeat (split at e; · cases e; decide)
  cases e
/-- the law's look at a form -/
theorem good_w : ∀ (n N k : Nat) (d : D), tre N d → N ≤ 60 → k ≤ n → ∀ h : Hm, wp (F__law_good (n + 1) [d, .int k] h) fun r h1 => Fr h.length h h1 ∧ r = .bl (formB k d) := by
  intro n
  induction n with
  | zero =>
    intro N k d t hN hk h
    obtain rfl : k = 0 := by omega
    unfold F__law_good
    kqd_sub
    exact ⟨Fr.refl _ _, rfl⟩
  | succ n ih =>
    intro N k d t hN hk h
    cases k with
    | zero =>
      unfold F__law_good
      kqd_sub
      exact ⟨Fr.refl _ _, rfl⟩
    | succ k =>
      rcases tre_cases t with ⟨x, rfl, g⟩ | ⟨m, ps, x, rfl, rfl, hl, tx, tps⟩
      · unfold F__law_good
        kqd_sub
        exact ⟨Fr.refl _ _, rfl⟩
      · rcases tre_cases tx with ⟨w, rfl, g⟩ | ⟨m', ys, y, rfl, rfl, _⟩
        · have tw := Pd.str g.1
          unfold F__law_good
          kqd_sub
          refine we_P (n := 0) tw (Pd.of (by decide +kernel)) (by decide) ?_
          kqd_sub
          refine br_d (fun c => ?_) (fun c => ?_)
          · have ew : w = "at" := by injection c
            subst ew
            have ef : formB (k + 1) (.tup (.str "at" :: ps)) = atB ps := by unfold formB; exact if_pos rfl
            match ps, hl, tps, t, ef with
            | [], _, _, _, ef => (kqd_sub; try exact ⟨Fr.refl _ _, congrArg D.bl ef.symm⟩)
            | [a], _, _, _, ef => (kqd_sub; try exact ⟨Fr.refl _ _, congrArg D.bl ef.symm⟩)
            | a :: b :: c :: _, hl, _, _, _ => exact absurd hl (by simp)
            | [a, b], _, tps, _, ef =>
              have pa := (tre_pd m a (tps a (by simp))).mono (show m ≤ 60 by omega)
              have pb := (tre_pd m b (tps b (by simp))).mono (show m ≤ 60 by omega)
              kqd_sub
              refine wni_N (n := 60) pa (fun x mx => (KIN_pd x mx).mono (by omega)) (by decide) ?_
              kqd_sub
              refine br_nd (fun c1 => ?_) (fun c1 => ?_)
              · kqd_sub
                refine ⟨Fr.app _ _ _, ?_⟩
                rw [ef, atB_eq, decide_eq_false (show ¬ a ∈ KIN from c1)]
                rfl
              · rcases tre_cases (tps b (by simp)) with ⟨x, rfl, gx⟩ | ⟨m', ys, y, _, rfl, _⟩
                · kqd_sub
                  refine we_P (n := 60) pb (Pd.of (by decide +kernel)) (by decide) ?_
                  kqd_sub
                  refine br_d (fun c2 => ?_) (fun c2 => ?_)
                  · kqd_sub
                    refine ⟨Fr.app _ _ _, ?_⟩
                    rw [ef, atB_eq, decide_eq_true (show a ∈ KIN from c1), decide_eq_true c2]
                    rfl
                  · kqd_sub
                    refine ⟨rfl, wp_imp (lname_w x gx) fun r h1 ⟨e1, e2⟩ => ⟨?_, e2.trans ?_⟩⟩
                    · exact ⟨by have := e1.1; simp at this; omega, fun j hj _ => by
                        rw [e1.2 j (by simp; omega) (by simp; omega)]
                        exact List.getElem?_append_left hj⟩
                    · rw [ef, atB_eq, decide_eq_true (show a ∈ KIN from c1), decide_eq_false c2]
                      simp [nameD]
                · kqd_sub
                  refine ⟨Fr.app _ _ _, ?_⟩
                  rw [ef, atB_eq, decide_eq_true (show a ∈ KIN from c1)]
                  rfl
          · have nw : w ≠ "at" := fun z => c (by rw [z])
            have ef : formB (k + 1) (.tup (.str w :: ps)) = (decide (arity w = some (ps.length : Int)) && ps.all (formB k)) := by unfold formB; exact if_neg nw
            kqd_sub
            refine ⟨rfl, by decide, ?_⟩
            kqd_sub
            refine ⟨h.length, rfl, ⟨SZ, .inl get_new⟩, ?_⟩
            kqd_sub
            refine wp_get2 (kvs := SZ) get_new rfl ?_
            rw [get_SZ]
            have key : ∀ a : Int, (((arity w).map D.int).getD (.int (-1))) = .int a → (arity w = some (ps.length : Int) ↔ a = (ps.length : Int)) := fun a e => by
              cases ar : arity w with
              | none => rw [ar] at e; cases e; constructor <;> intro z <;> first | cases z | (exfalso; omega)
              | some b => rw [ar] at e; cases e; constructor <;> intro z <;> first | (injection z) | (rw [z])
            obtain ⟨a, ea⟩ : ∃ a, (((arity w).map D.int).getD (.int (-1))) = .int a := by cases ar : arity w <;> exact ⟨_, rfl⟩
            have key := key a ea
            rw [ea]
            kqd_sub
            refine br_nd (fun c1 => ?_) (fun c1 => ?_)
            · kqd_sub
              refine ⟨Fr.app _ _ _, ?_⟩
              rw [ef, decide_eq_false]
              · rfl
              · intro z
                have := key.mp z
                simp at c1
                omega
            · kqd_sub
              refine wd_allI ps id (formB k) (Fr h.length h) ?_
              kqd_sub
              refine wi_tup ?_
              kqd_sub
              refine wp_cut ⟨_, rfl, ?_⟩
              refine ⟨by rw [cut_dropI (by decide)]; simp, fun _ _ => Chk.nil, by show _ ≤ 2 ^ 24; omega, Fr.app _ _ _, fun d md h2 f2 => ⟨_, rfl, ?_⟩, fun h2 f2 => ⟨f2, ?_⟩⟩
              · kqd_sub
                refine ⟨rfl, ?_⟩
                rw [show ((k + 1 : Nat) : Int) - 1 = (k : Int) by omega]
                refine wp_imp (ih m k d (tps d md) (by omega) (by omega) h2) fun r h3 ⟨f3, e3⟩ => ⟨e3, ?_⟩
                exact ⟨Nat.le_trans f2.1 f3.1, fun j hj _ => (f3.2 j (by have := f2.1; omega) (by have := f2.1; omega)).trans (f2.2 j hj (by omega))⟩
              · rw [ef, decide_eq_true]
                · rfl
                · refine key.mpr ?_
                  simp at c1
                  omega
        · unfold F__law_good
          kqd_sub
          exact ⟨Fr.refl _ _, rfl⟩
end
end K12

end
section
open PySem L2 ML
local macro_rules | `(tactic| kqd_sub) => `(tactic| (repeat (first | ((with_reducible apply wp_gv); rfl) | (with_reducible refine wp_met2T ?_) | (with_reducible refine wp_dcT ?_) | (with_reducible refine ws_lockSA ?_) | (with_reducible refine wp_popI ?_) | (with_reducible refine wl_lisT ?_) | (with_reducible refine wl_valT ?_) | (with_reducible refine wi_tkey ?_) | (with_reducible refine to_all ?_) | (with_reducible refine to_any ?_) | (with_reducible refine ws_seq ?_) | (with_reducible refine ws_set ?_) | (with_reducible refine ws_par ?_) | (with_reducible refine ws_expr ?_) | (with_reducible refine ws_ret ?_) | (with_reducible refine ws_if ?_) | (with_reducible refine ws_asg ?_) | (with_reducible refine ws_sub ?_) | (with_reducible refine ws_subT ?_) | (with_reducible refine ws_fldS ?_) | (with_reducible refine ws_skip ?_) | (with_reducible refine ws_brk ?_) | (with_reducible refine ws_ct ?_) | (with_reducible refine ws_retN ?_) | (with_reducible refine ws_lockS ?_) | (with_reducible refine wp_run ?_) | (with_reducible refine wp_cM ?_) | (with_reducible refine wp_fld ?_) | (with_reducible refine wp_op2 ?_) | (with_reducible refine wp_op1 ?_) | (with_reducible refine wp_call ?_) | (with_reducible refine wp_meth ?_) | (with_reducible refine wp_make ?_) | (with_reducible refine wp_new ?_) | (with_reducible refine wp_tup ?_) | (with_reducible refine wp_newK ?_) | (with_reducible refine wp_newT ?_) | (with_reducible refine wp_ifE ?_) | (with_reducible refine wp_notV ?_) | (with_reducible refine wp_andV ?_) | (with_reducible refine wp_orV ?_) | (with_reducible refine wp_met2D ?_) | (with_reducible refine wp_app ?_) | (with_reducible refine wp_ext ?_) | (with_reducible refine wx_exu ?_) | (with_reducible refine wp_pop ?_) | (with_reducible refine wp_slice ?_) | (with_reducible refine wo_no ?_) | (with_reducible refine wo_some ?_) | (with_reducible refine ch_of ?_) | (with_reducible refine wl_slice ?_) | (with_reducible refine wp_bc ?_) | (with_reducible refine wp_disp ?_) | (with_reducible refine wq_cons ?_) | (with_reducible refine wq_nil ?_) | (with_reducible refine wp_lockM ?_) | (with_reducible refine wt_tv ?_) | (with_reducible refine wt_and ?_) | (with_reducible refine wt_or ?_) | (with_reducible refine wt_not ?_) | (with_reducible refine wt_tr ?_) | (with_reducible refine wt_yes ?_) | (with_reducible refine wl_nil ?_) | (with_reducible refine wl_cons ?_) | (with_reducible refine wl_lst ?_) | (with_reducible refine wl_lis ?_) | (with_reducible refine wi_lst ?_) | (with_reducible refine wi_rng ?_) | (with_reducible refine wl_listT ?_) | (with_reducible refine wp_met1D ?_) | (with_reducible refine wl_lisR2 ?_) | (with_reducible refine wl_lisR1 ?_) | (with_reducible refine wp_eqI ?_) | (with_reducible refine wp_neI ?_) | (with_reducible refine wp_ltI ?_) | (with_reducible refine wp_cmpI ?_) | (with_reducible refine wp_addI ?_) | (with_reducible refine wp_subI ?_) | (with_reducible refine wp_negI ?_) | (with_reducible refine wp_isN0 ?_) | (with_reducible refine wp_isNI ?_) | (with_reducible refine wp_isNS ?_) | (with_reducible refine wp_isNT ?_) | (with_reducible refine wp_isNR ?_) | (with_reducible refine wp_ntN0 ?_) | (with_reducible refine wp_ntNI ?_) | (with_reducible refine wp_ntNS ?_) | (with_reducible refine wp_ntNT ?_) | (with_reducible refine wp_ntNR ?_) | (with_reducible refine wp_lenT ?_) | (with_reducible refine wp_ix0 ?_) | (with_reducible refine wp_ix1 ?_) | (with_reducible refine wp_ix2 ?_) | (with_reducible refine wp_ix3 ?_) | (with_reducible refine wp_ix4 ?_) | (with_reducible refine wp_max ?_) | (with_reducible refine wp_min ?_) | (with_reducible refine wp_intD ?_) | (with_reducible refine wp_intB ?_) | (with_reducible refine wt_trN ?_) | (with_reducible refine wt_trB ?_) | (with_reducible refine wt_trI ?_) | (with_reducible refine wt_trT ?_) | (with_reducible refine wp_isi ?_) | (with_reducible refine is_ss ?_) | (with_reducible refine is_st ?_) | (with_reducible refine is_si ?_) | (with_reducible refine is_ts ?_) | (with_reducible refine is_tt ?_) | (with_reducible refine is_ti ?_) | (with_reducible refine is_is ?_) | (with_reducible refine is_it ?_) | (with_reducible refine is_ii ?_) | (with_reducible refine is_ib ?_) | (with_reducible refine is_bb ?_) | (with_reducible refine is_bi ?_) | (with_reducible refine is_bs ?_) | (with_reducible refine is_bt ?_) | (with_reducible refine is_ns ?_) | (with_reducible refine is_nt ?_) | (with_reducible refine is_ni ?_) | (with_reducible refine is_nb ?_) | (with_reducible refine ex_bl ?_) | (with_reducible refine ex_int ?_) | (with_reducible refine br_t ?_) | (with_reducible refine br_f ?_) | (with_reducible refine br_nt ?_) | (with_reducible refine br_nf ?_) | (refine fits (by simp) ?_) | (refine br_T (by rfl) ?_) | (refine br_F (by rfl) ?_))))
set_option Elab.async false
set_option linter.all false
set_option maxRecDepth 100000
set_option autoImplicit false
/-! ### k12: the parts that look ahead -/
namespace K12
open PySem L2 ML
def AHD : List D := [.str "next", .str "until", .str "over", .str "across"]
def startA (d : D) : List D := match d with
  | .tup (w :: _) => if w ∈ AHD then [d] else []
  | _ => []
theorem startA_eq (w : D) (ps : List D) : startA (.tup (w :: ps)) = if w ∈ AHD then [.tup (w :: ps)] else [] := rfl
def stepA (f : D → List D) (acc : List D) (q : D) : List D := acc ++ (f q).filter fun x => !decide (x ∈ acc)
def paL : Nat → D → List D
  | 0, _ => []
  | n + 1, .tup (w :: ps) => if w = .str "at" then startA (.tup (w :: ps)) else ps.foldl (stepA (paL n)) (startA (.tup (w :: ps)))
  | _ + 1, _ => []
def laL : Nat → D → List D
  | 0, _ => []
  | n + 1, .tup (w :: ps) => if w ∈ [D.str "at", D.str "yes"] then [] else onceL [] (startA (.tup (w :: ps)) ++ ps.flatMap (laL n))
  | _ + 1, _ => []
theorem AHD_pd : ∀ x ∈ AHD, Pd 0 x := fun x m => by
  simp only [AHD, List.mem_cons, List.not_mem_nil, or_false] at m
  rcases m with e | e | e | e <;> subst e <;> exact Pd.of (by decide +kernel)
theorem fold_mem {f : D → List D} {x : D} : ∀ {ps : List D} {acc : List D}, x ∈ ps.foldl (stepA f) acc ↔ x ∈ acc ∨ ∃ q ∈ ps, x ∈ f q
  | [], acc => by simp
  | q :: ps, acc => by
    rw [List.foldl_cons, fold_mem]
    unfold stepA
    rw [List.mem_append, List.mem_filter]
    constructor
    · rintro ((h | h) | ⟨q', m, h⟩)
      · exact .inl h
      · exact .inr ⟨q, by simp, h.1⟩
      · exact .inr ⟨q', List.mem_cons_of_mem _ m, h⟩
    · rintro (h | ⟨q', m, h⟩)
      · exact .inl (.inl h)
      · rcases List.mem_cons.mp m with e | e
        · subst e
          by_cases c : x ∈ acc
          · exact .inl (.inl c)
          · exact .inl (.inr ⟨h, by simp [c]⟩)
        · exact .inr ⟨q', e, h⟩
theorem fold_nodup {f : D → List D} (hf : ∀ q, (f q).Nodup) : ∀ {ps : List D} {acc : List D}, acc.Nodup → (ps.foldl (stepA f) acc).Nodup
  | [], acc, h => h
  | q :: ps, acc, h => by
    rw [List.foldl_cons]
    refine fold_nodup hf ?_
    unfold stepA
    rw [List.nodup_append]
    refine ⟨h, (hf q).filter _, fun a ma b mb e => ?_⟩
    have := (List.mem_filter.mp mb).2
    simp at this
    exact this (e ▸ ma)
theorem fold_len {f : D → List D} {n : Nat} : ∀ {ps : List D} {acc : List D}, (∀ q ∈ ps, (f q).length ≤ n) → (ps.foldl (stepA f) acc).length ≤ acc.length + ps.length * n
  | [], acc, _ => by simp
  | q :: ps, acc, hf => by
    rw [List.foldl_cons]
    refine Nat.le_trans (fold_len fun q' m => hf q' (List.mem_cons_of_mem _ m)) ?_
    unfold stepA
    rw [List.length_append, List.length_cons, Nat.succ_mul]
    have h1 := List.length_filter_le (fun x => !decide (x ∈ acc)) (f q)
    have h2 := hf q List.mem_cons_self
    omega
theorem startA_nodup (d : D) : (startA d).Nodup ∧ (startA d).length ≤ 1 := by
  unfold startA
  split
  · split <;> simp
  · simp
theorem paL_nodup : ∀ (n : Nat) (d : D), (paL n d).Nodup
  | 0, _ => by simp [paL]
  | n + 1, d => by
    unfold paL
    split
    · rename_i e; cases e
    · rename_i m w ps e
      cases e
      split
      · exact (startA_nodup _).1
      · exact fold_nodup (paL_nodup n) (startA_nodup _).1
    · simp
theorem laL_nodup : ∀ (n : Nat) (d : D), (laL n d).Nodup
  | 0, _ => by simp [laL]
  | n + 1, d => by
    unfold laL
    split
    · rename_i e; cases e
    · split
      · simp
      · exact onceL_nodup (by simp)
    · simp
theorem ahead_same : ∀ (n k : Nat) (d : D), formB k d = true → ∀ x, x ∈ paL n d ↔ x ∈ laL n d
  | 0, _, _, _, _ => by simp [paL, laL]
  | n + 1, 0, d, f, x => by cases f
  | n + 1, k + 1, d, f, x => by
    unfold formB at f
    split at f
    · rename_i e; cases e
    · rename_i k' w ps e
      cases e
      unfold paL laL
      by_cases c : w = "at"
      · subst c
        rw [if_pos rfl, if_pos (by simp)]
        have : startA (.tup (.str "at" :: ps)) = [] := by unfold startA; exact if_neg (by decide)
        rw [this]
      · rw [if_neg c, Bool.and_eq_true, decide_eq_true_eq, List.all_eq_true] at f
        rw [if_neg (by intro z; cases z; exact c rfl)]
        by_cases c2 : w = "yes"
        · subst c2
          have hp : ps = [] := by
            have := f.1
            have : some (0 : Int) = some (ps.length : Int) := this
            injection this with this
            exact List.eq_nil_of_length_eq_zero (by omega)
          subst hp
          rw [if_pos (by simp)]
          have : startA (.tup [.str "yes"]) = [] := by unfold startA; exact if_neg (by decide)
          rw [this]
          simp
        · rw [if_neg (by simp; exact ⟨c, c2⟩), fold_mem, onceL_mem, List.mem_append, List.mem_flatMap]
          have ih : ∀ q ∈ ps, (x ∈ paL n q ↔ x ∈ laL n q) := fun q m => ahead_same n k q (f.2 q m) x
          constructor
          · rintro (h | ⟨q, m, h⟩)
            · exact .inr (.inl h)
            · exact .inr (.inr ⟨q, m, (ih q m).mp h⟩)
          · rintro (h | h | ⟨q, m, h⟩)
            · cases h
            · exact .inl h
            · exact .inr ⟨q, m, (ih q m).mpr h⟩
    · cases f
theorem ahead_len {n k : Nat} {d : D} (f : formB k d = true) : (paL n d).length = (laL n d).length := nodup_eq (paL_nodup n d) (laL_nodup n d) (ahead_same n k d f)
theorem paL_len : ∀ (n N : Nat) (d : D), tre N d → (paL n d).length + 1 ≤ 3 ^ n ∧ (laL n d).length + 1 ≤ 3 ^ n
  | 0, _, _, _ => by simp [paL, laL]
  | n + 1, N, d, t => by
    have p3 : 1 ≤ 3 ^ n := Nat.one_le_pow _ _ (by decide)
    rw [Nat.pow_succ]
    rcases tre_cases t with ⟨x, rfl, g⟩ | ⟨m, ps, w, rfl, rfl, hl, tx, tps⟩
    · exact ⟨by show 0 + 1 ≤ _; omega, by show 0 + 1 ≤ _; omega⟩
    · have ih := fun q (m' : q ∈ ps) => paL_len n m q (tps q m')
      have s1 := (startA_nodup (.tup (w :: ps))).2
      have e2 : ps.length * (3 ^ n - 1) ≤ 2 * (3 ^ n - 1) := Nat.mul_le_mul_right _ hl
      constructor
      · unfold paL
        split
        · omega
        · have := fold_len (f := paL n) (n := 3 ^ n - 1) (ps := ps) (acc := startA (.tup (w :: ps))) fun q m' => by have := (ih q m').1; omega
          omega
      · unfold laL
        split
        · show 0 + 1 ≤ _; omega
        · have e1 : ∀ qs : List D, (∀ q ∈ qs, q ∈ ps) → (qs.flatMap (laL n)).length ≤ qs.length * (3 ^ n - 1) := by
            intro qs
            induction qs with
            | nil => intro _; simp
            | cons q qs ihq =>
              intro h
              rw [List.flatMap_cons, List.length_append, List.length_cons, Nat.succ_mul]
              have a := (ih q (h q List.mem_cons_self)).2
              have b := ihq fun q' m' => h q' (List.mem_cons_of_mem _ m')
              omega
          have e3 := e1 ps fun _ m' => m'
          have e4 := onceL_len (l := startA (.tup (w :: ps)) ++ ps.flatMap (laL n)) (acc := [])
          rw [List.length_append] at e4
          simp only [List.length_nil] at e4
          omega
theorem startA_sub {d x : D} (h : x ∈ startA d) : x = d := by
  unfold startA at h
  split at h
  · split at h
    · exact List.mem_singleton.mp h
    · cases h
  · cases h
theorem paL_sub : ∀ (n N : Nat) (d : D), tre N d → N ≤ 60 → ∀ x ∈ paL n d, Pd 60 x
  | 0, _, _, _, _, x, h => by cases h
  | n + 1, N, d, t, hN, x, h => by
    rcases tre_cases t with ⟨w, rfl, g⟩ | ⟨m, ps, w, rfl, rfl, hl, tx, tps⟩
    · cases h
    · unfold paL at h
      split at h
      · rw [startA_sub h]; exact (tre_pd _ _ t).mono hN
      · rcases fold_mem.mp h with h | ⟨q, mq, h⟩
        · rw [startA_sub h]; exact (tre_pd _ _ t).mono hN
        · exact paL_sub n m q (tps q mq) (by omega) x h
theorem laL_sub : ∀ (n N : Nat) (d : D), tre N d → N ≤ 60 → ∀ x ∈ laL n d, Pd 60 x
  | 0, _, _, _, _, x, h => by cases h
  | n + 1, N, d, t, hN, x, h => by
    rcases tre_cases t with ⟨w, rfl, g⟩ | ⟨m, ps, w, rfl, rfl, hl, tx, tps⟩
    · cases h
    · unfold laL at h
      split at h
      · cases h
      · rcases onceL_mem.mp h with h | h
        · cases h
        · rcases List.mem_append.mp h with h | h
          · rw [startA_sub h]; exact (tre_pd _ _ t).mono hN
          · obtain ⟨q, mq, h⟩ := List.mem_flatMap.mp h
            exact laL_sub n m q (tps q mq) (by omega) x h
theorem pow_small {n : Nat} (h : n ≤ 12) : 3 ^ n ≤ 531441 := Nat.le_trans (Nat.pow_le_pow_right (by decide) h) (by decide)
theorem formB_tup {k : Nat} {d : D} (f : formB k d = true) : ∃ k' w ps, k = k' + 1 ∧ d = .tup (.str w :: ps) ∧ (w ≠ "at" → ∀ q ∈ ps, formB k' q = true) := by
  cases k with
  | zero => cases f
  | succ k =>
    have f0 := f
    unfold formB at f
    split at f
    · rename_i e; cases e
    · rename_i k' w ps e
      cases e
      refine ⟨k, w, ps, rfl, rfl, fun c q m => ?_⟩
      rw [if_neg c, Bool.and_eq_true, List.all_eq_true] at f
      exact f.2 q m
    · cases f
/-- the program's parts ahead -/
theorem parts_w : ∀ (k n N : Nat) (d : D), tre N d → formB k d = true → N ≤ 60 → k ≤ n → n ≤ 12 → ∀ h : Hm, wp (F_parts_ahead n [d] h) fun r h1 => Gr h h1 ∧ ∃ j, r = .ref j ∧ h.length ≤ j ∧ h1[j]? = some (.lst (paL n d)) := by
  intro k
  induction k with
  | zero => intro n N d t f; cases f
  | succ k ih =>
    intro n N d t f hN hk hn h
    obtain ⟨k', w, ps, ek, rfl, fs⟩ := formB_tup f
    cases ek
    obtain ⟨n, rfl⟩ : ∃ n', n = n' + 1 := ⟨n - 1, by omega⟩
    rcases tre_cases t with ⟨x, e, g⟩ | ⟨m, ps', w', rfl, e, hl, tx, tps⟩
    · cases e
    cases e
    have pw : Pd 0 (.str w) := (str_pd tx).1
    have pd := (tre_pd _ _ t).mono hN
    have lp : ∀ q ∈ ps, (paL n q).length ≤ 531441 := fun q mq => by have := (paL_len n m q (tps q mq)).1; have := pow_small (show n ≤ 12 by omega); omega
    have pp : ∀ q ∈ ps, ∀ x ∈ paL n q, Pd 60 x := fun q mq => paL_sub n m q (tps q mq) (by omega)
    have ps0 : ∀ x ∈ startA (.tup (.str w :: ps)), Pd 60 x := fun x mx => by rw [startA_sub mx]; exact pd
    unfold F_parts_ahead
    refine wp_run (ws_mid (fun σ h1 => ∃ j, σ = [some (.tup (.str w :: ps)), some (.ref j), none, none] ∧ Gr h h1 ∧ h.length ≤ j ∧ h1[j]? = some (.lst (startA (.tup (.str w :: ps))))) ?_ fun σ h1 ⟨j, eσ, g1, hj, ej⟩ => ?_)
    · kqd_sub
      refine wi_T (n := 60) (pw.mono (by omega)) (fun x mx => (AHD_pd x mx).mono (by omega)) (by decide) ?_
      kqd_sub
      refine br_d (fun c => ?_) (fun c => ?_)
      · kqd_sub
        refine ⟨h.length, rfl, Gr.app _ _, Nat.le_refl _, ?_⟩
        rw [get_new]
        rw [startA_eq, if_pos (show D.str w ∈ AHD from c)]
      · kqd_sub
        refine ⟨h.length, rfl, Gr.app _ _, Nat.le_refl _, ?_⟩
        rw [get_new]
        rw [startA_eq, if_neg (show ¬ D.str w ∈ AHD from c)]
    · subst eσ
      kqd_sub
      refine wn_P (n := 0) pw (Pd.of (by decide +kernel)) (by decide) ?_
      kqd_sub
      refine br_nd (fun c => ?_) (fun c => ?_)
      · have nw : w ≠ "at" := fun z => c (by rw [z])
        refine ws_for (wi_tup ?_)
        kqd_sub
        refine wp_cut ⟨_, rfl, ?_⟩
        refine ⟨fun l σ hh => ∃ done a2 a3, ps = done ++ l ∧ σ = [some (.tup (.str w :: ps)), some (.ref j), a2, a3] ∧ Gr h hh ∧ hh[j]? = some (.lst (done.foldl (stepA (paL n)) (startA (.tup (.str w :: ps))))), ⟨[], none, none, by rw [cut_dropI (by decide)]; rfl, rfl, g1, ej⟩, fun q r σ hh ⟨done, a2, a3, ep, eσ, gh, eh⟩ => ⟨Chk.nil, ?_⟩, fun σ hh ⟨done, a2, a3, ep, eσ, gh, eh⟩ => ⟨Chk.nil, ?_⟩⟩
        · subst eσ
          have mq : q ∈ ps := by rw [ep]; simp
          refine ⟨_, rfl, ?_⟩
          kqd_sub
          refine ⟨j, _, rfl, eh, ?_⟩
          kqd_sub
          have pa : ∀ x ∈ done.foldl (stepA (paL n)) (startA (.tup (.str w :: ps))), Pd 60 x := fun x mx => by
            rcases fold_mem.mp mx with z | ⟨q', mq', z⟩
            · exact ps0 x z
            · exact pp q' (by rw [ep]; exact List.mem_append_left _ mq') x z
          refine wl_mapT (paL n q) id (fun x => !decide (x ∈ done.foldl (stepA (paL n)) (startA (.tup (.str w :: ps))))) id (wi_ref ?_)
          kqd_sub
          refine ⟨rfl, wp_imp (ih n m q (tps q mq) (fs nw q mq) (by omega) (by omega) (by omega) hh) fun rr h2 ⟨g2, j2, er, hj2, e2⟩ => ⟨j2, paL n q, er, e2, (List.map_id _).symm, Chk.one e2, by show _ ≤ 2 ^ 24; have := lp q mq; omega, fun x mx => ⟨_, rfl, wp_eqn ?_, fun _ => rfl⟩, ?_⟩⟩
          · kqd_sub
            refine wi_P (n := 60) (pp q mq x mx) pa (by decide) (seq_lst (g2.get eh)) ?_
            kqd_sub
            exact ⟨rfl, rfl⟩
          · kqd_sub
            have l1 : (done.foldl (stepA (paL n)) (startA (.tup (.str w :: ps)))).length ≤ 1 + 2 * 531441 := by
              have a := fold_len (f := paL n) (n := 531441) (ps := done) (acc := startA (.tup (.str w :: ps))) fun q' mq' => lp q' (by rw [ep]; exact List.mem_append_left _ mq')
              have b := (startA_nodup (.tup (.str w :: ps))).2
              have c : done.length * 531441 ≤ 2 * 531441 := Nat.mul_le_mul_right _ (by have := congrArg List.length ep; rw [List.length_append] at this; omega)
              omega
            have l2 := lp q mq
            have l3 := List.length_filter_le (fun x => !decide (x ∈ done.foldl (stepA (paL n)) (startA (.tup (.str w :: ps))))) (paL n q)
            have ej2 : (h2 ++ [O.lst (((paL n q).filter fun x => !decide (x ∈ done.foldl (stepA (paL n)) (startA (.tup (.str w :: ps))))).map id)])[j]? = some (.lst (done.foldl (stepA (paL n)) (startA (.tup (.str w :: ps))))) := (Gr.app h2 _).get (g2.get eh)
            refine ⟨_, _, .inr ⟨_, rfl, get_new⟩, ej2, by rw [List.length_map]; show _ ≤ 2 ^ 24; omega, done ++ [q], _, _, by rw [ep]; simp, rfl, ((gh.tr g2).tr (Gr.app h2 _)).setN hj _, ?_⟩
            rw [set_at ej2, List.foldl_append, List.map_id]
            rfl
        · subst eσ
          kqd_sub
          refine ⟨gh, j, rfl, hj, ?_⟩
          rw [eh, show done = ps by rw [ep]; simp]
          unfold paL
          rw [if_neg (by intro z; cases z; exact nw rfl)]
      · kqd_sub
        refine ⟨g1, j, rfl, hj, ?_⟩
        rw [ej]
        unfold paL
        rw [if_pos c]
end K12

end
section
open PySem L2 ML
local macro_rules | `(tactic| kqd_sub) => `(tactic| (repeat (first | ((with_reducible apply wp_gv); rfl) | (with_reducible refine wp_met2T ?_) | (with_reducible refine wp_dcT ?_) | (with_reducible refine ws_lockSA ?_) | (with_reducible refine wp_popI ?_) | (with_reducible refine wl_lisT ?_) | (with_reducible refine wl_valT ?_) | (with_reducible refine wi_tkey ?_) | (with_reducible refine to_all ?_) | (with_reducible refine to_any ?_) | (with_reducible refine ws_seq ?_) | (with_reducible refine ws_set ?_) | (with_reducible refine ws_par ?_) | (with_reducible refine ws_expr ?_) | (with_reducible refine ws_ret ?_) | (with_reducible refine ws_if ?_) | (with_reducible refine ws_asg ?_) | (with_reducible refine ws_sub ?_) | (with_reducible refine ws_subT ?_) | (with_reducible refine ws_fldS ?_) | (with_reducible refine ws_skip ?_) | (with_reducible refine ws_brk ?_) | (with_reducible refine ws_ct ?_) | (with_reducible refine ws_retN ?_) | (with_reducible refine ws_lockS ?_) | (with_reducible refine wp_run ?_) | (with_reducible refine wp_cM ?_) | (with_reducible refine wp_fld ?_) | (with_reducible refine wp_op2 ?_) | (with_reducible refine wp_op1 ?_) | (with_reducible refine wp_call ?_) | (with_reducible refine wp_meth ?_) | (with_reducible refine wp_make ?_) | (with_reducible refine wp_new ?_) | (with_reducible refine wp_tup ?_) | (with_reducible refine wp_newK ?_) | (with_reducible refine wp_newT ?_) | (with_reducible refine wp_ifE ?_) | (with_reducible refine wp_notV ?_) | (with_reducible refine wp_andV ?_) | (with_reducible refine wp_orV ?_) | (with_reducible refine wp_met2D ?_) | (with_reducible refine wp_app ?_) | (with_reducible refine wp_ext ?_) | (with_reducible refine wx_exu ?_) | (with_reducible refine wp_pop ?_) | (with_reducible refine wp_slice ?_) | (with_reducible refine wo_no ?_) | (with_reducible refine wo_some ?_) | (with_reducible refine ch_of ?_) | (with_reducible refine wl_slice ?_) | (with_reducible refine wp_bc ?_) | (with_reducible refine wp_disp ?_) | (with_reducible refine wq_cons ?_) | (with_reducible refine wq_nil ?_) | (with_reducible refine wp_lockM ?_) | (with_reducible refine wt_tv ?_) | (with_reducible refine wt_and ?_) | (with_reducible refine wt_or ?_) | (with_reducible refine wt_not ?_) | (with_reducible refine wt_tr ?_) | (with_reducible refine wt_yes ?_) | (with_reducible refine wl_nil ?_) | (with_reducible refine wl_cons ?_) | (with_reducible refine wl_lst ?_) | (with_reducible refine wl_lis ?_) | (with_reducible refine wi_lst ?_) | (with_reducible refine wi_rng ?_) | (with_reducible refine wl_listT ?_) | (with_reducible refine wp_met1D ?_) | (with_reducible refine wl_lisR2 ?_) | (with_reducible refine wl_lisR1 ?_) | (with_reducible refine wp_eqI ?_) | (with_reducible refine wp_neI ?_) | (with_reducible refine wp_ltI ?_) | (with_reducible refine wp_cmpI ?_) | (with_reducible refine wp_addI ?_) | (with_reducible refine wp_subI ?_) | (with_reducible refine wp_negI ?_) | (with_reducible refine wp_isN0 ?_) | (with_reducible refine wp_isNI ?_) | (with_reducible refine wp_isNS ?_) | (with_reducible refine wp_isNT ?_) | (with_reducible refine wp_isNR ?_) | (with_reducible refine wp_ntN0 ?_) | (with_reducible refine wp_ntNI ?_) | (with_reducible refine wp_ntNS ?_) | (with_reducible refine wp_ntNT ?_) | (with_reducible refine wp_ntNR ?_) | (with_reducible refine wp_lenT ?_) | (with_reducible refine wp_ix0 ?_) | (with_reducible refine wp_ix1 ?_) | (with_reducible refine wp_ix2 ?_) | (with_reducible refine wp_ix3 ?_) | (with_reducible refine wp_ix4 ?_) | (with_reducible refine wp_max ?_) | (with_reducible refine wp_min ?_) | (with_reducible refine wp_intD ?_) | (with_reducible refine wp_intB ?_) | (with_reducible refine wt_trN ?_) | (with_reducible refine wt_trB ?_) | (with_reducible refine wt_trI ?_) | (with_reducible refine wt_trT ?_) | (with_reducible refine wp_isi ?_) | (with_reducible refine is_ss ?_) | (with_reducible refine is_st ?_) | (with_reducible refine is_si ?_) | (with_reducible refine is_ts ?_) | (with_reducible refine is_tt ?_) | (with_reducible refine is_ti ?_) | (with_reducible refine is_is ?_) | (with_reducible refine is_it ?_) | (with_reducible refine is_ii ?_) | (with_reducible refine is_ib ?_) | (with_reducible refine is_bb ?_) | (with_reducible refine is_bi ?_) | (with_reducible refine is_bs ?_) | (with_reducible refine is_bt ?_) | (with_reducible refine is_ns ?_) | (with_reducible refine is_nt ?_) | (with_reducible refine is_ni ?_) | (with_reducible refine is_nb ?_) | (with_reducible refine ex_bl ?_) | (with_reducible refine ex_int ?_) | (with_reducible refine br_t ?_) | (with_reducible refine br_f ?_) | (with_reducible refine br_nt ?_) | (with_reducible refine br_nf ?_) | (refine fits (by simp) ?_) | (refine br_T (by rfl) ?_) | (refine br_F (by rfl) ?_))))
set_option Elab.async false
set_option linter.all false
set_option maxRecDepth 100000
set_option autoImplicit false
/-! ### what several laws share: each thing once -/
namespace ML
open PySem L2
noncomputable def onceF : List D → M D := runB 3 (seqS (setS 1 (newM (lstM nilA)))
    (seqS (forS (itV (gv 0)) (nameG 2) (ifS (tvM (op2M (inD true) (gv 2) (gv 1))) (exprS (metL appL (gv 1) (consA (gv 2) nilA))) skipS))
    (retS (gv 1))))
theorem once_w {k n : Nat} {xs : List D} {h : Hm} (ek : h[k]? = some (.lst xs)) (hp : ∀ x ∈ xs, Pd n x) (hn : n ≤ 64) (hl : xs.length < 16777216) : wp (onceF [.ref k] h) fun r h1 => Gr h h1 ∧ r = .ref h.length ∧ h1[h.length]? = some (.lst (onceL [] xs)) := by
  unfold onceF
  kqd_sub
  refine ws_for (wi_ref ?_)
  kqd_sub
  have ek1 : (h ++ [O.lst []])[k]? = some (.lst xs) := (Gr.app h _).get ek
  refine ⟨k, xs, rfl, ek1, fun l σ hh => ∃ acc a, (∀ x ∈ acc, Pd n x) ∧ (∀ x ∈ l, Pd n x) ∧ acc.length + l.length ≤ xs.length ∧ σ = [some (.ref k), some (.ref h.length), a] ∧ Gr h hh ∧ hh[h.length]? = some (.lst acc) ∧ onceL acc l = onceL [] xs, ⟨[], none, (fun _ z => by cases z), hp, by simp, rfl, Gr.app _ _, get_new, rfl⟩, fun x r σ hh ⟨acc, a, pa, pl, ln, eσ, g, ea, eo⟩ => ⟨Chk.one (g.get ek), ?_⟩, fun σ hh ⟨acc, a, pa, pl, ln, eσ, g, ea, eo⟩ => ⟨Chk.one (g.get ek), ?_⟩⟩
  · subst eσ
    refine ⟨_, rfl, ?_⟩
    kqd_sub
    refine wi_P (n := n) (pl x (by simp)) pa hn (seq_lst ea) ?_
    rw [onceL] at eo
    kqd_sub
    refine br_nd (fun c => ?_) (fun c => ?_)
    · kqd_sub
      refine ⟨h.length, acc, rfl, ea, ?_⟩
      kqd_sub
      rw [if_neg c] at eo
      refine ⟨acc, ea, by show _ < 2 ^ 24; simp at ln; omega, acc ++ [x], _, fun y my => ?_, fun y my => pl y (List.mem_cons_of_mem _ my), by simp at ln ⊢; omega, rfl, g.setN (Nat.le_refl _) _, set_at ea, eo⟩
      rcases List.mem_append.mp my with m | m
      · exact pa y m
      · rw [List.mem_singleton.mp m]; exact pl x (by simp)
    · kqd_sub
      rw [if_pos c] at eo
      exact ⟨acc, _, pa, fun y my => pl y (List.mem_cons_of_mem _ my), by simp at ln ⊢; omega, rfl, g, ea, eo⟩
  · subst eσ
    kqd_sub
    refine ⟨g, rfl, ?_⟩
    rw [ea, ← eo, onceL]
/-! #### loops over typed items -/
theorem ws_forT {α : Type} (xs : List α) (emb : α → D) (I : List α → Sm → Hm → Prop) {σ : Sm} {h : Hm} {N B C : Sm → Hm → Prop} {R : D → Hm → Prop} {it : Sm → M (List D × Src)} {g : D → Sm → Option Sm} {b : Sm → M Fl}
    (w : wp (it σ h) fun p h1 => p.1 = xs.map emb ∧ (∀ d σ h, I d σ h → Chk p.1 p.2 h) ∧ I [] σ h1)
    (step : ∀ done x r σ h, xs = done ++ x :: r → I done σ h → ∃ σ1, g (emb x) σ = some σ1 ∧ wpS (b σ1 h) (I (done ++ [x])) R N (I (done ++ [x])))
    (fin : ∀ σ h, I xs σ h → N σ h) : wpS (forS it g b σ h) N R B C := by
  obtain ⟨p, h1, e1, ep, ck, i0⟩ := w
  refine ws_for ⟨p, h1, e1, fun l σ h => ∃ done r, l = r.map emb ∧ xs = done ++ r ∧ I done σ h, ⟨[], xs, ep, rfl, i0⟩, fun d r σ h ⟨done, r', el, ex, i1⟩ => ?_, fun σ h ⟨done, r', el, ex, i1⟩ => ?_⟩
  · cases r' with
    | nil => cases el
    | cons x r' =>
      injection el with e2 e3
      subst e2 e3
      obtain ⟨σ1, eg, wb⟩ := step done x r' σ h ex i1
      have up : ∀ σ h, I (done ++ [x]) σ h → ∃ done' r2, r'.map emb = r2.map emb ∧ xs = done' ++ r2 ∧ I done' σ h := fun σ h i2 => ⟨done ++ [x], r', rfl, by rw [ex]; simp, i2⟩
      exact ⟨ck _ _ _ i1, σ1, eg, wpS_imp wb up (fun _ _ z => z) (fun _ _ z => z) up⟩
  · have er : r' = [] := List.map_eq_nil_iff.mp el.symm
    subst er
    rw [List.append_nil] at ex
    subst ex
    exact ⟨ck _ _ _ i1, fin σ h i1⟩
theorem wi_rng2 {σ : Sm} {h : Hm} {Q : List D × Src → Hm → Prop} {ms : Sm → M (List D)} (w : wp (ms σ h) fun ds h1 => ∃ a b : Nat, ds = [.int (a : Int), .int (b : Int)] ∧ b < 2 ^ 62 ∧ a < 2 ^ 62 ∧ Q ((List.range' a (b - a)).map fun (i : Nat) => D.int (i : Int), []) h1) : wp (itR2 ms σ h) Q := by
  obtain ⟨ds, h1, e, a, b, rfl, hb, ha, q⟩ := w
  refine ⟨_, h1, ?_, q⟩
  unfold itR2
  refine (bind_of e).trans ?_
  dsimp only
  unfold rngD
  rw [if_pos (by omega)]
  show some _ = some _
  rw [show ((b : Int) - (a : Int)).toNat = b - a by omega, List.range'_eq_map_range, List.map_map]
  rfl
theorem wi_rngN {σ : Sm} {h : Hm} {Q : List D × Src → Hm → Prop} {ms : Sm → M (List D)} (w : wp (ms σ h) fun ds h1 => ∃ b : Nat, ds = [.int (b : Int)] ∧ b < 2 ^ 62 ∧ Q ((List.range b).map fun (i : Nat) => D.int (i : Int), []) h1) : wp (itR1 ms σ h) Q :=
  wi_rng (wp_imp w fun ds h1 ⟨b, e, hb, q⟩ => ⟨b, e, by omega, by omega, q⟩)
/-- a while, by a measure -/
theorem ws_whT (I : Nat → Sm → Hm → Prop) (m0 : Nat) {σ : Sm} {h : Hm} {N B C : Sm → Hm → Prop} {R : D → Hm → Prop} {t : Sm → M Bool} {b : Sm → M Fl} (i0 : I m0 σ h)
    (step : ∀ n σ h, I n σ h → wp (t σ h) fun c h1 => (c = true → wpS (b σ h1) (fun σ2 h2 => ∃ m, m < n ∧ I m σ2 h2) R N (fun σ2 h2 => ∃ m, m < n ∧ I m σ2 h2)) ∧ (c = false → N σ h1)) : wpS (whS t b σ h) N R B C :=
  ws_wh I m0 i0 fun n σ h i => wp_imp (step n σ h i) fun c h1 q => ⟨q.2, q.1⟩
theorem wl_lisR2 {σ : Sm} {h : Hm} {Q : List D → Hm → Prop} {ma mb : Sm → M D} (w : wp (ma σ h) fun a h1 => wp (mb σ h1) fun b h2 => ∃ lo hi : Nat, a = .int (lo : Int) ∧ b = .int (hi : Int) ∧ lo ≤ 16777216 ∧ hi ≤ 16777216 ∧ Q ((List.range' lo (hi - lo)).map fun (i : Nat) => D.int (i : Int)) h2) : wp (lisR2 ma mb σ h) Q := by
  obtain ⟨a, h1, e1, b, h2, e2, lo, hi, rfl, rfl, l1, l2, q⟩ := w
  refine ⟨_, h2, ?_, q⟩
  unfold lisR2
  refine (bind_of e1).trans ((bind_of e2).trans ?_)
  dsimp only
  unfold rngL
  rw [if_pos (by omega)]
  show some _ = some _
  rw [show ((hi : Int) - (lo : Int)).toNat = hi - lo by omega, List.range'_eq_map_range, List.map_map]
  rfl
theorem wl_lisR1 {σ : Sm} {h : Hm} {Q : List D → Hm → Prop} {ma : Sm → M D} (w : wp (ma σ h) fun a h1 => ∃ hi : Nat, a = .int (hi : Int) ∧ hi ≤ 16777216 ∧ Q ((List.range hi).map fun (i : Nat) => D.int (i : Int)) h1) : wp (lisR1 ma σ h) Q := by
  obtain ⟨a, h1, e1, hi, rfl, l2, q⟩ := w
  refine ⟨_, h1, ?_, q⟩
  unfold lisR1
  refine (bind_of e1).trans ?_
  dsimp only
  unfold rngL
  rw [if_pos (by omega)]
  show some _ = some _
  rw [show ((hi : Int) - 0).toNat = hi by omega]
  simp
theorem wp_listC {k : Nat} {xs : List D} {h : Hm} {Q : List D → Hm → Prop} (e : h[k]? = some (.lst xs)) (q : Q xs h) : wp (listC (.ref k) h) Q := by
  refine ⟨xs, h, ?_, q⟩
  unfold listC
  dsimp only
  rw [e]
theorem enu_ref {k : Nat} {xs : List D} {m : Sm → M D} {σ : Sm} {h : Hm} (e : m σ h = some (.ref k, h)) (ek : h[k]? = some (.lst xs)) : itEv m σ h = some ((enumI xs, [(k, xs)]), h) := by
  unfold itEv
  refine (bind_of e).trans ?_
  show enuD (.ref k) h = _
  unfold enuD lvF
  dsimp only
  rw [ek]
/-! #### written texts compared -/
def pdB (d : D) : Bool := ML.nb d && (toP d).canLay0 && decide ((toP d).depth ≤ 8)
theorem pd_B {d : D} (h : pdB d = true) : Pd 8 d := Pd.of h
section
variable {h : Hm} {Q : D → Hm → Prop}
theorem we_lit {x y : D} (hx : pdB x = true) (hy : pdB y = true) (q : Q (.bl (decide (x = y))) h) : wp (eqD x y h) Q := we_P (pd_B hx) (pd_B hy) (by decide) q
theorem wn_lit {x y : D} (hx : pdB x = true) (hy : pdB y = true) (q : Q (.bl (!decide (x = y))) h) : wp (neD x y h) Q := wn_P (pd_B hx) (pd_B hy) (by decide) q
theorem wi_litT {a : D} {xs : List D} (ha : pdB a = true) (hx : xs.all pdB = true) (q : Q (.bl (decide (a ∈ xs))) h) : wp (inD false a (.tup xs) h) Q := wi_T (pd_B ha) (fun x m => pd_B (List.all_eq_true.mp hx x m)) (by decide) q
theorem wni_litT {a : D} {xs : List D} (ha : pdB a = true) (hx : xs.all pdB = true) (q : Q (.bl (!decide (a ∈ xs))) h) : wp (inD true a (.tup xs) h) Q := wni_T (pd_B ha) (fun x m => pd_B (List.all_eq_true.mp hx x m)) (by decide) q
theorem wi_litN {a : D} {h0 : Hm} {xs : List D} (ha : pdB a = true) (hx : xs.all pdB = true) (q : Q (.bl (decide (a ∈ xs))) (h0 ++ [.lst xs])) : wp (inD false a (.ref h0.length) (h0 ++ [.lst xs])) Q := wi_N (pd_B ha) (fun x m => pd_B (List.all_eq_true.mp hx x m)) (by decide) q
theorem wni_litN {a : D} {h0 : Hm} {xs : List D} (ha : pdB a = true) (hx : xs.all pdB = true) (q : Q (.bl (!decide (a ∈ xs))) (h0 ++ [.lst xs])) : wp (inD true a (.ref h0.length) (h0 ++ [.lst xs])) Q := wni_N (pd_B ha) (fun x m => pd_B (List.all_eq_true.mp hx x m)) (by decide) q
end
theorem wi_zip {ms : Sm → M (List D)} {σ : Sm} {h : Hm} {Q : List D × Src → Hm → Prop} (w : wp (ms σ h) fun ds h1 => ∃ i j xs ys, ds = [.ref i, .ref j] ∧ h1[i]? = some (.lst xs) ∧ h1[j]? = some (.lst ys) ∧ Q (zipI xs ys, [(i, xs), (j, ys)]) h1) : wp (itZ ms σ h) Q := by
  obtain ⟨ds, h1, e, i, j, xs, ys, rfl, ei, ej, q⟩ := w
  refine ⟨_, h1, ?_, q⟩
  unfold itZ
  refine (bind_of e).trans ?_
  have a : lvD (.ref i) h1 = some ((xs, [(i, xs)]), h1) := by unfold lvD lvF; dsimp only; rw [ei]; rfl
  have b : lvD (.ref j) h1 = some ((ys, [(j, ys)]), h1) := by unfold lvD lvF; dsimp only; rw [ej]; rfl
  show (lvD (.ref i) >>= fun p => lvD (.ref j) >>= fun q => pure (zipI p.1 q.1, p.2 ++ q.2)) h1 = _
  rw [bind_of a, bind_of b]
  rfl
theorem zip_range {n : Nat} {f g : Nat → D} : zipI ((List.range n).map f) ((List.range n).map g) = (List.range n).map fun i => D.tup [f i, g i] := by
  unfold zipI
  rw [List.zip_map', List.map_map]
  rfl
theorem Chk.two {items xs ys : List D} {i j : Nat} {h : Hm} (a : h[i]? = some (.lst xs)) (b : h[j]? = some (.lst ys)) : Chk items [(i, xs), (j, ys)] h := fun p m => by
  rcases List.mem_cons.mp m with e | e
  · rw [e]; exact a
  · rw [List.mem_singleton.mp e]; exact b
theorem wp_met1D {σ : Sm} {h : Hm} {Q : D → Hm → Prop} {g : D → D → D → M D} {mo mk : Sm → M D} (w : wp (mo σ h) fun o h1 => ∃ k, o = .ref k ∧ (∃ kvs, h1[k]? = some (.dic kvs) ∨ h1[k]? = some (.ldic kvs)) ∧ wp (mk σ h1) fun kd h2 => wp (g (.ref k) kd .non h2) Q) : wp (met1D g mo mk σ h) Q := by
  obtain ⟨o, h1, e1, k, rfl, ⟨kvs, ek⟩, w⟩ := w
  unfold met1D
  refine wp_bind (wp_bind ?_)
  refine ⟨_, h1, e1, ?_⟩
  refine ⟨.ref k, h1, ?_, wp_bind w⟩
  unfold isDc
  rcases ek with ek | ek <;> (dsimp only; rw [ek])
theorem wl_listT {xs : List D} {h : Hm} {Q : List D → Hm → Prop} (q : Q xs h) : wp (listC (.tup xs) h) Q := ⟨_, _, rfl, q⟩
theorem ws_unseq {σ : Sm} {h : Hm} {N B C : Sm → Hm → Prop} {R : D → Hm → Prop} {s t : Sm → M Fl} (w : wpS (seqS s t σ h) N R B C) : wpS (s σ h) (fun σ1 h1 => wpS (t σ1 h1) N R B C) R B C := by
  obtain ⟨f, h2, e, q⟩ := w
  obtain ⟨f1, h1, e1, e2⟩ := bind_some e
  cases f1 with
  | nx σ1 => exact ⟨_, h1, e1, f, h2, e2, q⟩
  | rt d =>
    obtain ⟨e3, e4⟩ := pure_some e2
    subst e3 e4
    exact ⟨_, _, e1, q⟩
  | bk σ1 =>
    obtain ⟨e3, e4⟩ := pure_some e2
    subst e3 e4
    exact ⟨_, _, e1, q⟩
  | ct σ1 =>
    obtain ⟨e3, e4⟩ := pure_some e2
    subst e3 e4
    exact ⟨_, _, e1, q⟩
/-- a loop over a range whose turns are only counted -/
theorem ws_forC (m : Nat) (I : Nat → Sm → Hm → Prop) {σ : Sm} {h : Hm} {N B C : Sm → Hm → Prop} {R : D → Hm → Prop} {it : Sm → M (List D × Src)} {g : D → Sm → Option Sm} {b : Sm → M Fl}
    (w : wp (it σ h) fun p h1 => p = ((List.range m).map fun (i : Nat) => D.int (i : Int), []) ∧ I 0 σ h1)
    (step : ∀ (i : Nat) σ h, i < m → I i σ h → ∃ σ1, g (.int (i : Int)) σ = some σ1 ∧ wpS (b σ1 h) (I (i + 1)) R N (I (i + 1)))
    (fin : ∀ σ h, I m σ h → N σ h) : wpS (forS it g b σ h) N R B C := by
  refine ws_forT (List.range m) (fun (i : Nat) => D.int (i : Int)) (fun d σ h => I d.length σ h) (wp_imp w fun p h1 ⟨e, i0⟩ => by subst e; exact ⟨rfl, fun _ _ _ _ => Chk.nil, i0⟩) (fun done x r σ h ed i1 => ?_) fun σ h q => fin σ h (by rw [List.length_range] at q; exact q)
  have hx : x = done.length ∧ done.length < m := by
    have h1 : (List.range m)[done.length]? = some x := by rw [ed, List.getElem?_append_right (Nat.le_refl _), Nat.sub_self]; rfl
    have h2 := (List.getElem?_eq_some_iff.mp h1).1
    rw [List.length_range] at h2
    rw [List.getElem?_range h2] at h1
    exact ⟨(Option.some.inj h1).symm, h2⟩
  obtain ⟨rfl, hl⟩ := hx
  have := step done.length σ h hl i1
  rw [List.length_append, List.length_singleton]
  exact this
/-- what is walked first, then the loop over it -/
theorem ws_for0 {σ : Sm} {h : Hm} {N B C : Sm → Hm → Prop} {R : D → Hm → Prop} {it : Sm → M (List D × Src)} {g : D → Sm → Option Sm} {b : Sm → M Fl} {Q : List D × Src → Hm → Prop} (w : wp (it σ h) Q) (k : ∀ p h1, Q p h1 → wpS (forS (fun _ h => some (p, h)) g b σ h1) N R B C) : wpS (forS it g b σ h) N R B C := by
  obtain ⟨p, h1, e1, q⟩ := w
  obtain ⟨f, h2, e2, q2⟩ := k p h1 q
  exact ⟨f, h2, (bind_of e1).trans ((bind_of (m := fun h => some (p, h)) (h := h1) rfl).symm.trans e2), q2⟩
theorem wl_it0 {σ : Sm} {h : Hm} {it : Sm → M (List D × Src)} {g : D → Sm → Option Sm} {tt : Sm → M Bool} {el : Sm → M D} {vs : List Nat} {Q : List D → Hm → Prop} {P : List D × Src → Hm → Prop} (w : wp (it σ h) P) (k : ∀ p h1, P p h1 → wp (lcM (fun _ h => some (p, h)) g tt el vs σ h1) Q) : wp (lcM it g tt el vs σ h) Q := by
  obtain ⟨p, h1, e1, q⟩ := w
  obtain ⟨f, h2, e2, q2⟩ := k p h1 q
  exact ⟨f, h2, (bind_of e1).trans ((bind_of (m := fun h => some (p, h)) (h := h1) rfl).symm.trans e2), q2⟩
end ML

end
section
open PySem L2 ML
local macro_rules | `(tactic| kqd_sub) => `(tactic| (repeat (first | ((with_reducible apply wp_gv); rfl) | (with_reducible refine wp_met2T ?_) | (with_reducible refine wp_dcT ?_) | (with_reducible refine ws_lockSA ?_) | (with_reducible refine wp_popI ?_) | (with_reducible refine wl_lisT ?_) | (with_reducible refine wl_valT ?_) | (with_reducible refine wi_tkey ?_) | (with_reducible refine to_all ?_) | (with_reducible refine to_any ?_) | (with_reducible refine ws_seq ?_) | (with_reducible refine ws_set ?_) | (with_reducible refine ws_par ?_) | (with_reducible refine ws_expr ?_) | (with_reducible refine ws_ret ?_) | (with_reducible refine ws_if ?_) | (with_reducible refine ws_asg ?_) | (with_reducible refine ws_sub ?_) | (with_reducible refine ws_subT ?_) | (with_reducible refine ws_fldS ?_) | (with_reducible refine ws_skip ?_) | (with_reducible refine ws_brk ?_) | (with_reducible refine ws_ct ?_) | (with_reducible refine ws_retN ?_) | (with_reducible refine ws_lockS ?_) | (with_reducible refine wp_run ?_) | (with_reducible refine wp_cM ?_) | (with_reducible refine wp_fld ?_) | (with_reducible refine wp_op2 ?_) | (with_reducible refine wp_op1 ?_) | (with_reducible refine wp_call ?_) | (with_reducible refine wp_meth ?_) | (with_reducible refine wp_make ?_) | (with_reducible refine wp_new ?_) | (with_reducible refine wp_tup ?_) | (with_reducible refine wp_newK ?_) | (with_reducible refine wp_newT ?_) | (with_reducible refine wp_ifE ?_) | (with_reducible refine wp_notV ?_) | (with_reducible refine wp_andV ?_) | (with_reducible refine wp_orV ?_) | (with_reducible refine wp_met2D ?_) | (with_reducible refine wp_app ?_) | (with_reducible refine wp_ext ?_) | (with_reducible refine wx_exu ?_) | (with_reducible refine wp_pop ?_) | (with_reducible refine wp_slice ?_) | (with_reducible refine wo_no ?_) | (with_reducible refine wo_some ?_) | (with_reducible refine ch_of ?_) | (with_reducible refine wl_slice ?_) | (with_reducible refine wp_bc ?_) | (with_reducible refine wp_disp ?_) | (with_reducible refine wq_cons ?_) | (with_reducible refine wq_nil ?_) | (with_reducible refine wp_lockM ?_) | (with_reducible refine wt_tv ?_) | (with_reducible refine wt_and ?_) | (with_reducible refine wt_or ?_) | (with_reducible refine wt_not ?_) | (with_reducible refine wt_tr ?_) | (with_reducible refine wt_yes ?_) | (with_reducible refine wl_nil ?_) | (with_reducible refine wl_cons ?_) | (with_reducible refine wl_lst ?_) | (with_reducible refine wl_lis ?_) | (with_reducible refine wi_lst ?_) | (with_reducible refine wi_rng ?_) | (with_reducible refine wl_listT ?_) | (with_reducible refine wp_met1D ?_) | (with_reducible refine wl_lisR2 ?_) | (with_reducible refine wl_lisR1 ?_) | (with_reducible refine wp_eqI ?_) | (with_reducible refine wp_neI ?_) | (with_reducible refine wp_ltI ?_) | (with_reducible refine wp_cmpI ?_) | (with_reducible refine wp_addI ?_) | (with_reducible refine wp_subI ?_) | (with_reducible refine wp_negI ?_) | (with_reducible refine wp_isN0 ?_) | (with_reducible refine wp_isNI ?_) | (with_reducible refine wp_isNS ?_) | (with_reducible refine wp_isNT ?_) | (with_reducible refine wp_isNR ?_) | (with_reducible refine wp_ntN0 ?_) | (with_reducible refine wp_ntNI ?_) | (with_reducible refine wp_ntNS ?_) | (with_reducible refine wp_ntNT ?_) | (with_reducible refine wp_ntNR ?_) | (with_reducible refine wp_lenT ?_) | (with_reducible refine wp_ix0 ?_) | (with_reducible refine wp_ix1 ?_) | (with_reducible refine wp_ix2 ?_) | (with_reducible refine wp_ix3 ?_) | (with_reducible refine wp_ix4 ?_) | (with_reducible refine wp_max ?_) | (with_reducible refine wp_min ?_) | (with_reducible refine wp_intD ?_) | (with_reducible refine wp_intB ?_) | (with_reducible refine wt_trN ?_) | (with_reducible refine wt_trB ?_) | (with_reducible refine wt_trI ?_) | (with_reducible refine wt_trT ?_) | (with_reducible refine wp_isi ?_) | (with_reducible refine is_ss ?_) | (with_reducible refine is_st ?_) | (with_reducible refine is_si ?_) | (with_reducible refine is_ts ?_) | (with_reducible refine is_tt ?_) | (with_reducible refine is_ti ?_) | (with_reducible refine is_is ?_) | (with_reducible refine is_it ?_) | (with_reducible refine is_ii ?_) | (with_reducible refine is_ib ?_) | (with_reducible refine is_bb ?_) | (with_reducible refine is_bi ?_) | (with_reducible refine is_bs ?_) | (with_reducible refine is_bt ?_) | (with_reducible refine is_ns ?_) | (with_reducible refine is_nt ?_) | (with_reducible refine is_ni ?_) | (with_reducible refine is_nb ?_) | (with_reducible refine ex_bl ?_) | (with_reducible refine ex_int ?_) | (with_reducible refine br_t ?_) | (with_reducible refine br_f ?_) | (with_reducible refine br_nt ?_) | (with_reducible refine br_nf ?_) | (refine fits (by simp) ?_) | (refine br_T (by rfl) ?_) | (refine br_F (by rfl) ?_))))
set_option Elab.async false
set_option linter.all false
set_option maxRecDepth 100000
set_option autoImplicit false
/-! ### k12: the law's parts ahead; is_promise -/
namespace K12
open PySem L2 ML
theorem lahead_w : ∀ (k n N : Nat) (d : D), tre N d → formB k d = true → N ≤ 60 → k ≤ n → n ≤ 12 → ∀ h : Hm, wp (F__law_ahead n [d] h) fun r h1 => Gr h h1 ∧ ∃ j, r = .ref j ∧ h.length ≤ j ∧ h1[j]? = some (.lst (laL n d)) := by
  intro k
  induction k with
  | zero => intro n N d t f; cases f
  | succ k ih =>
    intro n N d t f hN hk hn h
    obtain ⟨k', w, ps, ek, rfl, fs⟩ := formB_tup f
    cases ek
    obtain ⟨n, rfl⟩ : ∃ n', n = n' + 1 := ⟨n - 1, by omega⟩
    rcases tre_cases t with ⟨x, e, g⟩ | ⟨m, ps', w', rfl, e, hl, tx, tps⟩
    · cases e
    cases e
    have pw : Pd 0 (.str w) := (str_pd tx).1
    have pd := (tre_pd _ _ t).mono hN
    have lp : ∀ q ∈ ps, (laL n q).length ≤ 531441 := fun q mq => by have := (paL_len n m q (tps q mq)).2; have := pow_small (show n ≤ 12 by omega); omega
    have pp : ∀ q ∈ ps, ∀ x ∈ laL n q, Pd 60 x := fun q mq => laL_sub n m q (tps q mq) (by omega)
    have ps0 : ∀ x ∈ startA (.tup (.str w :: ps)), Pd 60 x := fun x mx => by rw [startA_sub mx]; exact pd
    have AY : ∀ x ∈ [D.str "at", D.str "yes"], Pd 0 x := fun x mx => by
      simp only [List.mem_cons, List.not_mem_nil, or_false] at mx
      rcases mx with e | e <;> subst e <;> exact Pd.of (by decide +kernel)
    have fl : ∀ qs : List D, (∀ q ∈ qs, q ∈ ps) → qs.length ≤ 2 → (qs.flatMap (laL n)).length ≤ 2 * 531441 := by
      have e1 : ∀ qs : List D, (∀ q ∈ qs, q ∈ ps) → (qs.flatMap (laL n)).length ≤ qs.length * 531441 := by
        intro qs
        induction qs with
        | nil => intro _; simp
        | cons q qs ihq =>
          intro h
          rw [List.flatMap_cons, List.length_append, List.length_cons, Nat.succ_mul]
          have a := lp q (h q List.mem_cons_self)
          have b := ihq fun q' m' => h q' (List.mem_cons_of_mem _ m')
          omega
      intro qs h l
      exact Nat.le_trans (e1 qs h) (Nat.mul_le_mul_right _ l)
    have s1 := (startA_nodup (.tup (.str w :: ps))).2
    have el : laL (n + 1) (.tup (.str w :: ps)) = if D.str w ∈ [D.str "at", D.str "yes"] then [] else onceL [] (startA (.tup (.str w :: ps)) ++ ps.flatMap (laL n)) := rfl
    unfold F__law_ahead
    kqd_sub
    refine wi_N (n := 0) pw AY (by decide) ?_
    kqd_sub
    refine br_d (fun c => ?_) (fun c => ?_)
    · kqd_sub
      refine ⟨(Gr.app h _).tr (Gr.app _ _), _, rfl, by simp, ?_⟩
      rw [get_new, el, if_pos c]
    · have nw : w ≠ "at" := fun z => c (by rw [z]; simp)
      refine ws_skip (ws_mid (fun σ h1 => ∃ j, σ = [some (.tup (.str w :: ps)), some (.ref j), none] ∧ Gr h h1 ∧ h.length ≤ j ∧ h1[j]? = some (.lst (startA (.tup (.str w :: ps))))) ?_ fun σ h1 ⟨j, eσ, g1, hj, ej⟩ => ?_)
      · kqd_sub
        refine wi_N (n := 0) pw AHD_pd (by decide) ?_
        kqd_sub
        refine br_d (fun c => ?_) (fun c => ?_)
        · kqd_sub
          refine ⟨_, rfl, ((Gr.app h _).tr (Gr.app _ _)).tr (Gr.app _ _), by simp <;> omega, ?_⟩
          rw [get_new]
          rw [startA_eq, if_pos (show D.str w ∈ AHD from c)]
        · kqd_sub
          refine ⟨_, rfl, ((Gr.app h _).tr (Gr.app _ _)).tr (Gr.app _ _), by simp <;> omega, ?_⟩
          rw [get_new]
          rw [startA_eq, if_neg (show ¬ D.str w ∈ AHD from c)]
      · subst eσ
        refine ws_mid (fun σ hh => ∃ a, σ = [some (.tup (.str w :: ps)), some (.ref j), a] ∧ Gr h hh ∧ hh[j]? = some (.lst (startA (.tup (.str w :: ps)) ++ ps.flatMap (laL n)))) ?_ fun σ h2 ⟨a, eσ, g2, e2⟩ => ?_
        · refine ws_for (wi_tup ?_)
          kqd_sub
          refine wp_cut ⟨_, rfl, ?_⟩
          refine ⟨fun l σ hh => ∃ done a2, ps = done ++ l ∧ σ = [some (.tup (.str w :: ps)), some (.ref j), a2] ∧ Gr h hh ∧ hh[j]? = some (.lst (startA (.tup (.str w :: ps)) ++ done.flatMap (laL n))), ⟨[], none, by rw [cut_dropI (by decide)]; rfl, rfl, g1, by rw [ej]; simp⟩, fun q r σ hh ⟨done, a2, ep, eσ, gh, eh⟩ => ⟨Chk.nil, ?_⟩, fun σ hh ⟨done, a2, ep, eσ, gh, eh⟩ => ⟨Chk.nil, ?_⟩⟩
          · subst eσ
            have mq : q ∈ ps := by rw [ep]; simp
            refine ⟨_, rfl, ?_⟩
            kqd_sub
            refine ⟨j, _, rfl, eh, ?_⟩
            kqd_sub
            refine ⟨rfl, wp_imp (ih n m q (tps q mq) (fs nw q mq) (by omega) (by omega) (by omega) hh) fun rr h2 ⟨g2, j2, er, hj2, e2⟩ => ?_⟩
            subst er
            have ej2 := g2.get eh
            have ld := fl done (fun q' m' => by rw [ep]; exact List.mem_append_left _ m') (by have := congrArg List.length ep; rw [List.length_append, List.length_cons] at this; omega)
            refine ⟨_, _, .inr ⟨_, rfl, e2⟩, ej2, by have := lp q mq; show _ ≤ 2 ^ 24; rw [List.length_append]; omega, done ++ [q], _, by rw [ep]; simp, rfl, (gh.tr g2).setN hj _, ?_⟩
            rw [set_at ej2, List.flatMap_append]
            simp
          · subst eσ
            refine ⟨a2, rfl, gh, ?_⟩
            rw [eh, show done = ps by rw [ep]; simp]
        · subst eσ
          kqd_sub
          have lf := fl ps (fun _ m => m) hl
          refine ⟨rfl, wp_imp (once_w (n := 60) e2 (fun x mx => ?_) (by decide) (by rw [List.length_append]; omega)) fun rr h3 ⟨g3, er, e3⟩ => ⟨g2.tr g3, _, er, g2.len, ?_⟩⟩
          · rcases List.mem_append.mp mx with z | z
            · exact ps0 x z
            · obtain ⟨q, mq, z⟩ := List.mem_flatMap.mp z
              exact pp q mq x z
          · rw [e3, el, if_neg c]
theorem promise_w {N : Nat} {d : D} (t : tre N d) (hN : N ≤ 60) (h : Hm) : wp (F_is_promise [d] h) fun r h1 => Gr h h1 ∧ r = .bl (formB 8 d && decide ((paL 10 d).length ≤ 6)) := by
  unfold F_is_promise
  kqd_sub
  refine ⟨rfl, wp_imp (form_w 8 N 8 d t hN (Nat.le_refl _) h) fun r h1 ⟨e1, er⟩ => ?_⟩
  subst e1 er
  refine ⟨_, rfl, fun c => ?_, fun c => ?_⟩
  · kqd_sub
    refine ⟨rfl, ?_⟩
    unfold F_looks_too_far
    kqd_sub
    refine ⟨rfl, wp_imp (parts_w 8 10 N d t c hN (by omega) (by omega) h1) fun rr h2 ⟨g2, j, er, _, e2⟩ => ?_⟩
    subst er
    kqd_sub
    refine wp_of (len_lst e2) ?_
    kqd_sub
    refine ⟨g2, ?_⟩
    rw [c]
    congr 1
    by_cases z : (paL 10 d).length ≤ 6
    · rw [decide_eq_true z]
      simp
      omega
    · rw [decide_eq_false z]
      simp
      omega
  · refine ⟨Gr.refl _, ?_⟩
    rw [c]
    rfl
end K12

end
set_option Elab.async false
set_option linter.all false
set_option maxRecDepth 100000
set_option autoImplicit false
/-! ### k12: runs, without the program -/
namespace K12
open PySem L2 ML
inductive Un (ah : Nat → Option Nat) (f g : Nat → Bool) : Nat → Prop
  | here {i : Nat} : g i = true → Un ah f g i
  | go {i j : Nat} : f i = true → ah i = some j → Un ah f g j → Un ah f g i
section
variable {ah : Nat → Option Nat} {f g : Nat → Bool}
theorem Un.cases_on' {i : Nat} (u : Un ah f g i) : g i = true ∨ (f i = true ∧ ∃ j, ah i = some j ∧ Un ah f g j) := by
  cases u with
  | here h => exact .inl h
  | go h e u => exact .inr ⟨h, _, e, u⟩
theorem no_un {L : List Nat} (hg : ∀ q ∈ L, g q = false) (hc : ∀ q ∈ L, ∀ j, ah q = some j → j ∈ L) : ∀ q, Un ah f g q → q ∉ L := by
  intro q u
  induction u with
  | here h => intro m; rw [hg _ m] at h; cases h
  | go h e u ih => intro m; exact ih (hc _ m _ e)
noncomputable def unB (ah : Nat → Option Nat) (f g : Nat → Bool) (i : Nat) : Bool := @decide (Un ah f g i) (Classical.propDecidable _)
theorem unB_true {i : Nat} : unB ah f g i = true ↔ Un ah f g i := by unfold unB; simp
theorem unB_false {i : Nat} : unB ah f g i = false ↔ ¬ Un ah f g i := by unfold unB; simp
end
abbrev Mark := Str × Str
abbrev mkD (m : Mark) : D := .tup [.str m.1, .str m.2]
section
variable (ms : List Mark) (b : Nat)
def kindAt (i : Nat) : Str := (ms.getD i ("", "")).1
def beh (i : Nat) : Nat := if i + 1 < ms.length then i + 1 else b
/-- calls that wait, and what has been matched -/
structure MS where
  wait : List Nat
  mt : Nat → Option Nat
def updM (m : Nat → Option Nat) (i j : Nat) : Nat → Option Nat := fun k => if k = i then some j else m k
def mstep (s : MS) (i : Nat) : MS :=
  if kindAt ms i = "call" then ⟨s.wait ++ [i], s.mt⟩
  else if kindAt ms i = "back" ∧ s.wait ≠ [] then ⟨s.wait.dropLast, updM s.mt (s.wait.getLastD 0) i⟩ else s
def mrange (s0 : Nat → Option Nat) (lo n : Nat) : Nat → Option Nat := ((List.range' lo n).foldl (mstep ms) ⟨[], s0⟩).mt
def mtAll : Nat → Option Nat := mrange ms (mrange ms (fun _ => none) 0 b) b (ms.length - b)
def plain (i : Nat) : Option Nat := if kindAt ms i = "call" ∨ kindAt ms (beh ms b i) = "back" then none else some (beh ms b i)
def acr (mt : Nat → Option Nat) (i : Nat) : Option Nat := match mt i with
  | some j => some j
  | none => plain ms b i
def ahd (w : Str) (i : Nat) : Option Nat := if w = "over" ∨ w = "across" then acr ms b (mtAll ms b) i else some (beh ms b i)
/-- the truths of a promise at each step -/
noncomputable def trB : Nat → D → Nat → Bool
  | 0, _, _ => false
  | n + 1, .tup (.str w :: ps), i =>
    if w = "yes" then true
    else if w = "at" then (match ps with
      | [.str k, .str x] => decide (kindAt ms i = k) && (decide (x = "") || decide (x = (ms.getD i ("", "")).2))
      | _ => false)
    else if w = "not" then !trB n (ps.getD 0 .non) i
    else if w = "and" then trB n (ps.getD 0 .non) i && trB n (ps.getD 1 .non) i
    else if w = "or" then trB n (ps.getD 0 .non) i || trB n (ps.getD 1 .non) i
    else if w = "next" ∨ w = "over" then (match ahd ms b w i with
      | some j => trB n (ps.getD 0 .non) j
      | none => false)
    else unB (ahd ms b w) (trB n (ps.getD 0 .non)) (trB n (ps.getD 1 .non)) i
  | _ + 1, _, _ => false
end
section
variable {ms : List Mark} {b : Nat}
/-- what waits are calls, what is matched are calls, all within the run -/
structure MOk (ms : List Mark) (n : Nat) (s : MS) : Prop where
  w : ∀ i ∈ s.wait, kindAt ms i = "call" ∧ i < n
  m : ∀ i j, s.mt i = some j → kindAt ms i = "call" ∧ i < n ∧ j < n
theorem getLastD_mem {l : List Nat} (h : l ≠ []) : l.getLastD 0 ∈ l := by
  rw [List.getLastD_eq_getLast?, List.getLast?_eq_getLast h]
  exact List.getLast_mem h
theorem MOk.step {n i : Nat} {s : MS} (o : MOk ms n s) (hi : i < n) : MOk ms n (mstep ms s i) := by
  unfold mstep
  split
  · rename_i c
    refine ⟨fun j m => ?_, o.m⟩
    rcases List.mem_append.mp m with m | m
    · exact o.w j m
    · rw [List.mem_singleton.mp m]; exact ⟨c, hi⟩
  · split
    · rename_i c
      refine ⟨fun j m => o.w j (List.dropLast_subset _ m), fun k j e => ?_⟩
      have e : (if k = s.wait.getLastD 0 then some i else s.mt k) = some j := e
      split at e
      · rename_i ek
        cases e
        have := o.w _ (getLastD_mem c.2)
        rw [ek]
        exact ⟨this.1, this.2, hi⟩
      · exact o.m k j e
    · exact o
theorem MOk.fold {n : Nat} : ∀ {l : List Nat} {s : MS}, MOk ms n s → (∀ i ∈ l, i < n) → MOk ms n (l.foldl (mstep ms) s)
  | [], s, o, _ => o
  | i :: l, s, o, h => MOk.fold (l := l) (s := mstep ms s i) (o.step (h i List.mem_cons_self)) fun j m => h j (List.mem_cons_of_mem _ m)
theorem mtAll_ok (hb : b ≤ ms.length) : ∀ i j, mtAll ms b i = some j → kindAt ms i = "call" ∧ i < ms.length ∧ j < ms.length := by
  have h0 : MOk ms ms.length ((List.range' 0 b).foldl (mstep ms) ⟨[], fun _ => none⟩) := MOk.fold ⟨(fun _ z => by cases z), (fun _ _ z => by cases z)⟩ fun i m => by
    have := List.mem_range'_1.mp m
    omega
  have h1 : MOk ms ms.length ((List.range' b (ms.length - b)).foldl (mstep ms) ⟨[], mrange ms (fun _ => none) 0 b⟩) := MOk.fold ⟨(fun _ z => by cases z), h0.m⟩ fun i m => by
    have := List.mem_range'_1.mp m
    omega
  exact h1.m
theorem beh_lt (hb : b < ms.length) (i : Nat) : beh ms b i < ms.length := by unfold beh; split <;> omega
theorem ahd_lt (hb : b < ms.length) {w : Str} {i j : Nat} (e : ahd ms b w i = some j) : j < ms.length := by
  unfold ahd at e
  split at e
  · unfold acr at e
    split at e
    · rename_i k q
      cases e
      exact (mtAll_ok (Nat.le_of_lt hb) _ _ q).2.2
    · unfold plain at e
      split at e
      · cases e
      · cases e; exact beh_lt hb i
  · cases e; exact beh_lt hb i
end
end K12

section
open PySem L2 ML
local macro_rules | `(tactic| kqd_sub) => `(tactic| (repeat (first | ((with_reducible apply wp_gv); rfl) | (with_reducible refine wp_met2T ?_) | (with_reducible refine wp_dcT ?_) | (with_reducible refine ws_lockSA ?_) | (with_reducible refine wp_popI ?_) | (with_reducible refine wl_lisT ?_) | (with_reducible refine wl_valT ?_) | (with_reducible refine wi_tkey ?_) | (with_reducible refine to_all ?_) | (with_reducible refine to_any ?_) | (with_reducible refine ws_seq ?_) | (with_reducible refine ws_set ?_) | (with_reducible refine ws_par ?_) | (with_reducible refine ws_expr ?_) | (with_reducible refine ws_ret ?_) | (with_reducible refine ws_if ?_) | (with_reducible refine ws_asg ?_) | (with_reducible refine ws_sub ?_) | (with_reducible refine ws_subT ?_) | (with_reducible refine ws_fldS ?_) | (with_reducible refine ws_skip ?_) | (with_reducible refine ws_brk ?_) | (with_reducible refine ws_ct ?_) | (with_reducible refine ws_retN ?_) | (with_reducible refine ws_lockS ?_) | (with_reducible refine wp_run ?_) | (with_reducible refine wp_cM ?_) | (with_reducible refine wp_fld ?_) | (with_reducible refine wp_op2 ?_) | (with_reducible refine wp_op1 ?_) | (with_reducible refine wp_call ?_) | (with_reducible refine wp_meth ?_) | (with_reducible refine wp_make ?_) | (with_reducible refine wp_new ?_) | (with_reducible refine wp_tup ?_) | (with_reducible refine wp_newK ?_) | (with_reducible refine wp_newT ?_) | (with_reducible refine wp_ifE ?_) | (with_reducible refine wp_notV ?_) | (with_reducible refine wp_andV ?_) | (with_reducible refine wp_orV ?_) | (with_reducible refine wp_met2D ?_) | (with_reducible refine wp_app ?_) | (with_reducible refine wp_ext ?_) | (with_reducible refine wx_exu ?_) | (with_reducible refine wp_pop ?_) | (with_reducible refine wp_slice ?_) | (with_reducible refine wo_no ?_) | (with_reducible refine wo_some ?_) | (with_reducible refine ch_of ?_) | (with_reducible refine wl_slice ?_) | (with_reducible refine wp_bc ?_) | (with_reducible refine wp_disp ?_) | (with_reducible refine wq_cons ?_) | (with_reducible refine wq_nil ?_) | (with_reducible refine wp_lockM ?_) | (with_reducible refine wt_tv ?_) | (with_reducible refine wt_and ?_) | (with_reducible refine wt_or ?_) | (with_reducible refine wt_not ?_) | (with_reducible refine wt_tr ?_) | (with_reducible refine wt_yes ?_) | (with_reducible refine wl_nil ?_) | (with_reducible refine wl_cons ?_) | (with_reducible refine wl_lst ?_) | (with_reducible refine wl_lis ?_) | (with_reducible refine wi_lst ?_) | (with_reducible refine wi_rng ?_) | (with_reducible refine wl_listT ?_) | (with_reducible refine wp_met1D ?_) | (with_reducible refine wl_lisR2 ?_) | (with_reducible refine wl_lisR1 ?_) | (with_reducible refine wp_eqI ?_) | (with_reducible refine wp_neI ?_) | (with_reducible refine wp_ltI ?_) | (with_reducible refine wp_cmpI ?_) | (with_reducible refine wp_addI ?_) | (with_reducible refine wp_subI ?_) | (with_reducible refine wp_negI ?_) | (with_reducible refine wp_isN0 ?_) | (with_reducible refine wp_isNI ?_) | (with_reducible refine wp_isNS ?_) | (with_reducible refine wp_isNT ?_) | (with_reducible refine wp_isNR ?_) | (with_reducible refine wp_ntN0 ?_) | (with_reducible refine wp_ntNI ?_) | (with_reducible refine wp_ntNS ?_) | (with_reducible refine wp_ntNT ?_) | (with_reducible refine wp_ntNR ?_) | (with_reducible refine wp_lenT ?_) | (with_reducible refine wp_ix0 ?_) | (with_reducible refine wp_ix1 ?_) | (with_reducible refine wp_ix2 ?_) | (with_reducible refine wp_ix3 ?_) | (with_reducible refine wp_ix4 ?_) | (with_reducible refine wp_max ?_) | (with_reducible refine wp_min ?_) | (with_reducible refine wp_intD ?_) | (with_reducible refine wp_intB ?_) | (with_reducible refine wt_trN ?_) | (with_reducible refine wt_trB ?_) | (with_reducible refine wt_trI ?_) | (with_reducible refine wt_trT ?_) | (with_reducible refine wp_isi ?_) | (with_reducible refine is_ss ?_) | (with_reducible refine is_st ?_) | (with_reducible refine is_si ?_) | (with_reducible refine is_ts ?_) | (with_reducible refine is_tt ?_) | (with_reducible refine is_ti ?_) | (with_reducible refine is_is ?_) | (with_reducible refine is_it ?_) | (with_reducible refine is_ii ?_) | (with_reducible refine is_ib ?_) | (with_reducible refine is_bb ?_) | (with_reducible refine is_bi ?_) | (with_reducible refine is_bs ?_) | (with_reducible refine is_bt ?_) | (with_reducible refine is_ns ?_) | (with_reducible refine is_nt ?_) | (with_reducible refine is_ni ?_) | (with_reducible refine is_nb ?_) | (with_reducible refine ex_bl ?_) | (with_reducible refine ex_int ?_) | (with_reducible refine br_t ?_) | (with_reducible refine br_f ?_) | (with_reducible refine br_nt ?_) | (with_reducible refine br_nf ?_) | (refine fits (by simp) ?_) | (refine br_T (by rfl) ?_) | (refine br_F (by rfl) ?_))))
set_option Elab.async false
set_option linter.all false
set_option maxRecDepth 100000
set_option autoImplicit false
/-! ### k12: the program's run, read -/
namespace K12
open PySem L2 ML
def oD : Option Nat → D
  | none => .non
  | some i => .int (i : Int)
def GoodM (m : Mark) : Prop := GoodS m.1 ∧ GoodS m.2
theorem mk_get {ms : List Mark} {i : Nat} (hi : i < ms.length) : (ms.map mkD)[i]? = some (mkD (ms.getD i ("", ""))) := by
  rw [List.getElem?_map, List.getElem?_eq_getElem hi, List.getD_eq_getElem?_getD, List.getElem?_eq_getElem hi]
  rfl
theorem getD_mem {ms : List Mark} {i : Nat} (hi : i < ms.length) : ms.getD i ("", "") ∈ ms := by
  rw [List.getD_eq_getElem?_getD, List.getElem?_eq_getElem hi]
  exact List.getElem_mem hi
section
variable {ms : List Mark} {b k kb ka : Nat} {h : Hm}
/-- fields so far, the list of what is behind -/
structure R0 (ms : List Mark) (b k kb : Nat) (fs : List (Str × D)) (h : Hm) : Prop where
  at_ : h[k]? = some (.ins "RoundRun" (("marks", .tup (ms.map mkD)) :: ("behind", .ref kb) :: fs))
  bh : h[kb]? = some (.lst ((List.range ms.length).map fun i => .int (beh ms b i : Int)))
theorem R0.gr {fs : List (Str × D)} {h1 : Hm} (r : R0 ms b k kb fs h) (g : Gr h h1) : R0 ms b k kb fs h1 := ⟨g.get r.at_, g.get r.bh⟩
theorem lst_get {n i : Nat} {f : Nat → D} (hi : i < n) : ((List.range n).map f)[((i : Nat) : Int).toNat]? = some (f i) := by
  rw [Int.toNat_natCast, List.getElem?_map, List.getElem?_range hi]
  rfl
theorem kind_w (gm : ∀ m ∈ ms, GoodM m) {i : Nat} (hi : i < ms.length) {w : Str} (hw : Pd 0 (.str w)) {Q : D → Hm → Prop} (q : Q (.bl (decide (kindAt ms i = w))) h) : wp (eqD (.str (ms.getD i ("", "")).1) (.str w) h) Q := by
  refine we_P (n := 0) (Pd.str (gm _ (getD_mem hi)).1.1) hw (by decide) ?_
  have : decide (D.str (ms.getD i ("", "")).1 = D.str w) = decide (kindAt ms i = w) := by
    unfold kindAt
    exact decide_eq_decide.mpr ⟨fun z => by injection z, fun z => by rw [z]⟩
  rw [this]
  exact q
theorem mark_at {i : Nat} (hi : i < ms.length) (h : Hm) : ixD (.tup (ms.map mkD)) (.int (i : Int)) h = some (mkD (ms.getD i ("", "")), h) := ix_tup (by omega) (by rw [Int.toNat_natCast]; exact mk_get hi)
theorem CALL_pd : Pd 0 (.str "call") := Pd.of (by decide +kernel)
theorem BACK_pd : Pd 0 (.str "back") := Pd.of (by decide +kernel)
theorem plain_w {fs : List (Str × D)} (r : R0 ms b k kb fs h) (gm : ∀ m ∈ ms, GoodM m) (hb : b < ms.length) {i : Nat} (hi : i < ms.length) : wp (F_RoundRun_plain_beyond [.ref k, .int (i : Int)] h) fun d h1 => h1 = h ∧ d = oD (plain ms b i) := by
  unfold F_RoundRun_plain_beyond
  kqd_sub
  refine ⟨k, _, .ref kb, rfl, r.at_, rfl, ?_⟩
  kqd_sub
  refine wp_of (ix_lst r.bh (by omega) (lst_get hi)) ?_
  kqd_sub
  refine ⟨k, _, .tup (ms.map mkD), rfl, r.at_, rfl, ?_⟩
  kqd_sub
  refine wp_of (mark_at hi h) ?_
  kqd_sub
  refine kind_w gm hi CALL_pd ?_
  kqd_sub
  refine br_d (fun c => ?_) (fun c => ?_)
  · kqd_sub
    refine ⟨rfl, ?_⟩
    unfold plain
    rw [if_pos (.inl c)]
    rfl
  · kqd_sub
    refine ⟨k, _, .tup (ms.map mkD), rfl, r.at_, rfl, ?_⟩
    kqd_sub
    refine wp_of (mark_at (beh_lt hb i) h) ?_
    kqd_sub
    refine kind_w gm (beh_lt hb i) BACK_pd ?_
    kqd_sub
    refine br_d (fun c2 => ?_) (fun c2 => ?_)
    · kqd_sub
      refine ⟨rfl, ?_⟩
      unfold plain
      rw [if_pos (.inr c2)]
      rfl
    · kqd_sub
      refine ⟨rfl, ?_⟩
      unfold plain
      rw [if_neg (by rintro (z | z); exact c z; exact c2 z)]
      rfl
/-- the whole object, when calls have been matched so far -/
structure Rn (ms : List Mark) (b k kb ka : Nat) (mt : Nat → Option Nat) (h : Hm) : Prop where
  r0 : R0 ms b k kb [("across_from", .ref ka)] h
  ac : h[ka]? = some (.lst ((List.range ms.length).map fun i => oD (acr ms b mt i)))
theorem set_range {n i : Nat} {f : Nat → D} {d : D} (hi : i < n) : ((List.range n).map f).set i d = (List.range n).map fun j => if j = i then d else f j := by
  refine List.ext_getElem? fun j => ?_
  by_cases hj : j < n
  · rw [List.getElem?_map, List.getElem?_range hj]
    by_cases e : i = j
    · subst e
      rw [List.getElem?_set_self (by simp; exact hi)]
      simp
    · rw [List.getElem?_set_ne e, List.getElem?_map, List.getElem?_range hj]
      simp [Ne.symm e]
  · rw [List.getElem?_eq_none (by simp; omega), List.getElem?_eq_none (by simp; omega)]
theorem wait_len {ms : List Mark} : ∀ {l : List Nat} {s : MS}, (l.foldl (mstep ms) s).wait.length ≤ s.wait.length + l.length
  | [], s => Nat.le_refl _
  | i :: l, s => by
    rw [List.foldl_cons]
    refine Nat.le_trans wait_len ?_
    rw [List.length_cons]
    unfold mstep
    split
    · rw [List.length_append, List.length_singleton]; omega
    · split
      · rw [List.length_dropLast]; omega
      · omega
theorem acr_upd {ms : List Mark} {b : Nat} {mt : Nat → Option Nat} {n t i : Nat} : ((List.range n).map fun j => if j = t then D.int (i : Int) else oD (acr ms b mt j)) = (List.range n).map fun j => oD (acr ms b (updM mt t i) j) := by
  refine List.map_congr_left fun j _ => ?_
  unfold acr updM
  by_cases e : j = t
  · rw [if_pos e, if_pos e]; rfl
  · rw [if_neg e, if_neg e]
theorem match_w {mt : Nat → Option Nat} {h0 : Hm} (r : Rn ms b k kb ka mt h) (gm : ∀ m ∈ ms, GoodM m) (hb : b < ms.length) (ok : ∀ i j, mt i = some j → kindAt ms i = "call" ∧ i < ms.length ∧ j < ms.length) (hn : ms.length ≤ 1000) (g0 : Gr h0 h) (lt : h0.length ≤ k ∧ h0.length ≤ kb ∧ h0.length ≤ ka) (ne : ka ≠ k ∧ ka ≠ kb) {lo hi : Nat} (hlo : lo ≤ ms.length) (hhi : hi ≤ ms.length) :
    wp (F_RoundRun_match_calls [.ref k, .int (lo : Int), .int (hi : Int)] h) fun d h1 => d = .non ∧ Gr h0 h1 ∧ Rn ms b k kb ka (mrange ms mt lo (hi - lo)) h1 := by
  unfold F_RoundRun_match_calls
  kqd_sub
  have l1 := lt_of_get r.r0.at_
  have l2 := lt_of_get r.r0.bh
  have l3 := lt_of_get r.ac
  refine ws_forT (List.range' lo (hi - lo)) (fun (i : Nat) => D.int (i : Int)) (fun done σ hh => ∃ a, σ = [some (.ref k), some (.int (lo : Int)), some (.int (hi : Int)), some (.ref h.length), a] ∧ Gr h0 hh ∧ h.length < hh.length ∧ Rn ms b k kb ka (done.foldl (mstep ms) ⟨[], mt⟩).mt hh ∧ hh[h.length]? = some (.lst ((done.foldl (mstep ms) ⟨[], mt⟩).wait.map fun i => .int (i : Nat)))) (wi_rng2 ?_) (fun done i r' σ hh ed ⟨a, eσ, gh, lh, rn, ew⟩ => ?_) fun σ hh ⟨a, eσ, gh, lh, rn, ew⟩ => ⟨rfl, gh, rn⟩
  · kqd_sub
    exact ⟨lo, hi, rfl, by omega, by omega, rfl, fun _ _ _ _ => Chk.nil, none, rfl, g0.tr (Gr.app _ _), by simp, ⟨r.r0.gr (Gr.app _ _), (Gr.app _ _).get r.ac⟩, get_new⟩
  · subst eσ
    have hi' : i < ms.length := by
      have : i ∈ List.range' lo (hi - lo) := by rw [ed]; simp
      have := List.mem_range'_1.mp this
      omega
    have mo : MOk ms ms.length (done.foldl (mstep ms) ⟨[], mt⟩) := MOk.fold ⟨(fun _ z => by cases z), ok⟩ fun j m => by
      have : j ∈ List.range' lo (hi - lo) := by rw [ed]; exact List.mem_append_left _ m
      have := List.mem_range'_1.mp this
      omega
    refine ⟨_, rfl, ?_⟩
    rw [List.foldl_append, List.foldl_cons, List.foldl_nil]
    have wl : (done.foldl (mstep ms) ⟨[], mt⟩).wait.length ≤ 1000 := by
      have a := wait_len (ms := ms) (l := done) (s := ⟨[], mt⟩)
      have b := congrArg List.length ed
      simp at a b
      omega
    generalize done.foldl (mstep ms) ⟨[], mt⟩ = s at rn ew mo wl
    have nk : h.length ≠ k := by omega
    have nkb : h.length ≠ kb := by omega
    have nka : h.length ≠ ka := by omega
    kqd_sub
    refine ⟨k, _, .tup (ms.map mkD), rfl, rn.r0.at_, rfl, ?_⟩
    kqd_sub
    refine wp_of (mark_at hi' hh) ?_
    kqd_sub
    refine kind_w gm hi' CALL_pd ?_
    kqd_sub
    refine br_d (fun c => ?_) (fun c => ?_)
    · kqd_sub
      refine ⟨h.length, _, rfl, ew, ?_⟩
      kqd_sub
      have em : mstep ms s i = ⟨s.wait ++ [i], s.mt⟩ := if_pos c
      rw [em]
      refine ⟨_, ew, by rw [List.length_map]; show _ < 2 ^ 24; omega, _, rfl, gh.setN (by have := g0.len; omega) _, by simp; exact lh, ⟨⟨set_ne rn.r0.at_ nk.symm, set_ne rn.r0.bh nkb.symm⟩, set_ne rn.ac nka.symm⟩, ?_⟩
      rw [set_at ew]
      simp
    · kqd_sub
      refine ⟨k, _, .tup (ms.map mkD), rfl, rn.r0.at_, rfl, ?_⟩
      kqd_sub
      refine wp_of (mark_at hi' hh) ?_
      kqd_sub
      refine kind_w gm hi' BACK_pd ?_
      kqd_sub
      refine br_d (fun c2 => ?_) (fun c2 => ?_)
      · kqd_sub
        refine wt_trL ew ?_
        by_cases c3 : s.wait = []
        · have em : mstep ms s i = s := by
            unfold mstep
            rw [if_neg c, if_neg (fun z => z.2 c3)]
          rw [em]
          refine br_F (by rw [c3]; rfl) ?_
          kqd_sub
          exact ⟨_, rfl, gh, lh, rn, ew⟩
        · have em : mstep ms s i = ⟨s.wait.dropLast, updM s.mt (s.wait.getLastD 0) i⟩ := by
            unfold mstep
            rw [if_neg c, if_pos ⟨c2, c3⟩]
          rw [em]
          have el : s.wait = s.wait.dropLast ++ [s.wait.getLastD 0] := by
            rw [List.getLastD_eq_getLast?, List.getLast?_eq_getLast c3]
            exact (List.dropLast_concat_getLast c3).symm
          have ew' : hh[h.length]? = some (.lst ((s.wait.dropLast.map fun i => .int (i : Nat)) ++ [.int ((s.wait.getLastD 0 : Nat) : Int)])) := by
            rw [ew]
            conv => lhs; rw [el]
            simp
          refine br_T (by rw [List.isEmpty_map]; simp [c3]) ?_
          kqd_sub
          refine ⟨k, _, .ref ka, rfl, rn.r0.at_, rfl, ?_⟩
          refine wp_popA (j := h.length) rfl ew' ?_
          have tl := (mo.w _ (getLastD_mem c3)).2
          refine ⟨_, store_lst (set_ne rn.ac nka.symm) (by rw [List.length_map, List.length_range]; exact tl), _, rfl, (gh.setN (by have := g0.len; omega) _).setN lt.2.2 _, by simp; exact lh, ⟨⟨set_ne (set_ne rn.r0.at_ nk.symm) ne.1.symm, set_ne (set_ne rn.r0.bh nkb.symm) ne.2.symm⟩, ?_⟩, set_ne (set_at ew) nka⟩
          rw [set_at (set_ne rn.ac nka.symm), set_range tl, acr_upd]
      · kqd_sub
        have em : mstep ms s i = s := by
          unfold mstep
          rw [if_neg c, if_neg (fun z => c2 z.1)]
        rw [em]
        exact ⟨_, rfl, gh, lh, rn, ew⟩
theorem acr_none {ms : List Mark} {b : Nat} : (fun i => oD (acr ms b (fun _ => none) i)) = fun i => oD (plain ms b i) := rfl
theorem beh_list {n b : Nat} {ms : List Mark} (hm : ms.length = n + 1) : ((List.range' 1 n).map fun (i : Nat) => D.int (i : Int)) ++ [.int (b : Int)] = (List.range (n + 1)).map fun i => D.int (beh ms b i : Int) := by
  rw [List.range_succ, List.map_append, List.range'_eq_map_range, List.map_map]
  congr 1
  · refine List.map_congr_left fun i m => ?_
    have := List.mem_range.mp m
    show D.int ((1 + i : Nat) : Int) = _
    unfold beh
    rw [if_pos (by omega), Nat.add_comm]
  · show [D.int (b : Int)] = [D.int (beh ms b n : Int)]
    unfold beh
    rw [if_neg (by omega)]
/-- the object made -/
theorem init_w {bm lm : List Mark} {h0 : Hm} (hk : h[k]? = some (.ins "RoundRun" [])) (hlt : h0.length ≤ k) (g0 : Gr h0 h) (gm : ∀ m ∈ bm ++ lm, GoodM m) (hn : bm.length + lm.length ≤ 1000) (h1 : 0 < lm.length) :
    wp (F_RoundRun___init__ [.ref k, .tup (bm.map mkD), .tup (lm.map mkD)] h) fun d h1 => d = .non ∧ Gr h0 h1 ∧ ∃ kb ka, ka ≠ k ∧ ka ≠ kb ∧ h0.length ≤ kb ∧ h0.length ≤ ka ∧ Rn (bm ++ lm) bm.length k kb ka (mtAll (bm ++ lm) bm.length) h1 := by
  have lk := lt_of_get hk
  have g0l := g0.len
  have hnl : (bm ++ lm).length = (bm.length + lm.length - 1) + 1 := by rw [List.length_append]; omega
  have hnl2 : (bm ++ lm).length = bm.length + lm.length := by rw [List.length_append]
  unfold F_RoundRun___init__
  refine wp_run (ws_mid (fun σ hh => σ = startM 4 [.ref k, .tup (bm.map mkD), .tup (lm.map mkD)] ∧ hh[k]? = some (.ins "RoundRun" [("marks", .tup ((bm ++ lm).map mkD))]) ∧ Gr h0 hh) ?_ fun σ hh ⟨eσ, hk1, g1⟩ => ?_)
  · kqd_sub
    refine wp_addT (by rw [List.length_map, List.length_map]; show _ ≤ 2 ^ 24; omega) ?_
    rw [← List.map_append]
    kqd_sub
    exact ⟨k, _, rfl, hk, by decide, rfl, set_at hk, g0.setN hlt _⟩
  subst eσ
  refine ws_mid (fun σ hh => σ = startM 4 [.ref k, .tup (bm.map mkD), .tup (lm.map mkD)] ∧ ∃ kb, R0 (bm ++ lm) bm.length k kb [] hh ∧ Gr h0 hh ∧ h0.length ≤ kb ∧ kb ≠ k) ?_ fun σ hh ⟨eσ, kb, r0, g2, lkb, nkb⟩ => ?_
  · have g1l := g1.len
    have nk : k < hh.length := lt_of_get hk1
    kqd_sub
    refine ⟨k, _, .tup ((bm ++ lm).map mkD), rfl, hk1, rfl, ?_⟩
    kqd_sub
    refine ⟨1, bm.length + lm.length, rfl, by rw [List.length_map, List.length_append], by omega, by omega, ?_⟩
    kqd_sub
    refine wp_of (catD_of ((Gr.app _ _).get get_new) get_new (by rw [List.length_map, List.length_range']; show _ + 1 ≤ 2 ^ 24; omega)) ?_
    rw [List.length_map, beh_list (ms := bm ++ lm) (n := bm.length + lm.length - 1) (b := bm.length) hnl, ← hnl]
    kqd_sub
    have hk2 := (((Gr.app hh [O.lst ((List.range' 1 (bm.length + lm.length - 1)).map fun (i : Nat) => D.int (i : Int))]).tr (Gr.app _ [O.lst [D.int (bm.length : Int)]])).tr (Gr.app _ [O.lst ((List.range (bm ++ lm).length).map fun i => D.int (beh (bm ++ lm) bm.length i : Int))])).get hk1
    refine ⟨k, _, rfl, hk2, by simp, rfl, _, ⟨by rw [set_at hk2]; rfl, set_ne get_new (by simp; omega)⟩, ?_, by simp; omega, by simp; omega⟩
    exact (((g1.tr (Gr.app _ _)).tr (Gr.app _ _)).tr (Gr.app _ _)).setN hlt _
  subst eσ
  have hb : bm.length < (bm ++ lm).length := by omega
  refine ws_mid (fun σ hh => σ = startM 4 [.ref k, .tup (bm.map mkD), .tup (lm.map mkD)] ∧ ∃ ka, ka ≠ k ∧ ka ≠ kb ∧ h0.length ≤ ka ∧ Rn (bm ++ lm) bm.length k kb ka (fun _ => none) hh ∧ Gr h0 hh) ?_ fun σ hh ⟨eσ, ka, na1, na2, lka, rn, g3⟩ => ?_
  · kqd_sub
    refine wl_mapT (List.range (bm ++ lm).length) (fun i => D.int (i : Int)) (fun _ => true) (fun i => oD (plain (bm ++ lm) bm.length i)) (wi_rngN ?_)
    kqd_sub
    refine ⟨k, _, .tup ((bm ++ lm).map mkD), rfl, r0.at_, rfl, ?_⟩
    kqd_sub
    refine ⟨(bm ++ lm).length, by rw [List.length_map], by omega, rfl, Chk.nil, by rw [List.length_range]; show _ ≤ 2 ^ 24; omega, fun i mi => ⟨_, rfl, rfl, fun _ => wp_eqn ?_⟩, ?_⟩
    · kqd_sub
      refine ⟨k, _, rfl, r0.at_, rfl, ?_⟩
      kqd_sub
      exact ⟨rfl, plain_w r0 gm hb (List.mem_range.mp mi)⟩
    · rw [filter_yes]
      kqd_sub
      have g2l := g2.len
      have nk : k < hh.length := lt_of_get r0.at_
      have nkb' : kb < hh.length := lt_of_get r0.bh
      have hk3 := (Gr.app hh [O.lst ((List.range (bm ++ lm).length).map fun i => oD (plain (bm ++ lm) bm.length i))]).get r0.at_
      refine ⟨k, _, rfl, hk3, by simp, rfl, hh.length, by omega, by omega, g2l, ⟨⟨by rw [set_at hk3]; rfl, set_ne ((Gr.app _ _).get r0.bh) nkb⟩, set_ne get_new (by omega)⟩, (g2.tr (Gr.app _ _)).setN hlt _⟩
  subst eσ
  kqd_sub
  have lts : h0.length ≤ k ∧ h0.length ≤ kb ∧ h0.length ≤ ka := ⟨hlt, lkb, lka⟩
  refine ⟨k, _, rfl, rn.r0.at_, rfl, ?_⟩
  kqd_sub
  rw [List.length_map]
  refine ⟨rfl, wp_imp (match_w (lo := 0) (hi := bm.length) rn gm hb (fun i j z => by cases z) (by omega) g3 lts ⟨na1, na2⟩ (by omega) (by omega)) fun d h4 ⟨_, g4, rn4⟩ => ?_⟩
  have ok4 : ∀ i j, mrange (bm ++ lm) (fun _ => none) 0 (bm.length - 0) i = some j → kindAt (bm ++ lm) i = "call" ∧ i < (bm ++ lm).length ∧ j < (bm ++ lm).length :=
    (MOk.fold (n := (bm ++ lm).length) (s := ⟨[], fun _ => none⟩) (l := List.range' 0 (bm.length - 0)) ⟨(fun _ z => by cases z), (fun _ _ z => by cases z)⟩ fun i m => by
      have := List.mem_range'_1.mp m
      omega).m
  kqd_sub
  refine ⟨k, _, rfl, rn4.r0.at_, rfl, ?_⟩
  kqd_sub
  refine ⟨k, _, .tup ((bm ++ lm).map mkD), rfl, rn4.r0.at_, rfl, ?_⟩
  kqd_sub
  rw [List.length_map, List.length_map]
  refine ⟨rfl, wp_imp (match_w (lo := bm.length) (hi := (bm ++ lm).length) rn4 gm hb ok4 (by omega) g4 lts ⟨na1, na2⟩ (by omega) (by omega)) fun d h5 ⟨_, g5, rn5⟩ => ?_⟩
  exact ⟨rfl, g5, kb, ka, na1, na2, lkb, lka, rn5⟩
end
end K12

end
section
open PySem L2 ML
local macro_rules | `(tactic| kqd_sub) => `(tactic| (repeat (first | ((with_reducible apply wp_gv); rfl) | (with_reducible refine wp_met2T ?_) | (with_reducible refine wp_dcT ?_) | (with_reducible refine ws_lockSA ?_) | (with_reducible refine wp_popI ?_) | (with_reducible refine wl_lisT ?_) | (with_reducible refine wl_valT ?_) | (with_reducible refine wi_tkey ?_) | (with_reducible refine to_all ?_) | (with_reducible refine to_any ?_) | (with_reducible refine ws_seq ?_) | (with_reducible refine ws_set ?_) | (with_reducible refine ws_par ?_) | (with_reducible refine ws_expr ?_) | (with_reducible refine ws_ret ?_) | (with_reducible refine ws_if ?_) | (with_reducible refine ws_asg ?_) | (with_reducible refine ws_sub ?_) | (with_reducible refine ws_subT ?_) | (with_reducible refine ws_fldS ?_) | (with_reducible refine ws_skip ?_) | (with_reducible refine ws_brk ?_) | (with_reducible refine ws_ct ?_) | (with_reducible refine ws_retN ?_) | (with_reducible refine ws_lockS ?_) | (with_reducible refine wp_run ?_) | (with_reducible refine wp_cM ?_) | (with_reducible refine wp_fld ?_) | (with_reducible refine wp_op2 ?_) | (with_reducible refine wp_op1 ?_) | (with_reducible refine wp_call ?_) | (with_reducible refine wp_meth ?_) | (with_reducible refine wp_make ?_) | (with_reducible refine wp_new ?_) | (with_reducible refine wp_tup ?_) | (with_reducible refine wp_newK ?_) | (with_reducible refine wp_newT ?_) | (with_reducible refine wp_ifE ?_) | (with_reducible refine wp_notV ?_) | (with_reducible refine wp_andV ?_) | (with_reducible refine wp_orV ?_) | (with_reducible refine wp_met2D ?_) | (with_reducible refine wp_app ?_) | (with_reducible refine wp_ext ?_) | (with_reducible refine wx_exu ?_) | (with_reducible refine wp_pop ?_) | (with_reducible refine wp_slice ?_) | (with_reducible refine wo_no ?_) | (with_reducible refine wo_some ?_) | (with_reducible refine ch_of ?_) | (with_reducible refine wl_slice ?_) | (with_reducible refine wp_bc ?_) | (with_reducible refine wp_disp ?_) | (with_reducible refine wq_cons ?_) | (with_reducible refine wq_nil ?_) | (with_reducible refine wp_lockM ?_) | (with_reducible refine wt_tv ?_) | (with_reducible refine wt_and ?_) | (with_reducible refine wt_or ?_) | (with_reducible refine wt_not ?_) | (with_reducible refine wt_tr ?_) | (with_reducible refine wt_yes ?_) | (with_reducible refine wl_nil ?_) | (with_reducible refine wl_cons ?_) | (with_reducible refine wl_lst ?_) | (with_reducible refine wl_lis ?_) | (with_reducible refine wi_lst ?_) | (with_reducible refine wi_rng ?_) | (with_reducible refine wl_listT ?_) | (with_reducible refine wp_met1D ?_) | (with_reducible refine wl_lisR2 ?_) | (with_reducible refine wl_lisR1 ?_) | (with_reducible refine wp_eqI ?_) | (with_reducible refine wp_neI ?_) | (with_reducible refine wp_ltI ?_) | (with_reducible refine wp_cmpI ?_) | (with_reducible refine wp_addI ?_) | (with_reducible refine wp_subI ?_) | (with_reducible refine wp_negI ?_) | (with_reducible refine wp_isN0 ?_) | (with_reducible refine wp_isNI ?_) | (with_reducible refine wp_isNS ?_) | (with_reducible refine wp_isNT ?_) | (with_reducible refine wp_isNR ?_) | (with_reducible refine wp_ntN0 ?_) | (with_reducible refine wp_ntNI ?_) | (with_reducible refine wp_ntNS ?_) | (with_reducible refine wp_ntNT ?_) | (with_reducible refine wp_ntNR ?_) | (with_reducible refine wp_lenT ?_) | (with_reducible refine wp_ix0 ?_) | (with_reducible refine wp_ix1 ?_) | (with_reducible refine wp_ix2 ?_) | (with_reducible refine wp_ix3 ?_) | (with_reducible refine wp_ix4 ?_) | (with_reducible refine wp_max ?_) | (with_reducible refine wp_min ?_) | (with_reducible refine wp_intD ?_) | (with_reducible refine wp_intB ?_) | (with_reducible refine wt_trN ?_) | (with_reducible refine wt_trB ?_) | (with_reducible refine wt_trI ?_) | (with_reducible refine wt_trT ?_) | (with_reducible refine wp_isi ?_) | (with_reducible refine is_ss ?_) | (with_reducible refine is_st ?_) | (with_reducible refine is_si ?_) | (with_reducible refine is_ts ?_) | (with_reducible refine is_tt ?_) | (with_reducible refine is_ti ?_) | (with_reducible refine is_is ?_) | (with_reducible refine is_it ?_) | (with_reducible refine is_ii ?_) | (with_reducible refine is_ib ?_) | (with_reducible refine is_bb ?_) | (with_reducible refine is_bi ?_) | (with_reducible refine is_bs ?_) | (with_reducible refine is_bt ?_) | (with_reducible refine is_ns ?_) | (with_reducible refine is_nt ?_) | (with_reducible refine is_ni ?_) | (with_reducible refine is_nb ?_) | (with_reducible refine ex_bl ?_) | (with_reducible refine ex_int ?_) | (with_reducible refine br_t ?_) | (with_reducible refine br_f ?_) | (with_reducible refine br_nt ?_) | (with_reducible refine br_nf ?_) | (refine fits (by simp) ?_) | (refine br_T (by rfl) ?_) | (refine br_F (by rfl) ?_))))
set_option Elab.async false
set_option linter.all false
set_option maxRecDepth 100000
set_option autoImplicit false
/-! ### k12: what comes true, read -/
namespace K12
open PySem L2 ML
def setB (T : Nat → Bool) (i : Nat) : Nat → Bool := fun j => if j = i then true else T j
def cntF (T : Nat → Bool) : Nat → Nat
  | 0 => 0
  | n + 1 => cntF T n + if T n then 0 else 1
theorem cnt_same {T T' : Nat → Bool} : ∀ {n : Nat}, (∀ j, j < n → T j = T' j) → cntF T n = cntF T' n
  | 0, _ => rfl
  | n + 1, e => by rw [cntF, cntF, cnt_same fun j hj => e j (by omega), e n (by omega)]
theorem cnt_set {T : Nat → Bool} {i : Nat} : ∀ {n : Nat}, i < n → T i = false → cntF (setB T i) n + 1 = cntF T n
  | 0, h, _ => by omega
  | n + 1, h, e => by
    rw [cntF, cntF]
    by_cases c : i = n
    · subst c
      have : setB T i i = true := if_pos rfl
      rw [this, e, cnt_same (T := setB T i) (T' := T) (n := i) fun j hj => if_neg (by omega)]
      simp
    · have ih := cnt_set (T := T) (n := n) (i := i) (by omega) e
      have : setB T i n = T n := if_neg (Ne.symm c)
      rw [this]
      omega
theorem cnt_le (T : Nat → Bool) : ∀ n, cntF T n ≤ n
  | 0 => Nat.le_refl _
  | n + 1 => by
    have := cnt_le T n
    rw [cntF]
    split <;> omega
theorem snoc_of {α : Type} : ∀ (l : List α), l = [] ∨ ∃ l' x, l = l' ++ [x]
  | [] => .inl rfl
  | a :: l => by
    rcases snoc_of l with e | ⟨l', x, e⟩
    · exact .inr ⟨[], a, by rw [e]; rfl⟩
    · exact .inr ⟨a :: l', x, by rw [e]; rfl⟩
theorem enum_range {n : Nat} {f : Nat → D} : enumI ((List.range n).map f) = (List.range n).map fun (i : Nat) => D.tup [.int (i : Int), f i] := by
  unfold enumI
  rw [List.length_map, List.length_range]
  refine List.map_congr_left fun i m => ?_
  have := List.mem_range.mp m
  simp [List.getD_eq_getElem?_getD, List.getElem?_range this]
def bls (n : Nat) (T : Nat → Bool) : O := .lst ((List.range n).map fun i => .bl (T i))
section
variable {n : Nat} {ah : Nat → Option Nat} {f g : Nat → Bool} {h : Hm} {ja jf jg : Nat}
theorem bls_at {T : Nat → Bool} {j i : Nat} (e : h[j]? = some (bls n T)) (hi : i < n) : ixD (.ref j) (.int (i : Int)) h = some (.bl (T i), h) := ix_lst e (by omega) (lst_get hi)
structure Cl (n : Nat) (ah : Nat → Option Nat) (f g : Nat → Bool) (T : Nat → Bool) (W : List Nat) (free : Nat → Nat → Prop) : Prop where
  gg : ∀ i, i < n → g i = true → T i = true
  u : ∀ i, T i = true → Un ah f g i
  w : ∀ i ∈ W, i < n ∧ T i = true
  c : ∀ j, j < n → T j = true → j ∉ W → ∀ i, i < n → ah i = some j → f i = true → T i = true ∨ free j i
theorem Cl.done {T : Nat → Bool} (c : Cl n ah f g T [] fun _ _ => False) (ha : ∀ i j, ah i = some j → j < n) {i : Nat} (hi : i < n) : T i = unB ah f g i := by
  have key : ∀ i, Un ah f g i → i < n → T i = true := fun i u => by
    induction u with
    | here h => exact fun hi => c.gg _ hi h
    | go h e _ ih => exact fun hi => (c.c _ (ha _ _ e) (ih (ha _ _ e)) List.not_mem_nil _ hi e h).elim id False.elim
  cases q : unB ah f g i with
  | true => exact key i (unB_true.mp q) hi
  | false =>
    cases q2 : T i with
    | false => rfl
    | true => exact absurd (c.u i q2) (unB_false.mp q)
/-- the heap while it runs: p is the first of the lists before, then before, truths, waiting -/
structure Ct (n p : Nat) (ah : Nat → Option Nat) (f g : Nat → Bool) (ja jf jg : Nat) (h0 h : Hm) : Prop where
  gr : Gr h0 h
  len : h.length = p + n + 3
  bf : ∀ j, j < n → h[p + j]? = some (.lst (((List.range n).filter fun i => decide (ah i = some j)).map fun i => .int (i : Nat)))
  be : h[p + n]? = some (.lst ((List.range n).map fun j => .ref (p + j)))
theorem come_w (hn : n ≤ 1000) (ea : h[ja]? = some (.lst ((List.range n).map fun i => oD (ah i)))) (ef : h[jf]? = some (bls n f)) (eg : h[jg]? = some (bls n g)) (ha : ∀ i j, ah i = some j → j < n) :
    wp (F_come_true [.ref ja, .ref jf, .ref jg] h) fun r h1 => Gr h h1 ∧ ∃ j, r = .ref j ∧ h.length ≤ j ∧ h1[j]? = some (bls n (unB ah f g)) := by
  unfold F_come_true
  have hp : ∃ p, p = h.length := ⟨_, rfl⟩
  obtain ⟨p, hp⟩ := hp
  -- before
  refine wp_run (ws_mid (fun σ hh => σ = [some (.ref ja), some (.ref jf), some (.ref jg), some (.ref (p + n)), none, none, none, none, none, none, none] ∧ hh = h ++ List.replicate n (.lst []) ++ [.lst ((List.range n).map fun j => .ref (p + j))]) ?_ fun σ hh ⟨eσ, eh⟩ => ?_)
  · kqd_sub
    refine wl_lc (wi_ref ?_)
    kqd_sub
    refine ⟨ja, _, rfl, ea, fun l acc hh => ∃ m, l.length + m = n ∧ acc = (List.range m).map (fun j => D.ref (p + j)) ∧ hh = h ++ List.replicate m (.lst []), ⟨0, by simp, rfl, by simp⟩, fun d r acc hh ⟨m, lm, eacc, eh⟩ => ⟨Chk.one ?_, _, rfl, ?_⟩, fun acc hh ⟨m, lm, eacc, eh⟩ => ⟨Chk.one ?_, ?_, ?_⟩⟩
    · rw [eh]; exact (Gr.app _ _).get ea
    · refine wt_yes ⟨(fun z => by cases z), fun _ => ?_⟩
      kqd_sub
      refine ⟨m + 1, by simp at lm ⊢; omega, ?_, ?_⟩
      · rw [eacc, eh, List.range_succ, List.map_append]
        simp [hp]
      · rw [eh, List.append_assoc, List.replicate_succ']
    · rw [eh]; exact (Gr.app _ _).get ea
    · rw [eacc, List.length_map, List.length_range]; show _ ≤ 2 ^ 24; simp at lm; omega
    · have : m = n := by simpa using lm
      subst this
      kqd_sub
      refine ⟨?_, by rw [eacc, eh]⟩
      rw [eh, List.length_append, List.length_replicate, ← hp]
      rfl
  subst eσ
  have gr1 : Gr h hh := by rw [eh]; exact (Gr.app _ _).tr (Gr.app _ _)
  have len1 : hh.length = p + n + 1 := by rw [eh]; simp; omega
  have be1 : hh[p + n]? = some (.lst ((List.range n).map fun j => .ref (p + j))) := by
    rw [eh, show p + n = (h ++ List.replicate n (O.lst [])).length by simp; omega]
    exact get_new
  have bf1 : ∀ j, j < n → hh[p + j]? = some (.lst []) := fun j hj => by
    rw [eh, List.getElem?_append_left (by simp; omega), List.getElem?_append_right (by omega), List.getElem?_replicate, if_pos (by omega)]
  clear eh
  -- who leads where
  refine ws_mid (fun σ hh => ∃ a b, σ = [some (.ref ja), some (.ref jf), some (.ref jg), some (.ref (p + n)), a, b, none, none, none, none, none] ∧ Gr h hh ∧ hh.length = p + n + 1 ∧ hh[p + n]? = some (.lst ((List.range n).map fun j => .ref (p + j))) ∧ ∀ j, j < n → hh[p + j]? = some (.lst (((List.range n).filter fun i => decide (ah i = some j)).map fun i => .int (i : Nat)))) ?_ fun σ h2 ⟨a4, a5, eσ, gr2, len2, be2, bf2⟩ => ?_
  · refine ws_forT (List.range n) (fun (i : Nat) => D.tup [.int (i : Int), oD (ah i)]) (fun done σ hh => ∃ a b, σ = [some (.ref ja), some (.ref jf), some (.ref jg), some (.ref (p + n)), a, b, none, none, none, none, none] ∧ Gr h hh ∧ hh.length = p + n + 1 ∧ hh[p + n]? = some (.lst ((List.range n).map fun j => .ref (p + j))) ∧ ∀ j, j < n → hh[p + j]? = some (.lst ((done.filter fun i => decide (ah i = some j)).map fun i => .int (i : Nat)))) ?_ (fun done i r σ h2 ed ⟨a, b, eσ, gr, len, be, bf⟩ => ?_) fun σ h2 q => q
    · refine ⟨_, hh, by unfold itEv; exact (bind_of (a := .ref ja) rfl).trans (show enuD (.ref ja) hh = some ((enumI _, [(ja, _)]), hh) by unfold enuD lvF; dsimp only; rw [gr1.get ea]), enum_range, fun d σ h2 ⟨_, _, _, gr, _⟩ => Chk.one (gr.get ea), none, none, rfl, gr1, len1, be1, bf1⟩
    · subst eσ
      refine ⟨_, rfl, ?_⟩
      cases q : ah i with
      | none =>
        show wpS (ifS (tvM (op2M notND' (gv 5) (cM .non))) _ skipS [some (.ref ja), some (.ref jf), some (.ref jg), some (.ref (p + n)), some (.int (i : Int)), some .non, none, none, none, none, none] h2) _ _ _ _
        kqd_sub
        refine ⟨_, _, rfl, gr, len, be, fun j hj => ?_⟩
        rw [bf j hj, List.filter_append]
        simp [q]
      | some t =>
        have ht := ha i t q
        show wpS (ifS (tvM (op2M notND' (gv 5) (cM .non))) _ skipS [some (.ref ja), some (.ref jf), some (.ref jg), some (.ref (p + n)), some (.int (i : Int)), some (.int (t : Int)), none, none, none, none, none] h2) _ _ _ _
        kqd_sub
        refine wp_of (ix_lst be (by omega) (lst_get ht)) ?_
        kqd_sub
        refine ⟨p + t, _, rfl, bf t ht, ?_⟩
        kqd_sub
        refine ⟨_, bf t ht, ?_, _, _, rfl, gr.setN (by omega) _, by simp; exact len, set_ne be (by omega), fun j hj => ?_⟩
        · rw [List.length_map]
          have a1 := List.length_filter_le (fun i => decide (ah i = some t)) done
          have a2 := congrArg List.length ed
          simp at a2
          show _ < 2 ^ 24
          omega
        · by_cases c : j = t
          · subst c
            rw [set_at (bf j hj), List.filter_append]
            simp [q]
          · rw [set_ne (bf j hj) (by omega), List.filter_append]
            simp [q, Ne.symm c]
  subst eσ
  -- truths, and what waits
  refine ws_mid (fun σ hh => σ = [some (.ref ja), some (.ref jf), some (.ref jg), some (.ref (p + n)), a4, a5, some (.ref (p + n + 1)), none, none, none, none] ∧ hh = h2 ++ [bls n g]) ?_ fun σ h3 ⟨eσ, e3⟩ => ?_
  · kqd_sub
    refine wp_listC (gr2.get eg) ⟨?_, rfl⟩
    rw [len2]
    rfl
  subst eσ
  have g3 : Gr h2 h3 := by rw [e3]; exact Gr.app _ _
  have l3 : h3.length = p + n + 2 := by rw [e3]; simp; omega
  have t3 : h3[p + n + 1]? = some (bls n g) := by rw [e3, ← len2]; exact get_new
  clear e3
  refine ws_mid (fun σ hh => σ = [some (.ref ja), some (.ref jf), some (.ref jg), some (.ref (p + n)), a4, a5, some (.ref (p + n + 1)), some (.ref (p + n + 2)), none, none, none] ∧ hh = h3 ++ [.lst (((List.range n).filter g).map fun (i : Nat) => D.int (i : Int))]) ?_ fun σ h4 ⟨eσ, e4⟩ => ?_
  · kqd_sub
    refine wl_mapT (List.range n) (fun (i : Nat) => D.tup [.int (i : Int), .bl (g i)]) g (fun (i : Nat) => D.int (i : Int)) ⟨_, _, enu_ref rfl ((gr2.tr g3).get eg), enum_range, Chk.one ((gr2.tr g3).get eg), by rw [List.length_range]; show _ ≤ 2 ^ 24; omega, fun i mi => ⟨_, rfl, rfl, fun _ => rfl⟩, ?_⟩
    kqd_sub
    refine ⟨?_, rfl⟩
    rw [l3]
    rfl
  subst eσ
  have g4 : Gr h3 h4 := by rw [e4]; exact Gr.app _ _
  have l4 : h4.length = p + n + 3 := by rw [e4]; simp; omega
  have w4 : h4[p + n + 2]? = some (.lst (((List.range n).filter g).map fun (i : Nat) => D.int (i : Int))) := by rw [e4, ← l3]; exact get_new
  clear e4
  have C4 : Ct n p ah f g ja jf jg h h4 := ⟨(gr2.tr g3).tr g4, l4, fun j hj => (g3.tr g4).get (bf2 j hj), (g3.tr g4).get be2⟩
  -- the loop
  refine ws_mid (fun σ hh => ∃ a b, ∃ T, σ = [some (.ref ja), some (.ref jf), some (.ref jg), some (.ref (p + n)), a, a5, some (.ref (p + n + 1)), some (.ref (p + n + 2)), b, none, none] ∧ Ct n p ah f g ja jf jg h hh ∧ hh[p + n + 1]? = some (bls n T) ∧ Cl n ah f g T [] fun _ _ => False) ?_ fun σ h5 ⟨a, b, T, eσ, C5, t5, cl⟩ => ?_
  · refine ws_whT (fun m σ hh => ∃ a b, ∃ T W, σ = [some (.ref ja), some (.ref jf), some (.ref jg), some (.ref (p + n)), a, a5, some (.ref (p + n + 1)), some (.ref (p + n + 2)), b, none, none] ∧ Ct n p ah f g ja jf jg h hh ∧ hh[p + n + 1]? = some (bls n T) ∧ hh[p + n + 2]? = some (.lst (W.map fun (i : Nat) => D.int (i : Int))) ∧ Cl n ah f g T W (fun _ _ => False) ∧ 2 * cntF T n + W.length ≤ m ∧ m ≤ 3000) (2 * cntF g n + ((List.range n).filter g).length) ⟨a4, none, g, (List.range n).filter g, rfl, C4, (g4.get t3), w4, ?_, Nat.le_refl _, ?_⟩ fun m σ hh ⟨a, b, T, W, eσ, C, tt, ww, cl, hm, m3⟩ => ?_
    · refine ⟨fun i _ e => e, fun i e => .here e, fun i m => ⟨List.mem_range.mp (List.mem_filter.mp m).1, (List.mem_filter.mp m).2⟩, fun j hj tj nj => absurd (List.mem_filter.mpr ⟨List.mem_range.mpr hj, tj⟩) nj⟩
    · have := cnt_le g n
      have := List.length_filter_le g (List.range n)
      rw [List.length_range] at this
      omega
    · subst eσ
      kqd_sub
      refine wt_trL ww ?_
      rcases snoc_of W with eW | ⟨W', r, eW⟩
      · subst eW
        exact br_F rfl ⟨_, _, T, rfl, C, tt, cl⟩
      · subst eW
        have hr := cl.w r (by simp)
        have gl := C.gr.len
        refine br_T (by simp) ?_
        have ww' : hh[p + n + 2]? = some (.lst ((W'.map fun (i : Nat) => D.int (i : Int)) ++ [.int (r : Int)])) := by rw [ww]; simp
        refine ws_mid (fun σ h1 => σ = [some (.ref ja), some (.ref jf), some (.ref jg), some (.ref (p + n)), a, a5, some (.ref (p + n + 1)), some (.ref (p + n + 2)), some (.int (r : Int)), none, none] ∧ h1 = hh.set (p + n + 2) (.lst (W'.map fun (i : Nat) => D.int (i : Int)))) (ws_set (wp_popA rfl ww' ⟨rfl, rfl⟩)) fun σ h1 ⟨eσ, eh1⟩ => ?_
        subst eσ
        have g1 : Gr h h1 := by rw [eh1]; exact C.gr.setN (by omega) _
        have C1 : Ct n p ah f g ja jf jg h h1 := by
          rw [eh1]
          exact ⟨C.gr.setN (by omega) _, by simp; exact C.len, fun j hj => set_ne (C.bf j hj) (by omega), set_ne C.be (by omega)⟩
        have tt1 : h1[p + n + 1]? = some (bls n T) := by rw [eh1]; exact set_ne tt (by omega)
        have ww1 : h1[p + n + 2]? = some (.lst (W'.map fun (i : Nat) => D.int (i : Int))) := by rw [eh1]; exact set_at ww
        clear eh1
        refine ws_forT ((List.range n).filter fun i => decide (ah i = some r)) (fun (i : Nat) => D.int (i : Int)) (fun done σ hh => ∃ a, ∃ T W, σ = [some (.ref ja), some (.ref jf), some (.ref jg), some (.ref (p + n)), a, a5, some (.ref (p + n + 1)), some (.ref (p + n + 2)), some (.int (r : Int)), none, none] ∧ Ct n p ah f g ja jf jg h hh ∧ hh[p + n + 1]? = some (bls n T) ∧ hh[p + n + 2]? = some (.lst (W.map fun (i : Nat) => D.int (i : Int))) ∧ Cl n ah f g T W (fun j i => j = r ∧ i ∉ done) ∧ T r = true ∧ 2 * cntF T n + W.length + 1 ≤ m) ?_ (fun done i rr σ h2 ed ⟨a, T, W, eσ, C, tt, ww, cl, tr, hm⟩ => ?_) fun σ h2 ⟨a, T, W, eσ, C, tt, ww, cl, tr, hm⟩ => ?_
        · refine wi_ref ?_
          kqd_sub
          refine wp_of (ix_lst C1.be (by omega) (lst_get hr.1)) ?_
          refine ⟨p + r, _, rfl, C1.bf r hr.1, rfl, fun d σ h2 ⟨_, _, _, _, C, _⟩ => Chk.one (C.bf r hr.1), a, T, W', rfl, C1, tt1, ww1, ⟨cl.gg, cl.u, fun i mi => cl.w i (List.mem_append_left _ mi), fun j hj tj nj i hi e fi => ?_⟩, hr.2, by simp at hm; omega⟩
          by_cases c : j = r
          · exact .inr ⟨c, List.not_mem_nil⟩
          · exact .inl ((cl.c j hj tj (by simp; exact ⟨nj, c⟩) i hi e fi).elim id False.elim)
        · subst eσ
          have mi : i ∈ (List.range n).filter fun i => decide (ah i = some r) := by rw [ed]; simp
          have hi : i < n := List.mem_range.mp (List.mem_filter.mp mi).1
          have hai : ah i = some r := of_decide_eq_true (List.mem_filter.mp mi).2
          refine ⟨_, rfl, ?_⟩
          have keep : (f i = true → T i = true) → Cl n ah f g T W (fun j i' => j = r ∧ i' ∉ done ++ [i]) := fun k => ⟨cl.gg, cl.u, cl.w, fun j hj tj nj i' hi' e fi => by
            rcases cl.c j hj tj nj i' hi' e fi with z | ⟨z1, z2⟩
            · exact .inl z
            · by_cases c : i' = i
              · subst c; exact .inl (k fi)
              · exact .inr ⟨z1, by simp; exact ⟨z2, c⟩⟩⟩
          kqd_sub
          refine wp_of (bls_at (C.gr.get ef) hi) ?_
          kqd_sub
          cases fi : f i with
          | false =>
            kqd_sub
            exact ⟨_, T, W, rfl, C, tt, ww, keep (by rw [fi]; intro z; cases z), tr, hm⟩
          | true =>
            kqd_sub
            refine wp_of (bls_at tt hi) ?_
            kqd_sub
            cases ti : T i with
            | true =>
              kqd_sub
              exact ⟨_, T, W, rfl, C, tt, ww, keep fun _ => ti, tr, hm⟩
            | false =>
              kqd_sub
              have gl := C.gr.len
              refine ⟨_, store_lst tt (by rw [List.length_map, List.length_range]; exact hi), ?_⟩
              kqd_sub
              refine ⟨p + n + 2, _, rfl, set_ne ww (by omega), ?_⟩
              kqd_sub
              refine ⟨_, set_ne ww (by omega), by rw [List.length_map]; show _ < 2 ^ 24; omega, _, setB T i, W ++ [i], rfl, ⟨(C.gr.setN (by omega) _).setN (by omega) _, by simp; exact C.len, fun j hj => set_ne (set_ne (C.bf j hj) (by omega)) (by omega), set_ne (set_ne C.be (by omega)) (by omega)⟩, ?_, ?_, ?_, ?_, ?_⟩
              · rw [set_ne (set_at tt) (by omega), set_range hi]
                unfold bls setB
                congr 2
                refine List.map_congr_left fun j _ => ?_
                split <;> rfl
              · rw [set_at (set_ne ww (by omega))]
                simp
              · have mono : ∀ j, T j = true → setB T i j = true := fun j e => by unfold setB; split <;> simp_all
                refine ⟨fun j hj e => mono j (cl.gg j hj e), fun j e => ?_, fun j mj => ?_, fun j hj tj nj i' hi' e' fi' => ?_⟩
                · by_cases c : j = i
                  · subst c
                    exact .go fi hai (cl.u r tr)
                  · exact cl.u j (by rw [← e]; exact (if_neg c).symm)
                · rcases List.mem_append.mp mj with z | z
                  · exact ⟨(cl.w j z).1, mono j (cl.w j z).2⟩
                  · rw [List.mem_singleton.mp z]
                    exact ⟨hi, if_pos rfl⟩
                · have nj1 : j ∉ W := fun z => nj (List.mem_append_left _ z)
                  have nj2 : j ≠ i := fun z => nj (by rw [z]; simp)
                  have tj' : T j = true := by rw [← tj]; exact (if_neg nj2).symm
                  rcases cl.c j hj tj' nj1 i' hi' e' fi' with z | ⟨z1, z2⟩
                  · exact .inl (mono i' z)
                  · by_cases c : i' = i
                    · subst c; exact .inl (if_pos rfl)
                    · exact .inr ⟨z1, by simp; exact ⟨z2, c⟩⟩
              · unfold setB; split <;> simp_all
              · have := cnt_set hi ti
                simp
                omega
        · subst eσ
          refine ⟨2 * cntF T n + W.length, by omega, _, _, T, W, rfl, C, tt, ww, ⟨cl.gg, cl.u, cl.w, fun j hj tj nj i hi e fi => ?_⟩, Nat.le_refl _, by omega⟩
          rcases cl.c j hj tj nj i hi e fi with z | ⟨z1, z2⟩
          · exact .inl z
          · exact absurd (List.mem_filter.mpr ⟨List.mem_range.mpr hi, decide_eq_true (by rw [e, z1])⟩) z2
  · subst eσ
    kqd_sub
    refine ⟨C5.gr, _, rfl, by omega, ?_⟩
    rw [t5]
    unfold bls
    congr 2
    exact List.map_congr_left fun i m => congrArg D.bl (cl.done ha (List.mem_range.mp m))
end
end K12

end
section
open PySem L2 ML
local macro_rules | `(tactic| kst_all1) => `(tactic| (repeat (first | ((with_reducible apply wp_gv); rfl) | (with_reducible refine wp_met2T ?_) | (with_reducible refine wp_dcT ?_) | (with_reducible refine ws_lockSA ?_) | (with_reducible refine wp_popI ?_) | (with_reducible refine wl_lisT ?_) | (with_reducible refine wl_valT ?_) | (with_reducible refine wi_tkey ?_) | (with_reducible refine to_all ?_) | (with_reducible refine to_any ?_) | (with_reducible refine ws_seq ?_) | (with_reducible refine ws_set ?_) | (with_reducible refine ws_par ?_) | (with_reducible refine ws_expr ?_) | (with_reducible refine ws_ret ?_) | (with_reducible refine ws_if ?_) | (with_reducible refine ws_asg ?_) | (with_reducible refine ws_sub ?_) | (with_reducible refine ws_subT ?_) | (with_reducible refine ws_fldS ?_) | (with_reducible refine ws_skip ?_) | (with_reducible refine ws_brk ?_) | (with_reducible refine ws_ct ?_) | (with_reducible refine ws_retN ?_) | (with_reducible refine ws_lockS ?_) | (with_reducible refine wp_run ?_) | (with_reducible refine wp_cM ?_) | (with_reducible refine wp_fld ?_) | (with_reducible refine wp_op2 ?_) | (with_reducible refine wp_op1 ?_) | (with_reducible refine wp_call ?_) | (with_reducible refine wp_meth ?_) | (with_reducible refine wp_make ?_) | (with_reducible refine wp_new ?_) | (with_reducible refine wp_tup ?_) | (with_reducible refine wp_newK ?_) | (with_reducible refine wp_newT ?_) | (with_reducible refine wp_ifE ?_) | (with_reducible refine wp_notV ?_) | (with_reducible refine wp_andV ?_) | (with_reducible refine wp_orV ?_) | (with_reducible refine wp_met2D ?_) | (with_reducible refine wp_app ?_) | (with_reducible refine wp_ext ?_) | (with_reducible refine wx_exu ?_) | (with_reducible refine wp_pop ?_) | (with_reducible refine wp_slice ?_) | (with_reducible refine wo_no ?_) | (with_reducible refine wo_some ?_) | (with_reducible refine ch_of ?_) | (with_reducible refine wl_slice ?_) | (with_reducible refine wp_bc ?_) | (with_reducible refine wp_disp ?_) | (with_reducible refine wq_cons ?_) | (with_reducible refine wq_nil ?_) | (with_reducible refine wp_lockM ?_) | (with_reducible refine wt_tv ?_) | (with_reducible refine wt_and ?_) | (with_reducible refine wt_or ?_) | (with_reducible refine wt_not ?_) | (with_reducible refine wt_tr ?_) | (with_reducible refine wt_yes ?_) | (with_reducible refine wl_nil ?_) | (with_reducible refine wl_cons ?_) | (with_reducible refine wl_lst ?_) | (with_reducible refine wl_lis ?_) | (with_reducible refine wi_lst ?_) | (with_reducible refine wi_rng ?_) | (with_reducible refine wl_listT ?_) | (with_reducible refine wp_met1D ?_) | (with_reducible refine wl_lisR2 ?_) | (with_reducible refine wl_lisR1 ?_) | (with_reducible refine wp_eqI ?_) | (with_reducible refine wp_neI ?_) | (with_reducible refine wp_ltI ?_) | (with_reducible refine wp_cmpI ?_) | (with_reducible refine wp_addI ?_) | (with_reducible refine wp_subI ?_) | (with_reducible refine wp_negI ?_) | (with_reducible refine wp_isN0 ?_) | (with_reducible refine wp_isNI ?_) | (with_reducible refine wp_isNS ?_) | (with_reducible refine wp_isNT ?_) | (with_reducible refine wp_isNR ?_) | (with_reducible refine wp_ntN0 ?_) | (with_reducible refine wp_ntNI ?_) | (with_reducible refine wp_ntNS ?_) | (with_reducible refine wp_ntNT ?_) | (with_reducible refine wp_ntNR ?_) | (with_reducible refine wp_lenT ?_) | (with_reducible refine wp_ix0 ?_) | (with_reducible refine wp_ix1 ?_) | (with_reducible refine wp_ix2 ?_) | (with_reducible refine wp_ix3 ?_) | (with_reducible refine wp_ix4 ?_) | (with_reducible refine wp_max ?_) | (with_reducible refine wp_min ?_) | (with_reducible refine wp_intD ?_) | (with_reducible refine wp_intB ?_) | (with_reducible refine wt_trN ?_) | (with_reducible refine wt_trB ?_) | (with_reducible refine wt_trI ?_) | (with_reducible refine wt_trT ?_) | (with_reducible refine wp_isi ?_) | (with_reducible refine is_ss ?_) | (with_reducible refine is_st ?_) | (with_reducible refine is_si ?_) | (with_reducible refine is_ts ?_) | (with_reducible refine is_tt ?_) | (with_reducible refine is_ti ?_) | (with_reducible refine is_is ?_) | (with_reducible refine is_it ?_) | (with_reducible refine is_ii ?_) | (with_reducible refine is_ib ?_) | (with_reducible refine is_bb ?_) | (with_reducible refine is_bi ?_) | (with_reducible refine is_bs ?_) | (with_reducible refine is_bt ?_) | (with_reducible refine is_ns ?_) | (with_reducible refine is_nt ?_) | (with_reducible refine is_ni ?_) | (with_reducible refine is_nb ?_) | (with_reducible refine ex_bl ?_) | (with_reducible refine ex_int ?_) | (with_reducible refine br_t ?_) | (with_reducible refine br_f ?_) | (with_reducible refine br_nt ?_) | (with_reducible refine br_nf ?_) | (refine fits (by simp) ?_) | (refine br_T (by rfl) ?_) | (refine br_F (by rfl) ?_) | (with_reducible refine we_lit (by decide +kernel) (by decide +kernel) ?_) | (with_reducible refine wn_lit (by decide +kernel) (by decide +kernel) ?_) | (with_reducible refine wi_litT (by decide +kernel) (by decide +kernel) ?_) | (with_reducible refine wni_litT (by decide +kernel) (by decide +kernel) ?_) | (with_reducible refine wi_litN (by decide +kernel) (by decide +kernel) ?_) | (with_reducible refine wni_litN (by decide +kernel) (by decide +kernel) ?_) | (refine br_T (by decide +kernel) ?_) | (refine br_F (by decide +kernel) ?_))))
set_option Elab.async false
set_option linter.all false
set_option maxRecDepth 100000
set_option autoImplicit false
/-! ### k12: the program's truths, read -/
namespace K12
open PySem L2 ML
theorem form_cases {l : Nat} {N : Nat} {w : Str} {ps : List D} (t : ∀ q ∈ ps, tre N q) (f : formB (l + 1) (.tup (.str w :: ps)) = true) :
    (w = "yes" ∧ ps = []) ∨ (w = "at" ∧ ∃ k x, ps = [.str k, .str x] ∧ GoodS k ∧ GoodS x) ∨ ((w = "not" ∨ w = "next" ∨ w = "over") ∧ ∃ p, ps = [p] ∧ formB l p = true) ∨ ((w = "and" ∨ w = "or" ∨ w = "until" ∨ w = "across") ∧ ∃ p q, ps = [p, q] ∧ formB l p = true ∧ formB l q = true) := by
  unfold formB at f
  by_cases c : w = "at"
  · rw [if_pos c] at f
    match ps, t, f with
    | [a, b], t, f =>
      rw [atB_eq, Bool.and_eq_true, decide_eq_true_eq, Bool.or_eq_true, decide_eq_true_eq] at f
      refine .inr (.inl ⟨c, ?_⟩)
      have ka : ∃ k, a = .str k := by
        have := f.1
        simp only [KIN, List.mem_cons, List.not_mem_nil, or_false] at this
        rcases this with e | e | e | e <;> exact ⟨_, e⟩
      have kb : ∃ k, b = .str k := by
        rcases f.2 with e | e
        · exact ⟨_, e⟩
        · cases b with
          | str x => exact ⟨x, rfl⟩
          | _ => cases e
      obtain ⟨k, rfl⟩ := ka
      obtain ⟨x, rfl⟩ := kb
      exact ⟨k, x, rfl, (str_pd (t _ (by simp))).2, (str_pd (t _ (by simp))).2⟩
    | [], _, f => cases f
    | [_], _, f => cases f
    | _ :: _ :: _ :: _, _, f => cases f
  · rw [if_neg c, Bool.and_eq_true, decide_eq_true_eq, List.all_eq_true] at f
    obtain ⟨fa, fp⟩ := f
    have one : arity w = some 1 → ∃ p, ps = [p] ∧ formB l p = true := fun e => by
      rw [e] at fa
      have : (1 : Int) = ps.length := by injection fa
      match ps, fp, this with
      | [p], fp, _ => exact ⟨p, rfl, fp p (by simp)⟩
      | [], _, h => simp at h
      | _ :: _ :: _, _, h => simp at h; omega
    have two : arity w = some 2 → ∃ p q, ps = [p, q] ∧ formB l p = true ∧ formB l q = true := fun e => by
      rw [e] at fa
      have : (2 : Int) = ps.length := by injection fa
      match ps, fp, this with
      | [p, q], fp, _ => exact ⟨p, q, rfl, fp p (by simp), fp q (by simp)⟩
      | [], _, h => simp at h
      | [_], _, h => simp at h
      | _ :: _ :: _ :: _, _, h => simp at h; omega
    by_cases c1 : w = "yes"
    · subst c1
      have : (0 : Int) = ps.length := by injection fa
      exact .inl ⟨rfl, List.eq_nil_of_length_eq_zero (by omega)⟩
    by_cases c2 : w = "not"
    · subst c2; exact .inr (.inr (.inl ⟨.inl rfl, one rfl⟩))
    by_cases c3 : w = "and"
    · subst c3; exact .inr (.inr (.inr ⟨.inl rfl, two rfl⟩))
    by_cases c4 : w = "or"
    · subst c4; exact .inr (.inr (.inr ⟨.inr (.inl rfl), two rfl⟩))
    by_cases c5 : w = "next"
    · subst c5; exact .inr (.inr (.inl ⟨.inr (.inl rfl), one rfl⟩))
    by_cases c6 : w = "until"
    · subst c6; exact .inr (.inr (.inr ⟨.inr (.inr (.inl rfl)), two rfl⟩))
    by_cases c7 : w = "over"
    · subst c7; exact .inr (.inr (.inl ⟨.inr (.inr rfl), one rfl⟩))
    by_cases c8 : w = "across"
    · subst c8; exact .inr (.inr (.inr ⟨.inr (.inr (.inr rfl)), two rfl⟩))
    unfold arity at fa
    rw [if_neg c1, if_neg c2, if_neg c3, if_neg c4, if_neg c5, if_neg c6, if_neg c7, if_neg c8] at fa
    cases fa
section
variable {ms : List Mark} {b k kb ka : Nat} {h : Hm} {mt : Nat → Option Nat}
theorem Rn.gr (r : Rn ms b k kb ka mt h) {h1 : Hm} (g : Gr h h1) : Rn ms b k kb ka mt h1 := ⟨r.r0.gr g, g.get r.ac⟩
theorem range_marks {n : Nat} {f : Mark → D} (hn : n = ms.length) : ms.map f = (List.range n).map fun i => f (ms.getD i ("", "")) := by
  subst hn
  refine List.ext_getElem? fun j => ?_
  by_cases hj : j < ms.length
  · rw [List.getElem?_map, List.getElem?_map, List.getElem?_range hj, List.getElem?_eq_getElem hj]
    simp [List.getD_eq_getElem?_getD, List.getElem?_eq_getElem hj]
  · rw [List.getElem?_eq_none (by simp; omega), List.getElem?_eq_none (by simp; omega)]
theorem matches_w {m : Mark} {kk x : Str} (gm : GoodM m) (gk : GoodS kk) (gx : GoodS x) : wp (F_matches [mkD m, .str kk, .str x] h) fun d h1 => h1 = h ∧ d = .bl (decide (m.1 = kk) && (decide (x = "") || decide (x = m.2))) := by
  unfold F_matches
  kst_all1
  refine we_P (n := 0) (Pd.str gm.1.1) (Pd.str gk.1) (by decide) ?_
  kst_all1
  refine br_d (fun c => ?_) (fun c => ?_)
  · have c : m.1 = kk := by injection c
    kst_all1
    refine wi_T (n := 0) (Pd.str gx.1) (fun y my => ?_) (by decide) ?_
    · simp only [List.mem_cons, List.not_mem_nil, or_false] at my
      rcases my with e | e
      · subst e; exact Pd.of (by decide +kernel)
      · subst e; exact Pd.str gm.2.1
    · refine ⟨rfl, ?_⟩
      rw [decide_eq_true c, Bool.true_and]
      congr 1
      simp
  · have c : ¬ m.1 = kk := fun z => c (by rw [z])
    refine ⟨rfl, ?_⟩
    rw [decide_eq_false c]
    rfl
/-- the truths of the parts, in a list -/
theorem parts_tw {ms : List Mark} {h : Hm} {tr : D → Nat → Bool} {ps : List D} {it : Sm → M (List D × Src)} {el : Sm → M D} {vs : List Nat} {g : D → Sm → Option Sm} {σ : Sm} (hl : ps.length ≤ 2) (hit : it σ h = some ((ps, []), h))
    (hel : ∀ q ∈ ps, ∀ hh, Gr h hh → ∃ σ1, g q (wipeM σ vs) = some σ1 ∧ wp (el σ1 hh) fun r h1 => Gr hh h1 ∧ ∃ j, r = .ref j ∧ hh.length ≤ j ∧ h1[j]? = some (bls ms.length (tr q))) {Q : List D → Hm → Prop}
    (fin : ∀ (js : List Nat) hh, Gr h hh → js.length = ps.length → (∀ (i : Nat) q j, ps[i]? = some q → js[i]? = some j → hh[j]? = some (bls ms.length (tr q)) ∧ h.length ≤ j) → Q (js.map D.ref) hh) : wp (lcM it g yesT el vs σ h) Q := by
  refine wl_lc ⟨_, _, hit, fun l acc hh => ∃ (done : List D) (js : List Nat), ps = done ++ l ∧ acc = js.map D.ref ∧ js.length = done.length ∧ Gr h hh ∧ (∀ (i : Nat) q j, done[i]? = some q → js[i]? = some j → hh[j]? = some (bls ms.length (tr q)) ∧ h.length ≤ j), ⟨[], [], rfl, rfl, rfl, Gr.refl _, fun i q j e => by simp at e⟩, fun q r acc hh ⟨done, js, ep, ea, le, gh, al⟩ => ⟨Chk.nil, ?_⟩, fun acc hh ⟨done, js, ep, ea, le, gh, al⟩ => ⟨Chk.nil, ?_, ?_⟩⟩
  · obtain ⟨σ1, eg, w⟩ := hel q (by rw [ep]; simp) hh gh
    refine ⟨σ1, eg, wt_yes ⟨(fun z => by cases z), fun _ => wp_imp w fun d h2 ⟨g2, j, ed, hj, ej⟩ => ⟨done ++ [q], js ++ [j], by rw [ep]; simp, by rw [ea, ed]; simp, by simp [le], gh.tr g2, fun i q' j' e1 e2 => ?_⟩⟩⟩
    by_cases c : i < done.length
    · rw [List.getElem?_append_left c] at e1
      rw [List.getElem?_append_left (by omega)] at e2
      have := al i q' j' e1 e2
      exact ⟨g2.get this.1, this.2⟩
    · have l1 := (List.getElem?_eq_some_iff.mp e1).1
      simp at l1
      obtain rfl : i = done.length := by omega
      rw [List.getElem?_append_right (Nat.le_refl _)] at e1
      rw [List.getElem?_append_right (by omega)] at e2
      simp [le] at e1 e2
      subst e1 e2
      exact ⟨ej, by have := gh.len; omega⟩
  · rw [ea, List.length_map, le]
    have := congrArg List.length ep
    simp at this
    show _ ≤ 2 ^ 24
    omega
  · have ed : done = ps := by rw [ep]; simp
    subst ed ea
    exact fin js hh gh le al
theorem ahd_beh {w : Str} (h : ¬ (w = "over" ∨ w = "across")) (i : Nat) : ahd ms b w i = some (beh ms b i) := if_neg h
theorem ahd_acr {w : Str} (h : w = "over" ∨ w = "across") (i : Nat) : ahd ms b w i = acr ms b (mtAll ms b) i := if_pos h
theorem truths_w (gm : ∀ m ∈ ms, GoodM m) (hb : b < ms.length) (hn : ms.length ≤ 1000) : ∀ (l n N : Nat) (d : D), tre N d → formB l d = true → N ≤ 60 → l ≤ n → ∀ h, Rn ms b k kb ka (mtAll ms b) h → wp (F_RoundRun_truths n [.ref k, d] h) fun r h1 => Gr h h1 ∧ ∃ j, r = .ref j ∧ h.length ≤ j ∧ h1[j]? = some (bls ms.length (trB ms b n d)) := by
  intro l
  induction l with
  | zero => intro n N d t f; cases f
  | succ l ih =>
    intro n N d t f hN hln h rn
    obtain ⟨l', w, ps, el, rfl, fs⟩ := formB_tup f
    cases el
    obtain ⟨n, rfl⟩ : ∃ n', n = n' + 1 := ⟨n - 1, by omega⟩
    rcases tre_cases t with ⟨x, e, g⟩ | ⟨m, ps', w', rfl, e, hl, tx, tps⟩
    · cases e
    cases e
    have kids : w ≠ "at" → ∀ q ∈ ps, ∀ hh, Gr h hh → wp (F_RoundRun_truths n [.ref k, q] hh) fun r h1 => Gr hh h1 ∧ ∃ j, r = .ref j ∧ hh.length ≤ j ∧ h1[j]? = some (bls ms.length (trB ms b n q)) := fun nw q mq hh gh => ih n m q (tps q mq) (fs nw q mq) (by omega) (by omega) hh (rn.gr gh)
    have hmk : h[k]? = _ := rn.r0.at_
    rcases form_cases tps f with ⟨rfl, rfl⟩ | ⟨rfl, kk, x, rfl, gk, gx⟩ | ⟨hw, p, rfl, fp⟩ | ⟨hw, p, q, rfl, fp, fq⟩
    · unfold F_RoundRun_truths
      kst_all1
      refine wl_mapT ms mkD (fun _ => true) (fun _ => .bl true) (wi_tup ?_)
      kst_all1
      refine ⟨k, _, .tup (ms.map mkD), rfl, hmk, rfl, _, rfl, rfl, Chk.nil, by show _ ≤ 2 ^ 24; omega, fun x _ => ⟨_, rfl, rfl, fun _ => rfl⟩, ?_⟩
      rw [filter_yes]
      kst_all1
      refine ⟨Gr.app _ _, _, rfl, Nat.le_refl _, ?_⟩
      rw [get_new, range_marks rfl]
      rfl
    · unfold F_RoundRun_truths
      kst_all1
      refine wl_mapT ms mkD (fun _ => true) (fun m => .bl (decide (m.1 = kk) && (decide (x = "") || decide (x = m.2)))) (wi_tup ?_)
      kst_all1
      refine ⟨k, _, .tup (ms.map mkD), rfl, hmk, rfl, _, rfl, rfl, Chk.nil, by show _ ≤ 2 ^ 24; omega, fun mm mmm => ⟨_, rfl, rfl, fun _ => wp_eqn ?_⟩, ?_⟩
      · kst_all1
        exact ⟨rfl, matches_w (gm mm mmm) gk gx⟩
      · rw [filter_yes]
        kst_all1
        refine ⟨Gr.app _ _, _, rfl, Nat.le_refl _, ?_⟩
        rw [get_new, range_marks rfl]
        rfl
    · have nw : w ≠ "at" := by rcases hw with e | e | e <;> subst e <;> decide
      have one : ∀ {js : List Nat}, js.length = 1 → ∃ j, js = [j] := fun {js} e => by
        match js, e with
        | [j], _ => exact ⟨j, rfl⟩
      rcases hw with rfl | rfl | rfl
      · unfold F_RoundRun_truths
        kst_all1
        refine @parts_tw ms _ (trB ms b n) [p] _ _ _ _ _ (by simp) ?_ ?_ _ ?_
        · rfl
        · intro q mq hh gh
          refine ⟨_, rfl, ?_⟩
          kst_all1
          refine ⟨k, _, rfl, (rn.gr gh).r0.at_, rfl, ?_⟩
          kst_all1
          exact ⟨rfl, kids nw q mq hh gh⟩
        · intro js hh gh le al
          obtain ⟨j, rfl⟩ := one le
          have a1 := al 0 p j rfl rfl
          kst_all1
          refine wl_mapT (List.range ms.length) (fun i => .bl (trB ms b n p i)) (fun _ => true) (fun i => .bl (!trB ms b n p i)) (wi_ref ?_)
          kst_all1
          refine wp_of (ix_lst get_new (by decide) rfl) ?_
          refine ⟨j, _, rfl, (Gr.app _ _).get a1.1, rfl, Chk.one ((Gr.app _ _).get a1.1), by rw [List.length_range]; show _ ≤ 2 ^ 24; omega, fun i mi => ⟨_, rfl, rfl, fun _ => rfl⟩, ?_⟩
          rw [filter_yes]
          kst_all1
          refine ⟨(gh.tr (Gr.app _ _)).tr (Gr.app _ _), _, rfl, by have := gh.len; simp; omega, ?_⟩
          rw [get_new]
          rfl
      · unfold F_RoundRun_truths
        kst_all1
        refine @parts_tw ms _ (trB ms b n) [p] _ _ _ _ _ (by simp) ?_ ?_ _ ?_
        · rfl
        · intro q mq hh gh
          refine ⟨_, rfl, ?_⟩
          kst_all1
          refine ⟨k, _, rfl, (rn.gr gh).r0.at_, rfl, ?_⟩
          kst_all1
          exact ⟨rfl, kids nw q mq hh gh⟩
        · intro js hh gh le al
          obtain ⟨j, rfl⟩ := one le
          have a1 := al 0 p j rfl rfl
          kst_all1
          have rn2 := (rn.gr gh).gr (Gr.app _ [O.lst (List.map D.ref [j])])
          refine ⟨k, _, .ref kb, rfl, rn2.r0.at_, rfl, ?_⟩
          kst_all1
          refine wl_mapT (List.range ms.length) (fun i => D.int (beh ms b i : Int)) (fun _ => true) (fun i => .bl (trB ms b (n + 1) (.tup [.str "next", p]) i)) (wi_ref ?_)
          kst_all1
          refine ⟨kb, _, rfl, rn2.r0.bh, rfl, Chk.one rn2.r0.bh, by rw [List.length_range]; show _ ≤ 2 ^ 24; omega, fun i mi => ⟨_, rfl, rfl, fun _ => wp_eqn ?_⟩, ?_⟩
          · kst_all1
            refine wp_of (ix_lst get_new (by decide) rfl) ?_
            kst_all1
            refine wp_of (bls_at ((Gr.app _ _).get a1.1) (beh_lt hb i)) ⟨rfl, ?_⟩
            show D.bl (trB ms b n p (beh ms b i)) = D.bl (match ahd ms b "next" i with | some j => trB ms b n p j | none => false)
            rw [ahd_beh (by decide)]
          · rw [filter_yes]
            kst_all1
            refine ⟨(gh.tr (Gr.app _ _)).tr (Gr.app _ _), _, rfl, by have := gh.len; simp; omega, ?_⟩
            rw [get_new]
            rfl
      · unfold F_RoundRun_truths
        kst_all1
        refine @parts_tw ms _ (trB ms b n) [p] _ _ _ _ _ (by simp) ?_ ?_ _ ?_
        · rfl
        · intro q mq hh gh
          refine ⟨_, rfl, ?_⟩
          kst_all1
          refine ⟨k, _, rfl, (rn.gr gh).r0.at_, rfl, ?_⟩
          kst_all1
          exact ⟨rfl, kids nw q mq hh gh⟩
        · intro js hh gh le al
          obtain ⟨j, rfl⟩ := one le
          have a1 := al 0 p j rfl rfl
          kst_all1
          have rn2 := (rn.gr gh).gr (Gr.app _ [O.lst (List.map D.ref [j])])
          refine ⟨k, _, .ref ka, rfl, rn2.r0.at_, rfl, ?_⟩
          kst_all1
          refine wl_mapT (List.range ms.length) (fun i => oD (acr ms b (mtAll ms b) i)) (fun _ => true) (fun i => .bl (trB ms b (n + 1) (.tup [.str "over", p]) i)) (wi_ref ?_)
          kst_all1
          refine ⟨ka, _, rfl, rn2.ac, rfl, Chk.one rn2.ac, by rw [List.length_range]; show _ ≤ 2 ^ 24; omega, fun i mi => ⟨_, rfl, rfl, fun _ => wp_eqn ?_⟩, ?_⟩
          · have et : trB ms b (n + 1) (.tup [.str "over", p]) i = (match acr ms b (mtAll ms b) i with | some j => trB ms b n p j | none => false) := by
              show (match ahd ms b "over" i with | some j => trB ms b n p j | none => false) = _
              rw [ahd_acr (.inl rfl)]
            rw [et]
            have hlt : ∀ t, acr ms b (mtAll ms b) i = some t → t < ms.length := fun t e => ahd_lt (w := "over") hb (by rw [ahd_acr (.inl rfl)]; exact e)
            cases q : acr ms b (mtAll ms b) i with
            | none =>
              kst_all1
              refine wp_ntN0 ?_
              kst_all1
              exact ⟨rfl, rfl⟩
            | some t =>
              kst_all1
              refine wp_ntNI ?_
              kst_all1
              refine wp_of (ix_lst get_new (by decide) rfl) ?_
              kst_all1
              exact wp_of (bls_at ((Gr.app _ _).get a1.1) (hlt t q)) ⟨rfl, rfl⟩
          · rw [filter_yes]
            kst_all1
            refine ⟨(gh.tr (Gr.app _ _)).tr (Gr.app _ _), _, rfl, by have := gh.len; simp; omega, ?_⟩
            rw [get_new]
            rfl
    · have nw : w ≠ "at" := by rcases hw with e | e | e | e <;> subst e <;> decide
      have two : ∀ {js : List Nat}, js.length = 2 → ∃ i j, js = [i, j] := fun {js} e => by
        match js, e with
        | [i, j], _ => exact ⟨i, j, rfl⟩
      rcases hw with rfl | rfl | rfl | rfl
      · unfold F_RoundRun_truths
        kst_all1
        refine @parts_tw ms _ (trB ms b n) [p, q] _ _ _ _ _ (by simp) ?_ ?_ _ ?_
        · rfl
        · intro q mq hh gh
          refine ⟨_, rfl, ?_⟩
          kst_all1
          refine ⟨k, _, rfl, (rn.gr gh).r0.at_, rfl, ?_⟩
          kst_all1
          exact ⟨rfl, kids nw q mq hh gh⟩
        · intro js hh gh le al
          obtain ⟨j1, j2, rfl⟩ := two le
          have a1 := al 0 p j1 rfl rfl
          have a2 := al 1 q j2 rfl rfl
          kst_all1
          refine wl_mapT (List.range ms.length) (fun i => D.tup [.bl (trB ms b n p i), .bl (trB ms b n q i)]) (fun _ => true) (fun i => .bl (trB ms b n p i && trB ms b n q i)) (wi_zip ?_)
          kst_all1
          refine wp_of (ix_lst get_new (by decide) rfl) ?_
          kst_all1
          refine wp_of (ix_lst get_new (by decide) rfl) ?_
          kst_all1
          refine ⟨j1, j2, _, _, rfl, (Gr.app _ _).get a1.1, (Gr.app _ _).get a2.1, zip_range, Chk.two ((Gr.app _ _).get a1.1) ((Gr.app _ _).get a2.1), by rw [List.length_range]; show _ ≤ 2 ^ 24; omega, fun i mi => ⟨_, rfl, rfl, fun _ => wp_eqn ?_⟩, ?_⟩
          · cases trB ms b n p i <;> (
              kst_all1
              exact ⟨rfl, rfl⟩)
          · rw [filter_yes]
            kst_all1
            refine ⟨(gh.tr (Gr.app _ _)).tr (Gr.app _ _), _, rfl, by have := gh.len; simp; omega, ?_⟩
            rw [get_new]
            rfl
      · unfold F_RoundRun_truths
        kst_all1
        refine @parts_tw ms _ (trB ms b n) [p, q] _ _ _ _ _ (by simp) ?_ ?_ _ ?_
        · rfl
        · intro q mq hh gh
          refine ⟨_, rfl, ?_⟩
          kst_all1
          refine ⟨k, _, rfl, (rn.gr gh).r0.at_, rfl, ?_⟩
          kst_all1
          exact ⟨rfl, kids nw q mq hh gh⟩
        · intro js hh gh le al
          obtain ⟨j1, j2, rfl⟩ := two le
          have a1 := al 0 p j1 rfl rfl
          have a2 := al 1 q j2 rfl rfl
          kst_all1
          refine wl_mapT (List.range ms.length) (fun i => D.tup [.bl (trB ms b n p i), .bl (trB ms b n q i)]) (fun _ => true) (fun i => .bl (trB ms b n p i || trB ms b n q i)) (wi_zip ?_)
          kst_all1
          refine wp_of (ix_lst get_new (by decide) rfl) ?_
          kst_all1
          refine wp_of (ix_lst get_new (by decide) rfl) ?_
          kst_all1
          refine ⟨j1, j2, _, _, rfl, (Gr.app _ _).get a1.1, (Gr.app _ _).get a2.1, zip_range, Chk.two ((Gr.app _ _).get a1.1) ((Gr.app _ _).get a2.1), by rw [List.length_range]; show _ ≤ 2 ^ 24; omega, fun i mi => ⟨_, rfl, rfl, fun _ => wp_eqn ?_⟩, ?_⟩
          · cases trB ms b n p i <;> (
              kst_all1
              exact ⟨rfl, rfl⟩)
          · rw [filter_yes]
            kst_all1
            refine ⟨(gh.tr (Gr.app _ _)).tr (Gr.app _ _), _, rfl, by have := gh.len; simp; omega, ?_⟩
            rw [get_new]
            rfl
      · unfold F_RoundRun_truths
        kst_all1
        refine @parts_tw ms _ (trB ms b n) [p, q] _ _ _ _ _ (by simp) ?_ ?_ _ ?_
        · rfl
        · intro q mq hh gh
          refine ⟨_, rfl, ?_⟩
          kst_all1
          refine ⟨k, _, rfl, (rn.gr gh).r0.at_, rfl, ?_⟩
          kst_all1
          exact ⟨rfl, kids nw q mq hh gh⟩
        · intro js hh gh le al
          obtain ⟨j1, j2, rfl⟩ := two le
          have a1 := al 0 p j1 rfl rfl
          have a2 := al 1 q j2 rfl rfl
          kst_all1
          have rn2 := (rn.gr gh).gr (Gr.app _ [O.lst (List.map D.ref [j1, j2])])
          refine ⟨k, _, .ref kb, rfl, rn2.r0.at_, rfl, ?_⟩
          kst_all1
          refine wp_of (ix_lst get_new (by decide) rfl) ?_
          kst_all1
          refine wp_of (ix_lst get_new (by decide) rfl) ?_
          kst_all1
          have ea : (hh ++ [O.lst (List.map D.ref [j1, j2])])[kb]? = some (.lst ((List.range ms.length).map fun i => oD (ahd ms b "until" i))) := by
            rw [rn2.r0.bh]
            congr 2
            try exact List.map_congr_left fun i _ => by rw [ahd_beh (by decide)] <;> rfl
          refine ⟨rfl, wp_imp (come_w hn ea ((Gr.app _ _).get a1.1) ((Gr.app _ _).get a2.1) fun i j e => ahd_lt hb e) fun r h5 ⟨g5, j5, er, l5, e5⟩ => ⟨(gh.tr (Gr.app _ _)).tr g5, j5, er, by have := gh.len; simp at l5; omega, e5⟩⟩
      · unfold F_RoundRun_truths
        kst_all1
        refine @parts_tw ms _ (trB ms b n) [p, q] _ _ _ _ _ (by simp) ?_ ?_ _ ?_
        · rfl
        · intro q mq hh gh
          refine ⟨_, rfl, ?_⟩
          kst_all1
          refine ⟨k, _, rfl, (rn.gr gh).r0.at_, rfl, ?_⟩
          kst_all1
          exact ⟨rfl, kids nw q mq hh gh⟩
        · intro js hh gh le al
          obtain ⟨j1, j2, rfl⟩ := two le
          have a1 := al 0 p j1 rfl rfl
          have a2 := al 1 q j2 rfl rfl
          kst_all1
          have rn2 := (rn.gr gh).gr (Gr.app _ [O.lst (List.map D.ref [j1, j2])])
          refine ⟨k, _, .ref ka, rfl, rn2.r0.at_, rfl, ?_⟩
          kst_all1
          refine wp_of (ix_lst get_new (by decide) rfl) ?_
          kst_all1
          refine wp_of (ix_lst get_new (by decide) rfl) ?_
          kst_all1
          have ea : (hh ++ [O.lst (List.map D.ref [j1, j2])])[ka]? = some (.lst ((List.range ms.length).map fun i => oD (ahd ms b "across" i))) := by
            rw [rn2.ac]
            congr 2
            try exact List.map_congr_left fun i _ => by rw [ahd_acr (.inr rfl)] <;> rfl
          refine ⟨rfl, wp_imp (come_w hn ea ((Gr.app _ _).get a1.1) ((Gr.app _ _).get a2.1) fun i j e => ahd_lt hb e) fun r h5 ⟨g5, j5, er, l5, e5⟩ => ⟨(gh.tr (Gr.app _ _)).tr g5, j5, er, by have := gh.len; simp at l5; omega, e5⟩⟩
/-- holds, as the document says -/
theorem holds_w {bm lm : List Mark} (gm : ∀ m ∈ bm ++ lm, GoodM m) (hn : bm.length + lm.length ≤ 1000) (h1 : 0 < lm.length) {N : Nat} {d : D} (t : tre N d) (f : formB 8 d = true) (hN : N ≤ 60) {i : Nat} (hi : i < bm.length + lm.length) (h : Hm) :
    wp (F_holds [d, .tup (bm.map mkD), .tup (lm.map mkD), .int (i : Int)] h) fun r h1 => Gr h h1 ∧ r = .bl (trB (bm ++ lm) bm.length 10 d i) := by
  unfold F_holds
  kst_all1
  refine ⟨rfl, wp_imp (init_w (h0 := h) (k := h.length) get_new (Nat.le_refl _) (Gr.app _ _) gm hn h1) fun r h2 ⟨er, g2, kb, ka, _, _, _, _, rn⟩ => ⟨er, ?_⟩⟩
  have hl : (bm ++ lm).length = bm.length + lm.length := List.length_append
  refine ⟨h.length, _, rfl, rn.r0.at_, rfl, ?_⟩
  kst_all1
  refine ⟨rfl, wp_imp (truths_w gm (by omega) (by omega) 8 10 N d t f hN (by decide) h2 rn) fun r h3 ⟨g3, j, ej, _, e3⟩ => ?_⟩
  subst ej
  kst_all1
  exact wp_of (bls_at e3 (by omega)) ⟨g2.tr g3, rfl⟩
end
end K12

end
section
open PySem L2 ML
local macro_rules | `(tactic| kst_all1) => `(tactic| (repeat (first | ((with_reducible apply wp_gv); rfl) | (with_reducible refine wp_met2T ?_) | (with_reducible refine wp_dcT ?_) | (with_reducible refine ws_lockSA ?_) | (with_reducible refine wp_popI ?_) | (with_reducible refine wl_lisT ?_) | (with_reducible refine wl_valT ?_) | (with_reducible refine wi_tkey ?_) | (with_reducible refine to_all ?_) | (with_reducible refine to_any ?_) | (with_reducible refine ws_seq ?_) | (with_reducible refine ws_set ?_) | (with_reducible refine ws_par ?_) | (with_reducible refine ws_expr ?_) | (with_reducible refine ws_ret ?_) | (with_reducible refine ws_if ?_) | (with_reducible refine ws_asg ?_) | (with_reducible refine ws_sub ?_) | (with_reducible refine ws_subT ?_) | (with_reducible refine ws_fldS ?_) | (with_reducible refine ws_skip ?_) | (with_reducible refine ws_brk ?_) | (with_reducible refine ws_ct ?_) | (with_reducible refine ws_retN ?_) | (with_reducible refine ws_lockS ?_) | (with_reducible refine wp_run ?_) | (with_reducible refine wp_cM ?_) | (with_reducible refine wp_fld ?_) | (with_reducible refine wp_op2 ?_) | (with_reducible refine wp_op1 ?_) | (with_reducible refine wp_call ?_) | (with_reducible refine wp_meth ?_) | (with_reducible refine wp_make ?_) | (with_reducible refine wp_new ?_) | (with_reducible refine wp_tup ?_) | (with_reducible refine wp_newK ?_) | (with_reducible refine wp_newT ?_) | (with_reducible refine wp_ifE ?_) | (with_reducible refine wp_notV ?_) | (with_reducible refine wp_andV ?_) | (with_reducible refine wp_orV ?_) | (with_reducible refine wp_met2D ?_) | (with_reducible refine wp_app ?_) | (with_reducible refine wp_ext ?_) | (with_reducible refine wx_exu ?_) | (with_reducible refine wp_pop ?_) | (with_reducible refine wp_slice ?_) | (with_reducible refine wo_no ?_) | (with_reducible refine wo_some ?_) | (with_reducible refine ch_of ?_) | (with_reducible refine wl_slice ?_) | (with_reducible refine wp_bc ?_) | (with_reducible refine wp_disp ?_) | (with_reducible refine wq_cons ?_) | (with_reducible refine wq_nil ?_) | (with_reducible refine wp_lockM ?_) | (with_reducible refine wt_tv ?_) | (with_reducible refine wt_and ?_) | (with_reducible refine wt_or ?_) | (with_reducible refine wt_not ?_) | (with_reducible refine wt_tr ?_) | (with_reducible refine wt_yes ?_) | (with_reducible refine wl_nil ?_) | (with_reducible refine wl_cons ?_) | (with_reducible refine wl_lst ?_) | (with_reducible refine wl_lis ?_) | (with_reducible refine wi_lst ?_) | (with_reducible refine wi_rng ?_) | (with_reducible refine wl_listT ?_) | (with_reducible refine wp_met1D ?_) | (with_reducible refine wl_lisR2 ?_) | (with_reducible refine wl_lisR1 ?_) | (with_reducible refine wp_eqI ?_) | (with_reducible refine wp_neI ?_) | (with_reducible refine wp_ltI ?_) | (with_reducible refine wp_cmpI ?_) | (with_reducible refine wp_addI ?_) | (with_reducible refine wp_subI ?_) | (with_reducible refine wp_negI ?_) | (with_reducible refine wp_isN0 ?_) | (with_reducible refine wp_isNI ?_) | (with_reducible refine wp_isNS ?_) | (with_reducible refine wp_isNT ?_) | (with_reducible refine wp_isNR ?_) | (with_reducible refine wp_ntN0 ?_) | (with_reducible refine wp_ntNI ?_) | (with_reducible refine wp_ntNS ?_) | (with_reducible refine wp_ntNT ?_) | (with_reducible refine wp_ntNR ?_) | (with_reducible refine wp_lenT ?_) | (with_reducible refine wp_ix0 ?_) | (with_reducible refine wp_ix1 ?_) | (with_reducible refine wp_ix2 ?_) | (with_reducible refine wp_ix3 ?_) | (with_reducible refine wp_ix4 ?_) | (with_reducible refine wp_max ?_) | (with_reducible refine wp_min ?_) | (with_reducible refine wp_intD ?_) | (with_reducible refine wp_intB ?_) | (with_reducible refine wt_trN ?_) | (with_reducible refine wt_trB ?_) | (with_reducible refine wt_trI ?_) | (with_reducible refine wt_trT ?_) | (with_reducible refine wp_isi ?_) | (with_reducible refine is_ss ?_) | (with_reducible refine is_st ?_) | (with_reducible refine is_si ?_) | (with_reducible refine is_ts ?_) | (with_reducible refine is_tt ?_) | (with_reducible refine is_ti ?_) | (with_reducible refine is_is ?_) | (with_reducible refine is_it ?_) | (with_reducible refine is_ii ?_) | (with_reducible refine is_ib ?_) | (with_reducible refine is_bb ?_) | (with_reducible refine is_bi ?_) | (with_reducible refine is_bs ?_) | (with_reducible refine is_bt ?_) | (with_reducible refine is_ns ?_) | (with_reducible refine is_nt ?_) | (with_reducible refine is_ni ?_) | (with_reducible refine is_nb ?_) | (with_reducible refine ex_bl ?_) | (with_reducible refine ex_int ?_) | (with_reducible refine br_t ?_) | (with_reducible refine br_f ?_) | (with_reducible refine br_nt ?_) | (with_reducible refine br_nf ?_) | (refine fits (by simp) ?_) | (refine br_T (by rfl) ?_) | (refine br_F (by rfl) ?_) | (with_reducible refine we_lit (by decide +kernel) (by decide +kernel) ?_) | (with_reducible refine wn_lit (by decide +kernel) (by decide +kernel) ?_) | (with_reducible refine wi_litT (by decide +kernel) (by decide +kernel) ?_) | (with_reducible refine wni_litT (by decide +kernel) (by decide +kernel) ?_) | (with_reducible refine wi_litN (by decide +kernel) (by decide +kernel) ?_) | (with_reducible refine wni_litN (by decide +kernel) (by decide +kernel) ?_) | (refine br_T (by decide +kernel) ?_) | (refine br_F (by decide +kernel) ?_))))
set_option Elab.async false
set_option linter.all false
set_option maxRecDepth 100000
set_option autoImplicit false
/-! ### k12: the law's run, read -/
namespace K12
open PySem L2 ML
section
variable {ms : List Mark} {h : Hm}
/-- the dict holds what has been matched -/
structure DM (mt : Nat → Option Nat) (kvs : List (D × D)) : Prop where
  get : ∀ i : Nat, getK kvs (.int (i : Int)) = (mt i).map fun j => D.int (j : Int)
theorem DM.put {mt : Nat → Option Nat} {kvs : List (D × D)} (d : DM mt kvs) (i j : Nat) : DM (updM mt i j) (putKD kvs (.int (i : Int)) (.int (j : Int))) := ⟨fun k => by
  rw [getK_put]
  unfold updM
  by_cases c : k = i
  · rw [if_pos (by rw [c]), if_pos c]; rfl
  · rw [if_neg (by intro z; injection z with z; omega), if_neg c]
    exact d.get k⟩
theorem kind_pm {ms pm : List Mark} {off k : Nat} (e : ∀ k, k < pm.length → ms.getD (off + k) ("", "") = pm.getD k ("", "")) (hk : k < pm.length) : (pm.getD k ("", "")).1 = kindAt ms (off + k) := by unfold kindAt; rw [e k hk]
theorem range'_map (off n : Nat) : List.range' off n = (List.range n).map fun k => off + k := by rw [List.range'_eq_map_range]
theorem kindP_w {pm : List Mark} (gm : ∀ m ∈ pm, GoodM m) {k : Nat} (hk : k < pm.length) {w : Str} (hw : Pd 0 (.str w)) {Q : D → Hm → Prop} (q : Q (.bl (decide ((pm.getD k ("", "")).1 = w))) h) : wp (eqD (.str (pm.getD k ("", "")).1) (.str w) h) Q := kind_w gm hk hw q
theorem lmatches_w {bm lm : List Mark} (gm : ∀ m ∈ bm ++ lm, GoodM m) (hn : bm.length + lm.length ≤ 1000) : wp (F__law_matches [.tup (bm.map mkD), .tup (lm.map mkD)] h) fun r h1 => Gr h h1 ∧ ∃ kd kvs, r = .ref kd ∧ h.length ≤ kd ∧ h1[kd]? = some (.dic kvs) ∧ DM (mtAll (bm ++ lm) bm.length) kvs := by
  have gb : ∀ m ∈ bm, GoodM m := fun m mm => gm m (List.mem_append_left _ mm)
  have gl : ∀ m ∈ lm, GoodM m := fun m mm => gm m (List.mem_append_right _ mm)
  have hall : mtAll (bm ++ lm) bm.length = [((0 : Nat), bm), (bm.length, lm)].foldl (fun mt p => mrange (bm ++ lm) mt p.1 p.2.length) (fun _ => none) := by
    show mrange _ _ _ ((bm ++ lm).length - bm.length) = mrange _ _ _ lm.length
    rw [List.length_append, show bm.length + lm.length - bm.length = lm.length by omega] <;> rfl
  unfold F__law_matches
  refine wp_run (ws_mid (fun σ hh => σ = [some (.tup (bm.map mkD)), some (.tup (lm.map mkD)), some (.ref h.length), none, none, none] ∧ hh = h ++ [.dic []]) ?_ fun σ hh ⟨eσ, eh⟩ => ?_)
  · kst_all1
    exact ⟨rfl, rfl⟩
  subst eσ
  have g0 : Gr h hh := by rw [eh]; exact Gr.app _ _
  have d0 : hh[h.length]? = some (.dic []) := by rw [eh]; exact get_new
  clear eh
  refine ws_mid (fun σ hh => ∃ a b c kvs, σ = [some (.tup (bm.map mkD)), some (.tup (lm.map mkD)), some (.ref h.length), a, b, c] ∧ Gr h hh ∧ hh[h.length]? = some (.dic kvs) ∧ DM (mtAll (bm ++ lm) bm.length) kvs) ?_ fun σ hh ⟨a, b, c, kvs, eσ, g1, d1, dm⟩ => ?_
  · refine ws_forT [((0 : Nat), bm), (bm.length, lm)] (fun p => D.tup [.int (p.1 : Int), .tup (p.2.map mkD)]) (fun done σ hh => ∃ a b c kvs, σ = [some (.tup (bm.map mkD)), some (.tup (lm.map mkD)), some (.ref h.length), a, b, c] ∧ Gr h hh ∧ hh[h.length]? = some (.dic kvs) ∧ DM (done.foldl (fun mt p => mrange (bm ++ lm) mt p.1 p.2.length) (fun _ => none)) kvs ∧ kvs.length ≤ done.length * 1000) ?_ (fun done p r σ hh ed ⟨a, b, c, kvs, eσ, g1, d1, dm, ln⟩ => ?_) fun σ hh ⟨a, b, c, kvs, eσ, g1, d1, dm, _⟩ => ⟨a, b, c, kvs, eσ, g1, d1, by rw [hall]; exact dm⟩
    · kst_all1
      refine ⟨?_, fun _ _ _ _ => Chk.nil, none, none, none, [], rfl, g0, d0, ⟨fun _ => rfl⟩, by simp⟩
      rw [List.length_map]
      rfl
    · subst eσ
      have mp : p ∈ [((0 : Nat), bm), (bm.length, lm)] := by rw [ed]; simp
      have l2 : done.length ≤ 1 := by have := congrArg List.length ed; simp at this; omega
      have gp : (∀ m ∈ p.2, GoodM m) ∧ p.2.length ≤ 1000 ∧ ∀ k, k < p.2.length → (bm ++ lm).getD (p.1 + k) ("", "") = p.2.getD k ("", "") := by
        simp only [List.mem_cons, List.not_mem_nil, or_false] at mp
        rcases mp with e | e <;> subst e
        · refine ⟨gb, by show bm.length ≤ 1000; omega, fun k hk => ?_⟩
          have hk : k < bm.length := hk
          show (bm ++ lm).getD (0 + k) _ = bm.getD k _
          rw [Nat.zero_add, List.getD_eq_getElem?_getD, List.getD_eq_getElem?_getD, List.getElem?_append_left hk]
        · refine ⟨gl, by show lm.length ≤ 1000; omega, fun k hk => ?_⟩
          show (bm ++ lm).getD (bm.length + k) _ = lm.getD k _
          rw [List.getD_eq_getElem?_getD, List.getD_eq_getElem?_getD, List.getElem?_append_right (by omega), Nat.add_sub_cancel_left]
      obtain ⟨gpm, lpm, epm⟩ := gp
      obtain ⟨off, pm⟩ := p
      refine ⟨_, rfl, ?_⟩
      rw [List.foldl_append, List.foldl_cons, List.foldl_nil]
      generalize done.foldl (fun mt p => mrange (bm ++ lm) mt p.1 p.2.length) (fun _ => none) = mt at dm
      dsimp only at gpm lpm epm
      refine ws_mid (fun σ h2 => σ = [some (.tup (bm.map mkD)), some (.tup (lm.map mkD)), some (.ref h.length), some (.tup [.int (off : Int), .tup (pm.map mkD)]), some (.ref hh.length), c] ∧ h2 = hh ++ [.lst []]) ?_ fun σ h2 ⟨eσ, e2⟩ => ?_
      · kst_all1
        exact ⟨rfl, rfl⟩
      subst eσ
      have w2 : h2[hh.length]? = some (.lst []) := by rw [e2]; exact get_new
      have d2 : h2[h.length]? = some (.dic kvs) := by rw [e2]; exact (Gr.app _ _).get d1
      have g2 : Gr h h2 := by rw [e2]; exact g1.tr (Gr.app _ _)
      have hne : h.length < hh.length := lt_of_get d1
      clear e2
      refine wpS_imp (N := fun σ h3 => ∃ c kvs', σ = [some (.tup (bm.map mkD)), some (.tup (lm.map mkD)), some (.ref h.length), some (.tup [.int (off : Int), .tup (pm.map mkD)]), some (.ref hh.length), c] ∧ Gr h h3 ∧ h3[h.length]? = some (.dic kvs') ∧ DM (mrange (bm ++ lm) mt off pm.length) kvs' ∧ kvs'.length ≤ kvs.length + 1000) (R := fun _ _ => False) (B := fun _ _ => False) (C := fun _ _ => False) ?_ (fun σ h3 ⟨c, kvs', eσ, g3, d3, dm3, l3⟩ => ⟨_, _, _, kvs', eσ, g3, d3, dm3, by simp; omega⟩) (fun _ _ z => z.elim) (fun _ _ z => z.elim) (fun _ _ z => z.elim)
      have em : mrange (bm ++ lm) mt off pm.length = ((List.range pm.length).foldl (fun s k => mstep (bm ++ lm) s (off + k)) ⟨[], mt⟩).mt := by
        unfold mrange
        rw [range'_map, List.foldl_map]
      rw [em]
      refine ws_forT (List.range pm.length) (fun (k : Nat) => D.int (k : Int)) (fun dn σ h3 => ∃ c kvs', σ = [some (.tup (bm.map mkD)), some (.tup (lm.map mkD)), some (.ref h.length), some (.tup [.int (off : Int), .tup (pm.map mkD)]), some (.ref hh.length), c] ∧ Gr h h3 ∧ h3[h.length]? = some (.dic kvs') ∧ DM (dn.foldl (fun s k => mstep (bm ++ lm) s (off + k)) ⟨[], mt⟩).mt kvs' ∧ kvs'.length ≤ kvs.length + dn.length ∧ h3[hh.length]? = some (.lst ((dn.foldl (fun s k => mstep (bm ++ lm) s (off + k)) ⟨[], mt⟩).wait.map fun i => .int (i : Nat))) ∧ (dn.foldl (fun s k => mstep (bm ++ lm) s (off + k)) ⟨[], mt⟩).wait.length ≤ dn.length) (wi_rngN ?_) (fun dn k r' σ h3 ed' ⟨c, kvs', eσ, g3, d3, dm3, l3, w3, lw⟩ => ?_) fun σ h3 ⟨c, kvs', eσ, g3, d3, dm3, l3, _, _⟩ => ⟨c, kvs', eσ, g3, d3, dm3, by rw [List.length_range] at l3; omega⟩
      · kst_all1
        refine ⟨pm.length, by rw [List.length_map], by omega, rfl, fun _ _ _ _ => Chk.nil, c, kvs, rfl, g2, d2, dm, by simp, w2, by simp⟩
      · subst eσ
        have hk : k < pm.length := by
          have : k ∈ List.range pm.length := by rw [ed']; simp
          exact List.mem_range.mp this
        have ldn : dn.length < pm.length := by have := congrArg List.length ed'; simp at this; omega
        have ek := kind_pm epm hk
        refine ⟨_, rfl, ?_⟩
        rw [List.foldl_append, List.foldl_cons, List.foldl_nil]
        generalize dn.foldl (fun s k => mstep (bm ++ lm) s (off + k)) ⟨[], mt⟩ = s at dm3 w3 lw
        have nne : hh.length ≠ h.length := by omega
        -- first test: a call waits
        refine ws_mid (fun σ h4 => σ = [some (.tup (bm.map mkD)), some (.tup (lm.map mkD)), some (.ref h.length), some (.tup [.int (off : Int), .tup (pm.map mkD)]), some (.ref hh.length), some (.int (k : Int))] ∧ Gr h h4 ∧ h4[h.length]? = some (.dic kvs') ∧ h4[hh.length]? = some (.lst ((if kindAt (bm ++ lm) (off + k) = "call" then s.wait ++ [off + k] else s.wait).map fun i => .int (i : Nat)))) ?_ fun σ h4 ⟨eσ, g4, d4, w4⟩ => ?_
        · kst_all1
          refine wp_of (mark_at hk h3) ?_
          kst_all1
          refine kindP_w gpm hk CALL_pd ?_
          rw [ek]
          kst_all1
          refine br_d (fun c1 => ?_) (fun c1 => ?_)
          · kst_all1
            refine ⟨hh.length, _, rfl, w3, ?_⟩
            kst_all1
            refine ⟨_, w3, by rw [List.length_map]; show _ < 2 ^ 24; omega, rfl, g3.setN (by omega) _, set_ne d3 nne.symm, ?_⟩
            rw [set_at w3, if_pos c1]
            simp
          · kst_all1
            refine ⟨rfl, g3, d3, ?_⟩
            rw [w3, if_neg c1]
        · subst eσ
          kst_all1
          refine wp_of (mark_at hk h4) ?_
          kst_all1
          refine kindP_w gpm hk BACK_pd ?_
          rw [ek]
          kst_all1
          refine br_d (fun c2 => ?_) (fun c2 => ?_)
          · have c1 : kindAt (bm ++ lm) (off + k) ≠ "call" := by rw [c2]; decide
            rw [if_neg c1] at w4
            kst_all1
            refine wp_of (len_lst w4) ?_
            kst_all1
            by_cases c3 : s.wait = []
            · have em : mstep (bm ++ lm) s (off + k) = s := by
                unfold mstep
                rw [if_neg c1, if_neg (fun z => z.2 c3)]
              rw [em]
              refine br_F (by rw [c3]; rfl) ?_
              kst_all1
              exact ⟨_, kvs', rfl, g4, d4, dm3, by simp; omega, w4, by simp; omega⟩
            · have em : mstep (bm ++ lm) s (off + k) = ⟨s.wait.dropLast, updM s.mt (s.wait.getLastD 0) (off + k)⟩ := by
                unfold mstep
                rw [if_neg c1, if_pos ⟨c2, c3⟩]
              rw [em]
              have el : s.wait = s.wait.dropLast ++ [s.wait.getLastD 0] := by
                rw [List.getLastD_eq_getLast?, List.getLast?_eq_getLast c3]
                exact (List.dropLast_concat_getLast c3).symm
              have w4' : h4[hh.length]? = some (.lst ((s.wait.dropLast.map fun i => .int (i : Nat)) ++ [.int ((s.wait.getLastD 0 : Nat) : Int)])) := by
                rw [w4]
                conv => lhs; rw [el]
                simp
              refine br_T (by rw [List.length_map]; have := List.length_pos_iff.mpr c3; simp; omega) ?_
              kst_all1
              refine ⟨hh.length, _, _, rfl, w4', ?_⟩
              refine ⟨_, store_dic (set_ne d4 nne.symm) rfl (by omega), _, _, rfl, (g4.setN (by omega) _).setN (Nat.le_refl _) _, set_at (set_ne d4 nne.symm), dm3.put _ _, ?_, set_ne (set_at w4) nne, by simp; omega⟩
              have := put_len kvs' (.int ((s.wait.getLastD 0 : Nat) : Int)) (.int ((off + k : Nat) : Int))
              simp
              simp at this
              omega
          · kst_all1
            have em : mstep (bm ++ lm) s (off + k) = ⟨if kindAt (bm ++ lm) (off + k) = "call" then s.wait ++ [off + k] else s.wait, s.mt⟩ := by
              unfold mstep
              by_cases c1 : kindAt (bm ++ lm) (off + k) = "call"
              · rw [if_pos c1, if_pos c1]
              · rw [if_neg c1, if_neg c1, if_neg (fun z => c2 z.1)]
            rw [em]
            refine ⟨_, kvs', rfl, g4, d4, dm3, by simp; omega, w4, ?_⟩
            show (if kindAt (bm ++ lm) (off + k) = "call" then s.wait ++ [off + k] else s.wait).length ≤ _
            split <;> simp <;> omega
  · subst eσ
    kst_all1
    exact ⟨g1, _, _, rfl, Nat.le_refl _, d1, dm⟩
end
end K12

end
section
open PySem L2 ML
local macro_rules | `(tactic| kst_all1) => `(tactic| (repeat (first | ((with_reducible apply wp_gv); rfl) | (with_reducible refine wp_met2T ?_) | (with_reducible refine wp_dcT ?_) | (with_reducible refine ws_lockSA ?_) | (with_reducible refine wp_popI ?_) | (with_reducible refine wl_lisT ?_) | (with_reducible refine wl_valT ?_) | (with_reducible refine wi_tkey ?_) | (with_reducible refine to_all ?_) | (with_reducible refine to_any ?_) | (with_reducible refine ws_seq ?_) | (with_reducible refine ws_set ?_) | (with_reducible refine ws_par ?_) | (with_reducible refine ws_expr ?_) | (with_reducible refine ws_ret ?_) | (with_reducible refine ws_if ?_) | (with_reducible refine ws_asg ?_) | (with_reducible refine ws_sub ?_) | (with_reducible refine ws_subT ?_) | (with_reducible refine ws_fldS ?_) | (with_reducible refine ws_skip ?_) | (with_reducible refine ws_brk ?_) | (with_reducible refine ws_ct ?_) | (with_reducible refine ws_retN ?_) | (with_reducible refine ws_lockS ?_) | (with_reducible refine wp_run ?_) | (with_reducible refine wp_cM ?_) | (with_reducible refine wp_fld ?_) | (with_reducible refine wp_op2 ?_) | (with_reducible refine wp_op1 ?_) | (with_reducible refine wp_call ?_) | (with_reducible refine wp_meth ?_) | (with_reducible refine wp_make ?_) | (with_reducible refine wp_new ?_) | (with_reducible refine wp_tup ?_) | (with_reducible refine wp_newK ?_) | (with_reducible refine wp_newT ?_) | (with_reducible refine wp_ifE ?_) | (with_reducible refine wp_notV ?_) | (with_reducible refine wp_andV ?_) | (with_reducible refine wp_orV ?_) | (with_reducible refine wp_met2D ?_) | (with_reducible refine wp_app ?_) | (with_reducible refine wp_ext ?_) | (with_reducible refine wx_exu ?_) | (with_reducible refine wp_pop ?_) | (with_reducible refine wp_slice ?_) | (with_reducible refine wo_no ?_) | (with_reducible refine wo_some ?_) | (with_reducible refine ch_of ?_) | (with_reducible refine wl_slice ?_) | (with_reducible refine wp_bc ?_) | (with_reducible refine wp_disp ?_) | (with_reducible refine wq_cons ?_) | (with_reducible refine wq_nil ?_) | (with_reducible refine wp_lockM ?_) | (with_reducible refine wt_tv ?_) | (with_reducible refine wt_and ?_) | (with_reducible refine wt_or ?_) | (with_reducible refine wt_not ?_) | (with_reducible refine wt_tr ?_) | (with_reducible refine wt_yes ?_) | (with_reducible refine wl_nil ?_) | (with_reducible refine wl_cons ?_) | (with_reducible refine wl_lst ?_) | (with_reducible refine wl_lis ?_) | (with_reducible refine wi_lst ?_) | (with_reducible refine wi_rng ?_) | (with_reducible refine wl_listT ?_) | (with_reducible refine wp_met1D ?_) | (with_reducible refine wl_lisR2 ?_) | (with_reducible refine wl_lisR1 ?_) | (with_reducible refine wp_eqI ?_) | (with_reducible refine wp_neI ?_) | (with_reducible refine wp_ltI ?_) | (with_reducible refine wp_cmpI ?_) | (with_reducible refine wp_addI ?_) | (with_reducible refine wp_subI ?_) | (with_reducible refine wp_negI ?_) | (with_reducible refine wp_isN0 ?_) | (with_reducible refine wp_isNI ?_) | (with_reducible refine wp_isNS ?_) | (with_reducible refine wp_isNT ?_) | (with_reducible refine wp_isNR ?_) | (with_reducible refine wp_ntN0 ?_) | (with_reducible refine wp_ntNI ?_) | (with_reducible refine wp_ntNS ?_) | (with_reducible refine wp_ntNT ?_) | (with_reducible refine wp_ntNR ?_) | (with_reducible refine wp_lenT ?_) | (with_reducible refine wp_ix0 ?_) | (with_reducible refine wp_ix1 ?_) | (with_reducible refine wp_ix2 ?_) | (with_reducible refine wp_ix3 ?_) | (with_reducible refine wp_ix4 ?_) | (with_reducible refine wp_max ?_) | (with_reducible refine wp_min ?_) | (with_reducible refine wp_intD ?_) | (with_reducible refine wp_intB ?_) | (with_reducible refine wt_trN ?_) | (with_reducible refine wt_trB ?_) | (with_reducible refine wt_trI ?_) | (with_reducible refine wt_trT ?_) | (with_reducible refine wp_isi ?_) | (with_reducible refine is_ss ?_) | (with_reducible refine is_st ?_) | (with_reducible refine is_si ?_) | (with_reducible refine is_ts ?_) | (with_reducible refine is_tt ?_) | (with_reducible refine is_ti ?_) | (with_reducible refine is_is ?_) | (with_reducible refine is_it ?_) | (with_reducible refine is_ii ?_) | (with_reducible refine is_ib ?_) | (with_reducible refine is_bb ?_) | (with_reducible refine is_bi ?_) | (with_reducible refine is_bs ?_) | (with_reducible refine is_bt ?_) | (with_reducible refine is_ns ?_) | (with_reducible refine is_nt ?_) | (with_reducible refine is_ni ?_) | (with_reducible refine is_nb ?_) | (with_reducible refine ex_bl ?_) | (with_reducible refine ex_int ?_) | (with_reducible refine br_t ?_) | (with_reducible refine br_f ?_) | (with_reducible refine br_nt ?_) | (with_reducible refine br_nf ?_) | (refine fits (by simp) ?_) | (refine br_T (by rfl) ?_) | (refine br_F (by rfl) ?_) | (with_reducible refine we_lit (by decide +kernel) (by decide +kernel) ?_) | (with_reducible refine wn_lit (by decide +kernel) (by decide +kernel) ?_) | (with_reducible refine wi_litT (by decide +kernel) (by decide +kernel) ?_) | (with_reducible refine wni_litT (by decide +kernel) (by decide +kernel) ?_) | (with_reducible refine wi_litN (by decide +kernel) (by decide +kernel) ?_) | (with_reducible refine wni_litN (by decide +kernel) (by decide +kernel) ?_) | (refine br_T (by decide +kernel) ?_) | (refine br_F (by decide +kernel) ?_))))
set_option Elab.async false
set_option linter.all false
set_option maxRecDepth 100000
set_option autoImplicit false
/-! ### k12: the law's truths, read -/
namespace K12
open PySem L2 ML
structure WI (ah : Nat → Option Nat) (f g : Nat → Bool) (n i a k : Nat) : Prop where
  lt : a < n
  eq : Un ah f g i ↔ Un ah f g a
  ex : ∃ L : List Nat, (∀ q ∈ L, q < n ∧ g q = false ∧ ∃ j, ah q = some j ∧ (j ∈ L ∨ j = a)) ∧ ((L.Nodup ∧ a ∉ L ∧ L.length = k) ∨ a ∈ L)
section
variable {ah : Nat → Option Nat} {f g : Nat → Bool} {n i a k : Nat}
theorem WI.start (h : i < n) : WI ah f g n i i 0 := ⟨h, Iff.rfl, [], (fun _ z => by cases z), .inl ⟨List.nodup_nil, List.not_mem_nil, rfl⟩⟩
theorem closed_no {L : List Nat} (hL : ∀ q ∈ L, q < n ∧ g q = false ∧ ∃ j, ah q = some j ∧ (j ∈ L ∨ j = a)) (m : a ∈ L) : ¬ Un ah f g a := fun u => no_un (fun q mq => (hL q mq).2.1) (fun q mq j e => by
  obtain ⟨_, _, j', e', z⟩ := hL q mq
  rw [e] at e'
  cases e'
  rcases z with z | z
  · exact z
  · rw [z]; exact m) a u m
theorem WI.yes (w : WI ah f g n i a k) (h : g a = true) : unB ah f g i = true := unB_true.mpr (w.eq.mpr (.here h))
theorem WI.no (w : WI ah f g n i a k) (h : g a = false) (h2 : f a = false ∨ ah a = none) : unB ah f g i = false := unB_false.mpr fun u => by
  rcases (w.eq.mp u).cases_on' with z | ⟨z, j, e, _⟩
  · rw [h] at z; cases z
  · rcases h2 with h2 | h2
    · rw [h2] at z; cases z
    · rw [h2] at e; cases e
theorem WI.step (w : WI ah f g n i a k) (hg : g a = false) (hf : f a = true) {j : Nat} (e : ah a = some j) (hj : j < n) : WI ah f g n i j (k + 1) := by
  obtain ⟨lt, eq, L, hL, alt⟩ := w
  have ej : Un ah f g a ↔ Un ah f g j := ⟨fun u => by
    rcases u.cases_on' with z | ⟨_, j', e', u'⟩
    · rw [hg] at z; cases z
    · rw [e] at e'; cases e'; exact u', fun u => .go hf e u⟩
  refine ⟨hj, eq.trans ej, ?_⟩
  rcases alt with ⟨nd, na, ll⟩ | ma
  · have hL' : ∀ q ∈ L ++ [a], q < n ∧ g q = false ∧ ∃ j', ah q = some j' ∧ (j' ∈ L ++ [a] ∨ j' = j) := fun q mq => by
      rcases List.mem_append.mp mq with m | m
      · obtain ⟨x1, x2, j', x3, x4⟩ := hL q m
        refine ⟨x1, x2, j', x3, .inl ?_⟩
        rcases x4 with z | z
        · exact List.mem_append_left _ z
        · rw [z]; simp
      · rw [List.mem_singleton.mp m]
        exact ⟨lt, hg, j, e, .inr rfl⟩
    refine ⟨L ++ [a], hL', ?_⟩
    by_cases c : j ∈ L ++ [a]
    · exact .inr c
    · refine .inl ⟨?_, c, by simp [ll]⟩
      rw [List.nodup_append]
      exact ⟨nd, by simp, fun x m y my => by rw [List.mem_singleton.mp my]; exact fun z => na (z ▸ m)⟩
  · obtain ⟨_, _, j', x3, x4⟩ := hL a ma
    rw [e] at x3
    cases x3
    have mj : j ∈ L := by
      rcases x4 with z | z
      · exact z
      · rw [z]; exact ma
    refine ⟨L, fun q mq => ?_, .inr mj⟩
    obtain ⟨x1, x2, j'', x3, x4⟩ := hL q mq
    refine ⟨x1, x2, j'', x3, .inl ?_⟩
    rcases x4 with z | z
    · exact z
    · rw [z]; exact ma
theorem WI.fin (w : WI ah f g n i a (n + 1)) : unB ah f g i = false := unB_false.mpr fun u => by
  obtain ⟨lt, eq, L, hL, alt⟩ := w
  rcases alt with ⟨nd, na, ll⟩ | ma
  · have := nodup_le nd (m := List.range n) fun q mq => List.mem_range.mpr (hL q mq).1
    rw [List.length_range] at this
    omega
  · exact closed_no hL ma (eq.mp u)
end
section
variable {ms : List Mark} {b : Nat} {h : Hm}
theorem lbehind_w {bm : List Mark} {jm : Nat} (ej : h[jm]? = some (.lst (ms.map mkD))) (i : Nat) : wp (F__law_behind [.ref jm, .tup (bm.map mkD), .int (i : Int)] h) fun r h1 => h1 = h ∧ r = .int (beh ms bm.length i : Int) := by
  unfold F__law_behind
  kst_all1
  refine wp_of (len_lst ej) ?_
  rw [List.length_map]
  kst_all1
  refine br_d (fun c => ?_) (fun c => ?_)
  · kst_all1
    refine ⟨rfl, ?_⟩
    unfold beh
    rw [if_pos (by omega)]
    rfl
  · kst_all1
    refine ⟨rfl, ?_⟩
    unfold beh
    rw [if_neg (by omega), List.length_map]
theorem lmark_at {jm i : Nat} (ej : h[jm]? = some (.lst (ms.map mkD))) (hi : i < ms.length) : ixD (.ref jm) (.int (i : Int)) h = some (mkD (ms.getD i ("", "")), h) := ix_lst ej (by omega) (by rw [Int.toNat_natCast]; exact mk_get hi)
theorem lacross_w {bm : List Mark} {jm kd : Nat} {kvs : List (D × D)} (ej : h[jm]? = some (.lst (ms.map mkD))) (ek : h[kd]? = some (.dic kvs)) (dm : DM (mtAll ms bm.length) kvs) (gm : ∀ m ∈ ms, GoodM m) (hb : bm.length < ms.length) {i : Nat} (hi : i < ms.length) : wp (F__law_across [.ref jm, .tup (bm.map mkD), .ref kd, .int (i : Int)] h) fun r h1 => h1 = h ∧ r = oD (acr ms bm.length (mtAll ms bm.length) i) := by
  unfold F__law_across
  kst_all1
  refine wp_of (lmark_at ej hi) ?_
  kst_all1
  refine kind_w gm hi CALL_pd ?_
  kst_all1
  refine br_d (fun c => ?_) (fun c => ?_)
  · kst_all1
    refine ⟨kd, rfl, ⟨kvs, .inl ek⟩, ?_⟩
    kst_all1
    refine wp_get2 ek rfl ⟨rfl, ?_⟩
    rw [dm.get i]
    unfold acr
    cases q : mtAll ms bm.length i with
    | none =>
      show D.non = oD (plain ms bm.length i)
      unfold plain
      rw [if_pos (.inl c)]
      rfl
    | some j => rfl
  · kst_all1
    refine ⟨rfl, wp_imp (lbehind_w (bm := bm) ej i) fun r h1 ⟨e1, er⟩ => ?_⟩
    subst e1 er
    have mn : mtAll ms bm.length i = none := by
      cases q : mtAll ms bm.length i with
      | none => rfl
      | some j => exact absurd (mtAll_ok (Nat.le_of_lt hb) i j q).1 c
    have ea : acr ms bm.length (mtAll ms bm.length) i = plain ms bm.length i := by unfold acr; rw [mn]
    rw [ea]
    kst_all1
    refine wp_of (lmark_at ej (beh_lt hb i)) ?_
    kst_all1
    refine kind_w gm (beh_lt hb i) BACK_pd ?_
    kst_all1
    refine br_d (fun c2 => ?_) (fun c2 => ?_)
    · kst_all1
      refine ⟨rfl, ?_⟩
      unfold plain
      rw [if_pos (.inr c2)]
      rfl
    · kst_all1
      refine ⟨rfl, ?_⟩
      unfold plain
      rw [if_neg (by rintro (z | z); exact c z; exact c2 z)]
      rfl
end
end K12

end
section
open PySem L2 ML
local macro_rules | `(tactic| kst_all1) => `(tactic| (repeat (first | ((with_reducible apply wp_gv); rfl) | (with_reducible refine wp_met2T ?_) | (with_reducible refine wp_dcT ?_) | (with_reducible refine ws_lockSA ?_) | (with_reducible refine wp_popI ?_) | (with_reducible refine wl_lisT ?_) | (with_reducible refine wl_valT ?_) | (with_reducible refine wi_tkey ?_) | (with_reducible refine to_all ?_) | (with_reducible refine to_any ?_) | (with_reducible refine ws_seq ?_) | (with_reducible refine ws_set ?_) | (with_reducible refine ws_par ?_) | (with_reducible refine ws_expr ?_) | (with_reducible refine ws_ret ?_) | (with_reducible refine ws_if ?_) | (with_reducible refine ws_asg ?_) | (with_reducible refine ws_sub ?_) | (with_reducible refine ws_subT ?_) | (with_reducible refine ws_fldS ?_) | (with_reducible refine ws_skip ?_) | (with_reducible refine ws_brk ?_) | (with_reducible refine ws_ct ?_) | (with_reducible refine ws_retN ?_) | (with_reducible refine ws_lockS ?_) | (with_reducible refine wp_run ?_) | (with_reducible refine wp_cM ?_) | (with_reducible refine wp_fld ?_) | (with_reducible refine wp_op2 ?_) | (with_reducible refine wp_op1 ?_) | (with_reducible refine wp_call ?_) | (with_reducible refine wp_meth ?_) | (with_reducible refine wp_make ?_) | (with_reducible refine wp_new ?_) | (with_reducible refine wp_tup ?_) | (with_reducible refine wp_newK ?_) | (with_reducible refine wp_newT ?_) | (with_reducible refine wp_ifE ?_) | (with_reducible refine wp_notV ?_) | (with_reducible refine wp_andV ?_) | (with_reducible refine wp_orV ?_) | (with_reducible refine wp_met2D ?_) | (with_reducible refine wp_app ?_) | (with_reducible refine wp_ext ?_) | (with_reducible refine wx_exu ?_) | (with_reducible refine wp_pop ?_) | (with_reducible refine wp_slice ?_) | (with_reducible refine wo_no ?_) | (with_reducible refine wo_some ?_) | (with_reducible refine ch_of ?_) | (with_reducible refine wl_slice ?_) | (with_reducible refine wp_bc ?_) | (with_reducible refine wp_disp ?_) | (with_reducible refine wq_cons ?_) | (with_reducible refine wq_nil ?_) | (with_reducible refine wp_lockM ?_) | (with_reducible refine wt_tv ?_) | (with_reducible refine wt_and ?_) | (with_reducible refine wt_or ?_) | (with_reducible refine wt_not ?_) | (with_reducible refine wt_tr ?_) | (with_reducible refine wt_yes ?_) | (with_reducible refine wl_nil ?_) | (with_reducible refine wl_cons ?_) | (with_reducible refine wl_lst ?_) | (with_reducible refine wl_lis ?_) | (with_reducible refine wi_lst ?_) | (with_reducible refine wi_rng ?_) | (with_reducible refine wl_listT ?_) | (with_reducible refine wp_met1D ?_) | (with_reducible refine wl_lisR2 ?_) | (with_reducible refine wl_lisR1 ?_) | (with_reducible refine wp_eqI ?_) | (with_reducible refine wp_neI ?_) | (with_reducible refine wp_ltI ?_) | (with_reducible refine wp_cmpI ?_) | (with_reducible refine wp_addI ?_) | (with_reducible refine wp_subI ?_) | (with_reducible refine wp_negI ?_) | (with_reducible refine wp_isN0 ?_) | (with_reducible refine wp_isNI ?_) | (with_reducible refine wp_isNS ?_) | (with_reducible refine wp_isNT ?_) | (with_reducible refine wp_isNR ?_) | (with_reducible refine wp_ntN0 ?_) | (with_reducible refine wp_ntNI ?_) | (with_reducible refine wp_ntNS ?_) | (with_reducible refine wp_ntNT ?_) | (with_reducible refine wp_ntNR ?_) | (with_reducible refine wp_lenT ?_) | (with_reducible refine wp_ix0 ?_) | (with_reducible refine wp_ix1 ?_) | (with_reducible refine wp_ix2 ?_) | (with_reducible refine wp_ix3 ?_) | (with_reducible refine wp_ix4 ?_) | (with_reducible refine wp_max ?_) | (with_reducible refine wp_min ?_) | (with_reducible refine wp_intD ?_) | (with_reducible refine wp_intB ?_) | (with_reducible refine wt_trN ?_) | (with_reducible refine wt_trB ?_) | (with_reducible refine wt_trI ?_) | (with_reducible refine wt_trT ?_) | (with_reducible refine wp_isi ?_) | (with_reducible refine is_ss ?_) | (with_reducible refine is_st ?_) | (with_reducible refine is_si ?_) | (with_reducible refine is_ts ?_) | (with_reducible refine is_tt ?_) | (with_reducible refine is_ti ?_) | (with_reducible refine is_is ?_) | (with_reducible refine is_it ?_) | (with_reducible refine is_ii ?_) | (with_reducible refine is_ib ?_) | (with_reducible refine is_bb ?_) | (with_reducible refine is_bi ?_) | (with_reducible refine is_bs ?_) | (with_reducible refine is_bt ?_) | (with_reducible refine is_ns ?_) | (with_reducible refine is_nt ?_) | (with_reducible refine is_ni ?_) | (with_reducible refine is_nb ?_) | (with_reducible refine ex_bl ?_) | (with_reducible refine ex_int ?_) | (with_reducible refine br_t ?_) | (with_reducible refine br_f ?_) | (with_reducible refine br_nt ?_) | (with_reducible refine br_nf ?_) | (refine fits (by simp) ?_) | (refine br_T (by rfl) ?_) | (refine br_F (by rfl) ?_) | (with_reducible refine we_lit (by decide +kernel) (by decide +kernel) ?_) | (with_reducible refine wn_lit (by decide +kernel) (by decide +kernel) ?_) | (with_reducible refine wi_litT (by decide +kernel) (by decide +kernel) ?_) | (with_reducible refine wni_litT (by decide +kernel) (by decide +kernel) ?_) | (with_reducible refine wi_litN (by decide +kernel) (by decide +kernel) ?_) | (with_reducible refine wni_litN (by decide +kernel) (by decide +kernel) ?_) | (refine br_T (by decide +kernel) ?_) | (refine br_F (by decide +kernel) ?_))))
set_option Elab.async false
set_option linter.all false
set_option maxRecDepth 100000
set_option autoImplicit false
/-! ### k12: the law's loop over the steps, read -/
namespace K12
open PySem L2 ML
noncomputable def turnS : Sm → M Fl := (seqS (setS 11 (callM F__law_behind 3 (consA (gv 3) (consA (gv 1) (consA (gv 8) nilA)))))
    (seqS (ifS (tvM (op2M (inD false) (op2M ixD (gv 0) (cM (.int 0))) (newM (lstM (consA (cM (.str "over")) (consA (cM (.str "across")) nilA)))))) (setS 11 (callM F__law_across 4 (consA (gv 3) (consA (gv 1) (consA (gv 4) (consA (gv 8) nilA)))))) skipS)
    (seqS (ifS (tvM (op2M (inD false) (op2M ixD (gv 0) (cM (.int 0))) (newM (lstM (consA (cM (.str "next")) (consA (cM (.str "over")) nilA)))))) (seqS (setS 9 (andV (op2M notND' (gv 11) (cM .non)) (op2M ixD (op2M ixD (gv 5) (cM (.int 0))) (gv 11))))
    brkS) skipS)
    (seqS (ifS (trT (op2M ixD (op2M ixD (gv 5) (cM (.int 1))) (gv 8))) (seqS (setS 9 (cM (.bl true)))
    brkS) skipS)
    (seqS (ifS (orT (notT (trT (op2M ixD (op2M ixD (gv 5) (cM (.int 0))) (gv 8)))) (tvM (op2M isND' (gv 11) (cM .non)))) brkS skipS)
    (setS 8 (gv 11)))))))
noncomputable def innerS : Sm → M Fl := (seqS (forS (itR1 (consA (op2M addD (bcM lenD (consA (gv 3) nilA)) (cM (.int 1))) nilA)) (nameG 10) turnS)
    (exprS (metL appL (gv 6) (consA (gv 9) nilA))))
noncomputable def loopS : Sm → M Fl := (seqS (forS (itR1 (consA (bcM lenD (consA (gv 3) nilA)) nilA)) (nameG 7) (seqS (setS 8 (gv 7))
    (seqS (setS 9 (cM (.bl false)))
    innerS)))
    (retS (gv 6)))
abbrev SL (P bD lD : D) (jm kd jp jf : Nat) (a7 a8 a9 a10 a11 : Option D) : Sm := [some P, some bD, some lD, some (.ref jm), some (.ref kd), some (.ref jp), some (.ref jf), a7, a8, a9, a10, a11, none, none]
section
variable {ms bm lm : List Mark} {hB hh : Hm} {jm kd jp jf : Nat} {kvs : List (D × D)} {w : Str} {ps : List D}
/-- what stands ahead of the loop -/
structure LE (ms bm : List Mark) (jm kd : Nat) (kvs : List (D × D)) (hB : Hm) : Prop where
  em : hB[jm]? = some (.lst (ms.map mkD))
  ed : hB[kd]? = some (.dic kvs)
  dm : DM (mtAll ms bm.length) kvs
  gm : ∀ m ∈ ms, GoodM m
  hb : bm.length < ms.length
  hn : ms.length ≤ 1000
def W4 (w : Str) : Prop := w = "next" ∨ w = "over" ∨ w = "until" ∨ w = "across"
theorem after_w (E : LE ms bm jm kd kvs hB) (hw : W4 w) (g : Gr hB hh) {a : Nat} (ha : a < ms.length) {a7 a9 a10 a11 : Option D} {t : Sm → M Fl} {N B C : Sm → Hm → Prop} {R : D → Hm → Prop}
    (k : ∀ h', Gr hB h' → wpS (t (SL (.tup (.str w :: ps)) (.tup (bm.map mkD)) (.tup (lm.map mkD)) jm kd jp jf a7 (some (.int (a : Int))) a9 a10 (some (oD (ahd ms bm.length w a)))) h') N R B C) :
    wpS (seqS (setS 11 (callM F__law_behind 3 (consA (gv 3) (consA (gv 1) (consA (gv 8) nilA)))))
    (seqS (ifS (tvM (op2M (inD false) (op2M ixD (gv 0) (cM (.int 0))) (newM (lstM (consA (cM (.str "over")) (consA (cM (.str "across")) nilA)))))) (setS 11 (callM F__law_across 4 (consA (gv 3) (consA (gv 1) (consA (gv 4) (consA (gv 8) nilA)))))) skipS) t) (SL (.tup (.str w :: ps)) (.tup (bm.map mkD)) (.tup (lm.map mkD)) jm kd jp jf a7 (some (.int (a : Int))) a9 a10 a11) hh) N R B C := by
  refine ws_mid (fun σ h' => σ = SL (.tup (.str w :: ps)) (.tup (bm.map mkD)) (.tup (lm.map mkD)) jm kd jp jf a7 (some (.int (a : Int))) a9 a10 (some (.int (beh ms bm.length a : Int))) ∧ h' = hh) ?_ fun σ h' ⟨eσ, eh⟩ => ?_
  · kst_all1
    refine ⟨rfl, wp_imp (lbehind_w (bm := bm) (g.get E.em) a) fun r h1 ⟨e1, er⟩ => ⟨?_, e1⟩⟩
    rw [er]
    rfl
  subst eσ eh
  have over : (w = "over" ∨ w = "across") → wp (F__law_across [.ref jm, .tup (bm.map mkD), .ref kd, .int (a : Int)] (h' ++ [.lst [.str "over", .str "across"]])) fun d h1 => wpS (t (SL (.tup (.str w :: ps)) (.tup (bm.map mkD)) (.tup (lm.map mkD)) jm kd jp jf a7 (some (.int (a : Int))) a9 a10 (some d)) h1) N R B C := fun z =>
    wp_imp (lacross_w ((g.tr (Gr.app _ _)).get E.em) ((g.tr (Gr.app _ _)).get E.ed) E.dm E.gm E.hb ha) fun r h1 ⟨e1, er⟩ => by
      subst e1 er
      rw [← ahd_acr z]
      exact k _ (g.tr (Gr.app _ _))
  have plain : ¬ (w = "over" ∨ w = "across") → wpS (t (SL (.tup (.str w :: ps)) (.tup (bm.map mkD)) (.tup (lm.map mkD)) jm kd jp jf a7 (some (.int (a : Int))) a9 a10 (some (.int (beh ms bm.length a : Int)))) (h' ++ [.lst [.str "over", .str "across"]])) N R B C := fun z => by
    have := k (h' ++ [.lst [.str "over", .str "across"]]) (g.tr (Gr.app _ _))
    rw [ahd_beh z] at this
    exact this
  rcases hw with rfl | rfl | rfl | rfl
  · refine ws_seq ?_
    kst_all1
    exact plain (by decide)
  · refine ws_seq ?_
    kst_all1
    exact ⟨rfl, over (.inl rfl)⟩
  · refine ws_seq ?_
    kst_all1
    exact plain (by decide)
  · refine ws_seq ?_
    kst_all1
    exact ⟨rfl, over (.inr rfl)⟩
theorem ahd_lt' {ms bm : List Mark} (hb : bm.length < ms.length) {w : Str} {a t : Nat} (e : ahd ms bm.length w a = some t) : t < ms.length := ahd_lt hb e
/-- next, over: one turn -/
theorem near_w (E : LE ms bm jm kd kvs hB) (hw : w = "next" ∨ w = "over") {j1 : Nat} {rest : List D} {T : Nat → Bool} (ep : hB[jp]? = some (.lst (.ref j1 :: rest))) (e1 : hB[j1]? = some (bls ms.length T)) (g : Gr hB hh) {a : Nat} (ha : a < ms.length) {a7 a9 a10 a11 : Option D} {N B C : Sm → Hm → Prop} {R : D → Hm → Prop}
    (k : ∀ x h', Gr hB h' → B (SL (.tup (.str w :: ps)) (.tup (bm.map mkD)) (.tup (lm.map mkD)) jm kd jp jf a7 (some (.int (a : Int))) (some (.bl (match ahd ms bm.length w a with | some j => T j | none => false))) a10 x) h') :
    wpS (turnS (SL (.tup (.str w :: ps)) (.tup (bm.map mkD)) (.tup (lm.map mkD)) jm kd jp jf a7 (some (.int (a : Int))) a9 a10 a11) hh) N R B C := by
  unfold turnS
  refine after_w E (by rcases hw with z | z; exact .inl z; exact .inr (.inl z)) g ha fun h' g' => ?_
  have fin : ∀ (N' : Sm → Hm → Prop) h', Gr hB h' → wpS (seqS (setS 9 (andV (op2M notND' (gv 11) (cM .non)) (op2M ixD (op2M ixD (gv 5) (cM (.int 0))) (gv 11)))) brkS (SL (.tup (.str w :: ps)) (.tup (bm.map mkD)) (.tup (lm.map mkD)) jm kd jp jf a7 (some (.int (a : Int))) a9 a10 (some (oD (ahd ms bm.length w a)))) h') N' R B C := fun N' h' g' => by
    cases q : ahd ms bm.length w a with
    | none =>
      rw [q] at k
      kst_all1
      refine wp_ntN0 ?_
      kst_all1
      exact k _ _ g'
    | some t =>
      rw [q] at k
      kst_all1
      refine wp_ntNI ?_
      kst_all1
      refine wp_of (ix_lst (g'.get ep) (by decide) rfl) ?_
      kst_all1
      refine wp_of (bls_at (g'.get e1) (ahd_lt' E.hb q)) ?_
      kst_all1
      exact k _ _ g'
  have fin' := fun N' => fin N' (h' ++ [.lst [.str "next", .str "over"]]) (g'.tr (Gr.app _ _))
  rcases hw with rfl | rfl
  · refine ws_seq (ws_if (wp_imp (Q := fun c h1 => c = true ∧ h1 = h' ++ [.lst [.str "next", .str "over"]]) ?_ fun c h1 ⟨ec, eh⟩ => ?_))
    · kst_all1
      exact ⟨rfl, rfl⟩
    · subst ec eh
      exact br_t (fin' _)
  · refine ws_seq (ws_if (wp_imp (Q := fun c h1 => c = true ∧ h1 = h' ++ [.lst [.str "next", .str "over"]]) ?_ fun c h1 ⟨ec, eh⟩ => ?_))
    · kst_all1
      exact ⟨rfl, rfl⟩
    · subst ec eh
      exact br_t (fin' _)
/-- until, across: one turn -/
theorem far_w (E : LE ms bm jm kd kvs hB) (hw : w = "until" ∨ w = "across") {j1 j2 : Nat} {T1 T2 : Nat → Bool} (ep : hB[jp]? = some (.lst [.ref j1, .ref j2])) (e1 : hB[j1]? = some (bls ms.length T1)) (e2 : hB[j2]? = some (bls ms.length T2)) (g : Gr hB hh) {a i m : Nat} (wi : WI (ahd ms bm.length w) T1 T2 ms.length i a m) {a7 a10 a11 : Option D} {N B C : Sm → Hm → Prop} {R : D → Hm → Prop}
    (kN : ∀ a' x h', Gr hB h' → WI (ahd ms bm.length w) T1 T2 ms.length i a' (m + 1) → N (SL (.tup (.str w :: ps)) (.tup (bm.map mkD)) (.tup (lm.map mkD)) jm kd jp jf a7 (some (.int (a' : Int))) (some (.bl false)) a10 x) h')
    (kB : ∀ x h', Gr hB h' → B (SL (.tup (.str w :: ps)) (.tup (bm.map mkD)) (.tup (lm.map mkD)) jm kd jp jf a7 (some (.int (a : Int))) (some (.bl (unB (ahd ms bm.length w) T1 T2 i))) a10 x) h') :
    wpS (turnS (SL (.tup (.str w :: ps)) (.tup (bm.map mkD)) (.tup (lm.map mkD)) jm kd jp jf a7 (some (.int (a : Int))) (some (.bl false)) a10 a11) hh) N R B C := by
  unfold turnS
  refine after_w E (by rcases hw with z | z; exact .inr (.inr (.inl z)); exact .inr (.inr (.inr z))) g wi.lt fun h' g' => ?_
  have no : wp (tvM (op2M (inD false) (op2M ixD (gv 0) (cM (.int 0))) (newM (lstM (consA (cM (.str "next")) (consA (cM (.str "over")) nilA))))) (SL (.tup (.str w :: ps)) (.tup (bm.map mkD)) (.tup (lm.map mkD)) jm kd jp jf a7 (some (.int (a : Int))) (some (.bl false)) a10 (some (oD (ahd ms bm.length w a)))) h') fun c h1 => c = false ∧ h1 = h' ++ [.lst [.str "next", .str "over"]] := by
    rcases hw with rfl | rfl
    · kst_all1
      exact ⟨rfl, rfl⟩
    · kst_all1
      exact ⟨rfl, rfl⟩
  refine ws_seq (ws_if (wp_imp no fun c h1 ⟨ec, eh⟩ => ?_))
  subst ec
  have g1 : Gr hB h1 := by rw [eh]; exact g'.tr (Gr.app _ _)
  clear eh
  refine br_f (ws_skip ?_)
  kst_all1
  refine wp_of (ix_lst (g1.get ep) (by decide) rfl) ?_
  kst_all1
  refine wp_of (bls_at (g1.get e2) wi.lt) ?_
  cases q2 : T2 a with
  | true =>
    kst_all1
    rw [wi.yes q2] at kB
    exact kB _ _ g1
  | false =>
    kst_all1
    refine wp_of (ix_lst (g1.get ep) (by decide) rfl) ?_
    kst_all1
    refine wp_of (bls_at (g1.get e1) wi.lt) ?_
    cases q1 : T1 a with
    | false =>
      kst_all1
      rw [wi.no q2 (.inl q1)] at kB
      exact kB _ _ g1
    | true =>
      cases qa : ahd ms bm.length w a with
      | none =>
        kst_all1
        refine wp_isN0 ?_
        kst_all1
        rw [wi.no q2 (.inr qa), qa] at *
        exact kB _ _ g1
      | some t =>
        kst_all1
        refine wp_isNI ?_
        kst_all1
        exact kN t _ _ g1 (wi.step q2 q1 qa (ahd_lt' E.hb qa))
end
end K12

end
section
open PySem L2 ML
local macro_rules | `(tactic| kst_all1) => `(tactic| (repeat (first | ((with_reducible apply wp_gv); rfl) | (with_reducible refine wp_met2T ?_) | (with_reducible refine wp_dcT ?_) | (with_reducible refine ws_lockSA ?_) | (with_reducible refine wp_popI ?_) | (with_reducible refine wl_lisT ?_) | (with_reducible refine wl_valT ?_) | (with_reducible refine wi_tkey ?_) | (with_reducible refine to_all ?_) | (with_reducible refine to_any ?_) | (with_reducible refine ws_seq ?_) | (with_reducible refine ws_set ?_) | (with_reducible refine ws_par ?_) | (with_reducible refine ws_expr ?_) | (with_reducible refine ws_ret ?_) | (with_reducible refine ws_if ?_) | (with_reducible refine ws_asg ?_) | (with_reducible refine ws_sub ?_) | (with_reducible refine ws_subT ?_) | (with_reducible refine ws_fldS ?_) | (with_reducible refine ws_skip ?_) | (with_reducible refine ws_brk ?_) | (with_reducible refine ws_ct ?_) | (with_reducible refine ws_retN ?_) | (with_reducible refine ws_lockS ?_) | (with_reducible refine wp_run ?_) | (with_reducible refine wp_cM ?_) | (with_reducible refine wp_fld ?_) | (with_reducible refine wp_op2 ?_) | (with_reducible refine wp_op1 ?_) | (with_reducible refine wp_call ?_) | (with_reducible refine wp_meth ?_) | (with_reducible refine wp_make ?_) | (with_reducible refine wp_new ?_) | (with_reducible refine wp_tup ?_) | (with_reducible refine wp_newK ?_) | (with_reducible refine wp_newT ?_) | (with_reducible refine wp_ifE ?_) | (with_reducible refine wp_notV ?_) | (with_reducible refine wp_andV ?_) | (with_reducible refine wp_orV ?_) | (with_reducible refine wp_met2D ?_) | (with_reducible refine wp_app ?_) | (with_reducible refine wp_ext ?_) | (with_reducible refine wx_exu ?_) | (with_reducible refine wp_pop ?_) | (with_reducible refine wp_slice ?_) | (with_reducible refine wo_no ?_) | (with_reducible refine wo_some ?_) | (with_reducible refine ch_of ?_) | (with_reducible refine wl_slice ?_) | (with_reducible refine wp_bc ?_) | (with_reducible refine wp_disp ?_) | (with_reducible refine wq_cons ?_) | (with_reducible refine wq_nil ?_) | (with_reducible refine wp_lockM ?_) | (with_reducible refine wt_tv ?_) | (with_reducible refine wt_and ?_) | (with_reducible refine wt_or ?_) | (with_reducible refine wt_not ?_) | (with_reducible refine wt_tr ?_) | (with_reducible refine wt_yes ?_) | (with_reducible refine wl_nil ?_) | (with_reducible refine wl_cons ?_) | (with_reducible refine wl_lst ?_) | (with_reducible refine wl_lis ?_) | (with_reducible refine wi_lst ?_) | (with_reducible refine wi_rng ?_) | (with_reducible refine wl_listT ?_) | (with_reducible refine wp_met1D ?_) | (with_reducible refine wl_lisR2 ?_) | (with_reducible refine wl_lisR1 ?_) | (with_reducible refine wp_eqI ?_) | (with_reducible refine wp_neI ?_) | (with_reducible refine wp_ltI ?_) | (with_reducible refine wp_cmpI ?_) | (with_reducible refine wp_addI ?_) | (with_reducible refine wp_subI ?_) | (with_reducible refine wp_negI ?_) | (with_reducible refine wp_isN0 ?_) | (with_reducible refine wp_isNI ?_) | (with_reducible refine wp_isNS ?_) | (with_reducible refine wp_isNT ?_) | (with_reducible refine wp_isNR ?_) | (with_reducible refine wp_ntN0 ?_) | (with_reducible refine wp_ntNI ?_) | (with_reducible refine wp_ntNS ?_) | (with_reducible refine wp_ntNT ?_) | (with_reducible refine wp_ntNR ?_) | (with_reducible refine wp_lenT ?_) | (with_reducible refine wp_ix0 ?_) | (with_reducible refine wp_ix1 ?_) | (with_reducible refine wp_ix2 ?_) | (with_reducible refine wp_ix3 ?_) | (with_reducible refine wp_ix4 ?_) | (with_reducible refine wp_max ?_) | (with_reducible refine wp_min ?_) | (with_reducible refine wp_intD ?_) | (with_reducible refine wp_intB ?_) | (with_reducible refine wt_trN ?_) | (with_reducible refine wt_trB ?_) | (with_reducible refine wt_trI ?_) | (with_reducible refine wt_trT ?_) | (with_reducible refine wp_isi ?_) | (with_reducible refine is_ss ?_) | (with_reducible refine is_st ?_) | (with_reducible refine is_si ?_) | (with_reducible refine is_ts ?_) | (with_reducible refine is_tt ?_) | (with_reducible refine is_ti ?_) | (with_reducible refine is_is ?_) | (with_reducible refine is_it ?_) | (with_reducible refine is_ii ?_) | (with_reducible refine is_ib ?_) | (with_reducible refine is_bb ?_) | (with_reducible refine is_bi ?_) | (with_reducible refine is_bs ?_) | (with_reducible refine is_bt ?_) | (with_reducible refine is_ns ?_) | (with_reducible refine is_nt ?_) | (with_reducible refine is_ni ?_) | (with_reducible refine is_nb ?_) | (with_reducible refine ex_bl ?_) | (with_reducible refine ex_int ?_) | (with_reducible refine br_t ?_) | (with_reducible refine br_f ?_) | (with_reducible refine br_nt ?_) | (with_reducible refine br_nf ?_) | (refine fits (by simp) ?_) | (refine br_T (by rfl) ?_) | (refine br_F (by rfl) ?_) | (with_reducible refine we_lit (by decide +kernel) (by decide +kernel) ?_) | (with_reducible refine wn_lit (by decide +kernel) (by decide +kernel) ?_) | (with_reducible refine wi_litT (by decide +kernel) (by decide +kernel) ?_) | (with_reducible refine wni_litT (by decide +kernel) (by decide +kernel) ?_) | (with_reducible refine wi_litN (by decide +kernel) (by decide +kernel) ?_) | (with_reducible refine wni_litN (by decide +kernel) (by decide +kernel) ?_) | (refine br_T (by decide +kernel) ?_) | (refine br_F (by decide +kernel) ?_))))
set_option Elab.async false
set_option linter.all false
set_option maxRecDepth 100000
set_option autoImplicit false
/-! ### k12: the law's truths, read whole -/
namespace K12
open PySem L2 ML
section
variable {ms bm lm : List Mark} {hB hh : Hm} {jm kd jp jf : Nat} {kvs : List (D × D)} {w : Str} {ps : List D}
theorem LE.gr {h1 : Hm} (E : LE ms bm jm kd kvs hB) (g : Gr hB h1) : LE ms bm jm kd kvs h1 := ⟨g.get E.em, g.get E.ed, E.dm, E.gm, E.hb, E.hn⟩
/-- the parts, and what comes of them -/
inductive Res (ms bm : List Mark) (w : Str) (jp : Nat) (hB : Hm) : (Nat → Bool) → Prop
  | near {j1 : Nat} {rest : List D} {T : Nat → Bool} (hw : w = "next" ∨ w = "over") (ep : hB[jp]? = some (.lst (.ref j1 :: rest))) (e1 : hB[j1]? = some (bls ms.length T)) : Res ms bm w jp hB fun i => match ahd ms bm.length w i with | some j => T j | none => false
  | far {j1 j2 : Nat} {T1 T2 : Nat → Bool} (hw : w = "until" ∨ w = "across") (ep : hB[jp]? = some (.lst [.ref j1, .ref j2])) (e1 : hB[j1]? = some (bls ms.length T1)) (e2 : hB[j2]? = some (bls ms.length T2)) : Res ms bm w jp hB fun i => unB (ahd ms bm.length w) T1 T2 i
theorem Res.gr {h1 : Hm} {res : Nat → Bool} (r : Res ms bm w jp hB res) (g : Gr hB h1) : Res ms bm w jp h1 res := by
  cases r with
  | near hw ep e1 => exact .near hw (g.get ep) (g.get e1)
  | far hw ep e1 e2 => exact .far hw (g.get ep) (g.get e1) (g.get e2)
theorem inner_w {res : Nat → Bool} (E : LE ms bm jm kd kvs hB) (r : Res ms bm w jp hB res) {i : Nat} (hi : i < ms.length) {acc : List D} (ef : hB[jf]? = some (.lst acc)) (hl : acc.length ≤ 1000) {a10 a11 : Option D} {N B C : Sm → Hm → Prop} {R : D → Hm → Prop}
    (k : ∀ a8 a10 a11 h', Gr hB h' → h'[jf]? = some (.lst acc) → N (SL (.tup (.str w :: ps)) (.tup (bm.map mkD)) (.tup (lm.map mkD)) jm kd jp jf (some (.int (i : Int))) a8 (some (.bl (res i))) a10 a11) (h'.set jf (.lst (acc ++ [.bl (res i)])))) :
    wpS (innerS (SL (.tup (.str w :: ps)) (.tup (bm.map mkD)) (.tup (lm.map mkD)) jm kd jp jf (some (.int (i : Int))) (some (.int (i : Int))) (some (.bl false)) a10 a11) hB) N R B C := by
  unfold innerS
  refine ws_mid (fun σ h' => ∃ a8 a10 a11, σ = SL (.tup (.str w :: ps)) (.tup (bm.map mkD)) (.tup (lm.map mkD)) jm kd jp jf (some (.int (i : Int))) a8 (some (.bl (res i))) a10 a11 ∧ Gr hB h') ?_ fun σ h' ⟨a8, a10, a11, eσ, g⟩ => ?_
  · have hit : ∀ {Q : List D × Src → Hm → Prop}, Q ((List.range (ms.length + 1)).map fun (i : Nat) => D.int (i : Int), []) hB → wp (itR1 (consA (op2M addD (bcM lenD (consA (gv 3) nilA)) (cM (.int 1))) nilA) (SL (.tup (.str w :: ps)) (.tup (bm.map mkD)) (.tup (lm.map mkD)) jm kd jp jf (some (.int (i : Int))) (some (.int (i : Int))) (some (.bl false)) a10 a11) hB) Q := fun {Q} q => by
      refine wi_rngN ?_
      kst_all1
      refine wp_of (len_lst E.em) ?_
      rw [List.length_map]
      kst_all1
      exact ⟨ms.length + 1, rfl, by have := E.hn; omega, q⟩
    cases r with
    | near hw ep e1 =>
      refine ws_forT (List.range (ms.length + 1)) (fun (i : Nat) => D.int (i : Int)) (fun done σ h' => done = [] ∧ ∃ a10 a11, σ = SL (.tup (.str w :: ps)) (.tup (bm.map mkD)) (.tup (lm.map mkD)) jm kd jp jf (some (.int (i : Int))) (some (.int (i : Int))) (some (.bl false)) a10 a11 ∧ Gr hB h') (hit ⟨rfl, fun _ _ _ _ => Chk.nil, rfl, _, _, rfl, Gr.refl _⟩) (fun done x rr σ h' ed ⟨e0, a10, a11, eσ, g⟩ => ?_) fun σ h' ⟨e0, _⟩ => ?_
      · subst eσ
        refine ⟨_, rfl, ?_⟩
        refine near_w (E.gr g) hw (g.get ep) (g.get e1) (Gr.refl _) hi fun x h'' g'' => ⟨_, _, _, rfl, g.tr g''⟩
      · have := congrArg List.length e0
        simp at this
    | far hw ep e1 e2 =>
      rename_i j1 j2 T1 T2
      refine ws_forT (List.range (ms.length + 1)) (fun (i : Nat) => D.int (i : Int)) (fun done σ h' => ∃ a a10 a11, σ = SL (.tup (.str w :: ps)) (.tup (bm.map mkD)) (.tup (lm.map mkD)) jm kd jp jf (some (.int (i : Int))) (some (.int (a : Nat))) (some (.bl false)) a10 a11 ∧ Gr hB h' ∧ WI (ahd ms bm.length w) T1 T2 ms.length i a done.length) (hit ⟨rfl, fun _ _ _ _ => Chk.nil, i, _, _, rfl, Gr.refl _, WI.start hi⟩) (fun done x rr σ h' ed ⟨a, a10, a11, eσ, g, wi⟩ => ?_) fun σ h' ⟨a, a10, a11, eσ, g, wi⟩ => ?_
      · subst eσ
        refine ⟨_, rfl, ?_⟩
        refine far_w (E.gr g) hw (g.get ep) (g.get e1) (g.get e2) (Gr.refl _) wi (fun a' x h'' g'' wi' => ⟨a', _, _, rfl, g.tr g'', by rw [List.length_append]; exact wi'⟩) fun x h'' g'' => ⟨_, _, _, rfl, g.tr g''⟩
      · rw [List.length_range] at wi
        refine ⟨some (.int (a : Int)), a10, a11, ?_, g⟩
        dsimp only
        rw [wi.fin]
        exact eσ
  · subst eσ
    kst_all1
    refine ⟨jf, acc, rfl, g.get ef, ?_⟩
    kst_all1
    exact ⟨acc, g.get ef, by show _ < 2 ^ 24; omega, k _ _ _ _ g (g.get ef)⟩
theorem loop_w {res : Nat → Bool} (E : LE ms bm jm kd kvs hB) (r : Res ms bm w jp hB res) {h : Hm} (gh : Gr h hB) :
    wpS (loopS (SL (.tup (.str w :: ps)) (.tup (bm.map mkD)) (.tup (lm.map mkD)) jm kd jp hB.length none none none none none) (hB ++ [.lst []])) (fun _ _ => False) (fun r h1 => Gr h h1 ∧ ∃ j, r = .ref j ∧ h.length ≤ j ∧ h1[j]? = some (bls ms.length res)) (fun _ _ => False) (fun _ _ => False) := by
  unfold loopS
  refine ws_mid (fun σ h' => ∃ a7 a8 a9 a10 a11, σ = SL (.tup (.str w :: ps)) (.tup (bm.map mkD)) (.tup (lm.map mkD)) jm kd jp hB.length a7 a8 a9 a10 a11 ∧ Gr hB h' ∧ h'[hB.length]? = some (bls ms.length res)) ?_ fun σ h' ⟨a7, a8, a9, a10, a11, eσ, g, e⟩ => ?_
  · refine ws_forT (List.range ms.length) (fun (i : Nat) => D.int (i : Int)) (fun done σ h' => ∃ a7 a8 a9 a10 a11, σ = SL (.tup (.str w :: ps)) (.tup (bm.map mkD)) (.tup (lm.map mkD)) jm kd jp hB.length a7 a8 a9 a10 a11 ∧ Gr hB h' ∧ h'[hB.length]? = some (.lst (done.map fun i => .bl (res i)))) (wi_rngN ?_) (fun done i rr σ h' ed ⟨a7, a8, a9, a10, a11, eσ, g, e⟩ => ?_) fun σ h' q => q
    · kst_all1
      refine wp_of (len_lst ((Gr.app _ _).get E.em)) ?_
      rw [List.length_map]
      kst_all1
      exact ⟨ms.length, rfl, by have := E.hn; omega, rfl, fun _ _ _ _ => Chk.nil, none, none, none, none, none, rfl, Gr.app _ _, get_new⟩
    · subst eσ
      have hi : i < ms.length := by
        have : i ∈ List.range ms.length := by rw [ed]; simp
        exact List.mem_range.mp this
      have ld : done.length ≤ 1000 := by
        have a := congrArg List.length ed
        have b := E.hn
        rw [List.length_range, List.length_append] at a
        omega
      refine ⟨_, rfl, ?_⟩
      refine ws_seq (ws_set (wp_gv rfl ?_))
      refine ws_seq (ws_set (wp_cM ?_))
      refine inner_w (E.gr g) (r.gr g) hi e (by rw [List.length_map]; exact ld) fun a8 a10 a11 h'' g'' e'' => ⟨_, _, _, _, _, rfl, (g.tr g'').setN (Nat.le_refl _) _, ?_⟩
      rw [set_at e'', List.map_append]
      rfl
  · subst eσ
    kst_all1
    exact ⟨gh.tr g, _, rfl, gh.len, e⟩
end
section
variable {ms : List Mark} {b : Nat} {h : Hm}
theorem ltruths_w {bm lm : List Mark} (gm : ∀ m ∈ bm ++ lm, GoodM m) (hb : 0 < lm.length) (hn : bm.length + lm.length ≤ 1000) : ∀ (l n N : Nat) (d : D), tre N d → formB l d = true → N ≤ 60 → l ≤ n → ∀ h, wp (F__law_truths n [d, .tup (bm.map mkD), .tup (lm.map mkD)] h) fun r h1 => Gr h h1 ∧ ∃ j, r = .ref j ∧ h.length ≤ j ∧ h1[j]? = some (bls (bm ++ lm).length (trB (bm ++ lm) bm.length n d)) := by
  intro l
  induction l with
  | zero => intro n N d t f; cases f
  | succ l ih =>
    intro n N d t f hN hln h
    obtain ⟨l', w, ps, el, rfl, fs⟩ := formB_tup f
    cases el
    obtain ⟨n, rfl⟩ : ∃ n', n = n' + 1 := ⟨n - 1, by omega⟩
    rcases tre_cases t with ⟨x, e, g⟩ | ⟨m, ps', w', rfl, e, hl, tx, tps⟩
    · cases e
    cases e
    obtain ⟨ms, hms⟩ : ∃ ms, ms = bm ++ lm := ⟨_, rfl⟩
    have hml : ms.length = bm.length + lm.length := by rw [hms, List.length_append]
    have hbm : bm.length < ms.length := by omega
    have kids : w ≠ "at" → ∀ q ∈ ps, ∀ hh, Gr h hh → wp (F__law_truths n [q, .tup (bm.map mkD), .tup (lm.map mkD)] hh) fun r h1 => Gr hh h1 ∧ ∃ j, r = .ref j ∧ hh.length ≤ j ∧ h1[j]? = some (bls ms.length (trB ms bm.length n q)) := fun nw q mq hh gh => by rw [hms]; exact ih n m q (tps q mq) (fs nw q mq) (by omega) (by omega) hh
    rw [← hms] at gm ⊢
    unfold F__law_truths
    refine wp_run (ws_mid (fun σ hh => ∃ jm, σ = [some (.tup (.str w :: ps)), some (.tup (bm.map mkD)), some (.tup (lm.map mkD)), some (.ref jm), none, none, none, none, none, none, none, none, none, none] ∧ Gr h hh ∧ h.length ≤ jm ∧ hh[jm]? = some (.lst (ms.map mkD))) ?_ fun σ h1 ⟨jm, eσ, g1, ljm, em⟩ => ?_)
    · kst_all1
      refine wp_of (catD_of ((Gr.app _ _).get get_new) get_new (by rw [List.length_map, List.length_map]; show _ ≤ 2 ^ 24; omega)) ⟨_, rfl, ((Gr.app _ _).tr (Gr.app _ _)).tr (Gr.app _ _), by simp <;> omega, ?_⟩
      rw [get_new, ← List.map_append, hms]
    subst eσ
    refine ws_mid (fun σ hh => ∃ kd kvs, σ = [some (.tup (.str w :: ps)), some (.tup (bm.map mkD)), some (.tup (lm.map mkD)), some (.ref jm), some (.ref kd), none, none, none, none, none, none, none, none, none] ∧ Gr h hh ∧ hh[jm]? = some (.lst (ms.map mkD)) ∧ hh[kd]? = some (.dic kvs) ∧ DM (mtAll ms bm.length) kvs) ?_ fun σ h2 ⟨kd, kvs, eσ, g2, em2, ed2, dm⟩ => ?_
    · kst_all1
      refine ⟨rfl, wp_imp (lmatches_w (by rw [← hms]; exact gm) hn) fun r h2 ⟨g2, kd, kvs, er, _, ed, dm⟩ => ?_⟩
      subst er
      exact ⟨kd, kvs, rfl, g1.tr g2, g2.get em, ed, by rw [hms]; exact dm⟩
    subst eσ
    rcases form_cases tps f with ⟨rfl, rfl⟩ | ⟨rfl, kk, x, rfl, gk, gx⟩ | ⟨hw, p, rfl, fp⟩ | ⟨hw, p, q, rfl, fp, fq⟩
    · kst_all1
      refine wl_mapT ms mkD (fun _ => true) (fun _ => .bl true) (wi_ref ?_)
      kst_all1
      refine ⟨jm, _, rfl, em2, rfl, Chk.one em2, by show _ ≤ 2 ^ 24; omega, fun x _ => ⟨_, rfl, rfl, fun _ => rfl⟩, ?_⟩
      rw [filter_yes]
      kst_all1
      refine ⟨g2.tr (Gr.app _ _), _, rfl, g2.len, ?_⟩
      rw [get_new, range_marks rfl]
      rfl
    · kst_all1
      refine wl_mapI ms mkD (fun m => .bl (decide (m.1 = kk) && (decide (x = "") || decide (x = m.2)))) (Gr h2) (wi_ref ?_)
      kst_all1
      refine ⟨jm, _, rfl, em2, rfl, fun hh gh => Chk.one (gh.get em2), by show _ ≤ 2 ^ 24; omega, Gr.refl _, fun mm mmm hh gh => ⟨_, rfl, ?_⟩, fun hh gh => ?_⟩
      · have gmm := gm mm mmm
        kst_all1
        refine we_P (n := 0) (Pd.str gmm.1.1) (Pd.str gk.1) (by decide) ?_
        kst_all1
        refine br_d (fun c => ?_) (fun c => ?_)
        · have c : mm.1 = kk := by injection c
          kst_all1
          refine wi_N (n := 0) (Pd.str gx.1) (fun y my => ?_) (by decide) ⟨?_, gh.tr (Gr.app _ _)⟩
          · simp only [List.mem_cons, List.not_mem_nil, or_false] at my
            rcases my with e | e
            · subst e; exact Pd.of (by decide +kernel)
            · subst e; exact Pd.str gmm.2.1
          · rw [decide_eq_true c, Bool.true_and]
            congr 1
            simp
        · have c : ¬ mm.1 = kk := fun z => c (by rw [z])
          refine ⟨?_, gh⟩
          rw [decide_eq_false c]
          rfl
      · kst_all1
        refine ⟨(g2.tr gh).tr (Gr.app _ _), _, rfl, by have := g2.len; have := gh.len; omega, ?_⟩
        rw [get_new, range_marks rfl]
        rfl
    · have nw : w ≠ "at" := by rcases hw with e | e | e <;> subst e <;> decide
      have one : ∀ {js : List Nat}, js.length = 1 → ∃ j, js = [j] := fun {js} e => by
        match js, e with
        | [j], _ => exact ⟨j, rfl⟩
      rcases hw with rfl | rfl | rfl
      · kst_all1
        refine @parts_tw ms _ (trB ms bm.length n) [p] _ _ _ _ _ (by simp) ?_ ?_ _ ?_
        · rfl
        · intro q mq hh gh
          refine ⟨_, rfl, ?_⟩
          kst_all1
          exact ⟨rfl, kids nw q mq hh (g2.tr gh)⟩
        · intro js hh gh le al
          obtain ⟨j, rfl⟩ := one le
          have a1 := al 0 p j rfl rfl
          have em3 := gh.get em2
          kst_all1
          refine wl_mapT (List.range ms.length) (fun (i : Nat) => D.int (i : Int)) (fun _ => true) (fun i => .bl (!trB ms bm.length n p i)) (wi_rngN ?_)
          kst_all1
          refine wp_of (len_lst ((Gr.app _ _).get em3)) ?_
          kst_all1
          refine ⟨ms.length, by rw [List.length_map], by omega, rfl, Chk.nil, by rw [List.length_range]; show _ ≤ 2 ^ 24; omega, fun i mi => ⟨_, rfl, rfl, fun _ => wp_eqn ?_⟩, ?_⟩
          · kst_all1
            refine wp_of (ix_lst get_new (by decide) rfl) ?_
            kst_all1
            refine wp_of (bls_at ((Gr.app _ _).get a1.1) (List.mem_range.mp mi)) ?_
            kst_all1
            exact ⟨rfl, rfl⟩
          · rw [filter_yes]
            kst_all1
            refine ⟨((g2.tr gh).tr (Gr.app _ _)).tr (Gr.app _ _), _, rfl, by have := g2.len; have := gh.len; simp; omega, ?_⟩
            rw [get_new]
            rfl
      · kst_all1
        refine @parts_tw ms _ (trB ms bm.length n) [p] _ _ _ _ _ (by simp) ?_ ?_ _ ?_
        · rfl
        · intro q mq hh gh
          refine ⟨_, rfl, ?_⟩
          kst_all1
          exact ⟨rfl, kids nw q mq hh (g2.tr gh)⟩
        · intro js hh gh le al
          obtain ⟨j, rfl⟩ := one le
          have a1 := al 0 p j rfl rfl
          have E : LE ms bm jm kd kvs (hh ++ [O.lst (List.map D.ref [j])]) := (LE.mk (ms := ms) (bm := bm) em2 ed2 dm gm hbm (by omega)).gr (gh.tr (Gr.app _ _))
          have lw := loop_w (lm := lm) (ps := [p]) E (.near (.inl rfl) get_new ((Gr.app _ _).get a1.1)) ((g2.tr gh).tr (Gr.app _ _))
          kst_all1
          exact ws_unseq (wpS_imp lw (fun _ _ z => z.elim) (fun r h1 z => z) (fun _ _ z => z.elim) (fun _ _ z => z.elim))
      · kst_all1
        refine @parts_tw ms _ (trB ms bm.length n) [p] _ _ _ _ _ (by simp) ?_ ?_ _ ?_
        · rfl
        · intro q mq hh gh
          refine ⟨_, rfl, ?_⟩
          kst_all1
          exact ⟨rfl, kids nw q mq hh (g2.tr gh)⟩
        · intro js hh gh le al
          obtain ⟨j, rfl⟩ := one le
          have a1 := al 0 p j rfl rfl
          have E : LE ms bm jm kd kvs (hh ++ [O.lst (List.map D.ref [j])]) := (LE.mk (ms := ms) (bm := bm) em2 ed2 dm gm hbm (by omega)).gr (gh.tr (Gr.app _ _))
          have lw := loop_w (lm := lm) (ps := [p]) E (.near (.inr rfl) get_new ((Gr.app _ _).get a1.1)) ((g2.tr gh).tr (Gr.app _ _))
          kst_all1
          exact ws_unseq (wpS_imp lw (fun _ _ z => z.elim) (fun r h1 z => z) (fun _ _ z => z.elim) (fun _ _ z => z.elim))
    · have nw : w ≠ "at" := by rcases hw with e | e | e | e <;> subst e <;> decide
      have two : ∀ {js : List Nat}, js.length = 2 → ∃ i j, js = [i, j] := fun {js} e => by
        match js, e with
        | [i, j], _ => exact ⟨i, j, rfl⟩
      rcases hw with rfl | rfl | rfl | rfl
      · kst_all1
        refine @parts_tw ms _ (trB ms bm.length n) [p, q] _ _ _ _ _ (by simp) ?_ ?_ _ ?_
        · rfl
        · intro q mq hh gh
          refine ⟨_, rfl, ?_⟩
          kst_all1
          exact ⟨rfl, kids nw q mq hh (g2.tr gh)⟩
        · intro js hh gh le al
          obtain ⟨j1, j2, rfl⟩ := two le
          have a1 := al 0 p j1 rfl rfl
          have a2 := al 1 q j2 rfl rfl
          have em3 := gh.get em2
          kst_all1
          refine wl_mapT (List.range ms.length) (fun (i : Nat) => D.int (i : Int)) (fun _ => true) (fun i => .bl (trB ms bm.length n p i && trB ms bm.length n q i)) (wi_rngN ?_)
          kst_all1
          refine wp_of (len_lst ((Gr.app _ _).get em3)) ?_
          kst_all1
          refine ⟨ms.length, by rw [List.length_map], by omega, rfl, Chk.nil, by rw [List.length_range]; show _ ≤ 2 ^ 24; omega, fun i mi => ⟨_, rfl, rfl, fun _ => wp_eqn ?_⟩, ?_⟩
          · kst_all1
            refine wp_of (ix_lst get_new (by decide) rfl) ?_
            kst_all1
            refine wp_of (bls_at ((Gr.app _ _).get a1.1) (List.mem_range.mp mi)) ?_
            cases trB ms bm.length n p i <;> kst_all1
            all_goals first
              | exact ⟨rfl, rfl⟩
              | (refine wp_of (ix_lst get_new (by decide) rfl) ?_
                 kst_all1
                 exact wp_of (bls_at ((Gr.app _ _).get a2.1) (List.mem_range.mp mi)) ⟨rfl, rfl⟩)
          · rw [filter_yes]
            kst_all1
            refine ⟨((g2.tr gh).tr (Gr.app _ _)).tr (Gr.app _ _), _, rfl, by have := g2.len; have := gh.len; simp; omega, ?_⟩
            rw [get_new]
            rfl
      · kst_all1
        refine @parts_tw ms _ (trB ms bm.length n) [p, q] _ _ _ _ _ (by simp) ?_ ?_ _ ?_
        · rfl
        · intro q mq hh gh
          refine ⟨_, rfl, ?_⟩
          kst_all1
          exact ⟨rfl, kids nw q mq hh (g2.tr gh)⟩
        · intro js hh gh le al
          obtain ⟨j1, j2, rfl⟩ := two le
          have a1 := al 0 p j1 rfl rfl
          have a2 := al 1 q j2 rfl rfl
          have em3 := gh.get em2
          kst_all1
          refine wl_mapT (List.range ms.length) (fun (i : Nat) => D.int (i : Int)) (fun _ => true) (fun i => .bl (trB ms bm.length n p i || trB ms bm.length n q i)) (wi_rngN ?_)
          kst_all1
          refine wp_of (len_lst ((Gr.app _ _).get em3)) ?_
          kst_all1
          refine ⟨ms.length, by rw [List.length_map], by omega, rfl, Chk.nil, by rw [List.length_range]; show _ ≤ 2 ^ 24; omega, fun i mi => ⟨_, rfl, rfl, fun _ => wp_eqn ?_⟩, ?_⟩
          · kst_all1
            refine wp_of (ix_lst get_new (by decide) rfl) ?_
            kst_all1
            refine wp_of (bls_at ((Gr.app _ _).get a1.1) (List.mem_range.mp mi)) ?_
            cases trB ms bm.length n p i <;> kst_all1
            all_goals first
              | exact ⟨rfl, rfl⟩
              | (refine wp_of (ix_lst get_new (by decide) rfl) ?_
                 kst_all1
                 exact wp_of (bls_at ((Gr.app _ _).get a2.1) (List.mem_range.mp mi)) ⟨rfl, rfl⟩)
          · rw [filter_yes]
            kst_all1
            refine ⟨((g2.tr gh).tr (Gr.app _ _)).tr (Gr.app _ _), _, rfl, by have := g2.len; have := gh.len; simp; omega, ?_⟩
            rw [get_new]
            rfl
      · kst_all1
        refine @parts_tw ms _ (trB ms bm.length n) [p, q] _ _ _ _ _ (by simp) ?_ ?_ _ ?_
        · rfl
        · intro q mq hh gh
          refine ⟨_, rfl, ?_⟩
          kst_all1
          exact ⟨rfl, kids nw q mq hh (g2.tr gh)⟩
        · intro js hh gh le al
          obtain ⟨j1, j2, rfl⟩ := two le
          have a1 := al 0 p j1 rfl rfl
          have a2 := al 1 q j2 rfl rfl
          have em3 := gh.get em2
          have E : LE ms bm jm kd kvs (hh ++ [O.lst (List.map D.ref [j1, j2])]) := (LE.mk (ms := ms) (bm := bm) em2 ed2 dm gm hbm (by omega)).gr (gh.tr (Gr.app _ _))
          have lw := loop_w (lm := lm) (ps := [p, q]) E (.far (.inl rfl) get_new ((Gr.app _ _).get a1.1) ((Gr.app _ _).get a2.1)) ((g2.tr gh).tr (Gr.app _ _))
          kst_all1
          exact ws_unseq (wpS_imp lw (fun _ _ z => z.elim) (fun r h1 z => z) (fun _ _ z => z.elim) (fun _ _ z => z.elim))
      · kst_all1
        refine @parts_tw ms _ (trB ms bm.length n) [p, q] _ _ _ _ _ (by simp) ?_ ?_ _ ?_
        · rfl
        · intro q mq hh gh
          refine ⟨_, rfl, ?_⟩
          kst_all1
          exact ⟨rfl, kids nw q mq hh (g2.tr gh)⟩
        · intro js hh gh le al
          obtain ⟨j1, j2, rfl⟩ := two le
          have a1 := al 0 p j1 rfl rfl
          have a2 := al 1 q j2 rfl rfl
          have em3 := gh.get em2
          have E : LE ms bm jm kd kvs (hh ++ [O.lst (List.map D.ref [j1, j2])]) := (LE.mk (ms := ms) (bm := bm) em2 ed2 dm gm hbm (by omega)).gr (gh.tr (Gr.app _ _))
          have lw := loop_w (lm := lm) (ps := [p, q]) E (.far (.inr rfl) get_new ((Gr.app _ _).get a1.1) ((Gr.app _ _).get a2.1)) ((g2.tr gh).tr (Gr.app _ _))
          kst_all1
          exact ws_unseq (wpS_imp lw (fun _ _ z => z.elim) (fun r h1 z => z) (fun _ _ z => z.elim) (fun _ _ z => z.elim))
end
end K12

end
section
open PySem L2 ML
local macro_rules | `(tactic| kst_all1) => `(tactic| (repeat (first | ((with_reducible apply wp_gv); rfl) | (with_reducible refine wp_met2T ?_) | (with_reducible refine wp_dcT ?_) | (with_reducible refine ws_lockSA ?_) | (with_reducible refine wp_popI ?_) | (with_reducible refine wl_lisT ?_) | (with_reducible refine wl_valT ?_) | (with_reducible refine wi_tkey ?_) | (with_reducible refine to_all ?_) | (with_reducible refine to_any ?_) | (with_reducible refine ws_seq ?_) | (with_reducible refine ws_set ?_) | (with_reducible refine ws_par ?_) | (with_reducible refine ws_expr ?_) | (with_reducible refine ws_ret ?_) | (with_reducible refine ws_if ?_) | (with_reducible refine ws_asg ?_) | (with_reducible refine ws_sub ?_) | (with_reducible refine ws_subT ?_) | (with_reducible refine ws_fldS ?_) | (with_reducible refine ws_skip ?_) | (with_reducible refine ws_brk ?_) | (with_reducible refine ws_ct ?_) | (with_reducible refine ws_retN ?_) | (with_reducible refine ws_lockS ?_) | (with_reducible refine wp_run ?_) | (with_reducible refine wp_cM ?_) | (with_reducible refine wp_fld ?_) | (with_reducible refine wp_op2 ?_) | (with_reducible refine wp_op1 ?_) | (with_reducible refine wp_call ?_) | (with_reducible refine wp_meth ?_) | (with_reducible refine wp_make ?_) | (with_reducible refine wp_new ?_) | (with_reducible refine wp_tup ?_) | (with_reducible refine wp_newK ?_) | (with_reducible refine wp_newT ?_) | (with_reducible refine wp_ifE ?_) | (with_reducible refine wp_notV ?_) | (with_reducible refine wp_andV ?_) | (with_reducible refine wp_orV ?_) | (with_reducible refine wp_met2D ?_) | (with_reducible refine wp_app ?_) | (with_reducible refine wp_ext ?_) | (with_reducible refine wx_exu ?_) | (with_reducible refine wp_pop ?_) | (with_reducible refine wp_slice ?_) | (with_reducible refine wo_no ?_) | (with_reducible refine wo_some ?_) | (with_reducible refine ch_of ?_) | (with_reducible refine wl_slice ?_) | (with_reducible refine wp_bc ?_) | (with_reducible refine wp_disp ?_) | (with_reducible refine wq_cons ?_) | (with_reducible refine wq_nil ?_) | (with_reducible refine wp_lockM ?_) | (with_reducible refine wt_tv ?_) | (with_reducible refine wt_and ?_) | (with_reducible refine wt_or ?_) | (with_reducible refine wt_not ?_) | (with_reducible refine wt_tr ?_) | (with_reducible refine wt_yes ?_) | (with_reducible refine wl_nil ?_) | (with_reducible refine wl_cons ?_) | (with_reducible refine wl_lst ?_) | (with_reducible refine wl_lis ?_) | (with_reducible refine wi_lst ?_) | (with_reducible refine wi_rng ?_) | (with_reducible refine wl_listT ?_) | (with_reducible refine wp_met1D ?_) | (with_reducible refine wl_lisR2 ?_) | (with_reducible refine wl_lisR1 ?_) | (with_reducible refine wp_eqI ?_) | (with_reducible refine wp_neI ?_) | (with_reducible refine wp_ltI ?_) | (with_reducible refine wp_cmpI ?_) | (with_reducible refine wp_addI ?_) | (with_reducible refine wp_subI ?_) | (with_reducible refine wp_negI ?_) | (with_reducible refine wp_isN0 ?_) | (with_reducible refine wp_isNI ?_) | (with_reducible refine wp_isNS ?_) | (with_reducible refine wp_isNT ?_) | (with_reducible refine wp_isNR ?_) | (with_reducible refine wp_ntN0 ?_) | (with_reducible refine wp_ntNI ?_) | (with_reducible refine wp_ntNS ?_) | (with_reducible refine wp_ntNT ?_) | (with_reducible refine wp_ntNR ?_) | (with_reducible refine wp_lenT ?_) | (with_reducible refine wp_ix0 ?_) | (with_reducible refine wp_ix1 ?_) | (with_reducible refine wp_ix2 ?_) | (with_reducible refine wp_ix3 ?_) | (with_reducible refine wp_ix4 ?_) | (with_reducible refine wp_max ?_) | (with_reducible refine wp_min ?_) | (with_reducible refine wp_intD ?_) | (with_reducible refine wp_intB ?_) | (with_reducible refine wt_trN ?_) | (with_reducible refine wt_trB ?_) | (with_reducible refine wt_trI ?_) | (with_reducible refine wt_trT ?_) | (with_reducible refine wp_isi ?_) | (with_reducible refine is_ss ?_) | (with_reducible refine is_st ?_) | (with_reducible refine is_si ?_) | (with_reducible refine is_ts ?_) | (with_reducible refine is_tt ?_) | (with_reducible refine is_ti ?_) | (with_reducible refine is_is ?_) | (with_reducible refine is_it ?_) | (with_reducible refine is_ii ?_) | (with_reducible refine is_ib ?_) | (with_reducible refine is_bb ?_) | (with_reducible refine is_bi ?_) | (with_reducible refine is_bs ?_) | (with_reducible refine is_bt ?_) | (with_reducible refine is_ns ?_) | (with_reducible refine is_nt ?_) | (with_reducible refine is_ni ?_) | (with_reducible refine is_nb ?_) | (with_reducible refine ex_bl ?_) | (with_reducible refine ex_int ?_) | (with_reducible refine br_t ?_) | (with_reducible refine br_f ?_) | (with_reducible refine br_nt ?_) | (with_reducible refine br_nf ?_) | (refine fits (by simp) ?_) | (refine br_T (by rfl) ?_) | (refine br_F (by rfl) ?_) | (with_reducible refine we_lit (by decide +kernel) (by decide +kernel) ?_) | (with_reducible refine wn_lit (by decide +kernel) (by decide +kernel) ?_) | (with_reducible refine wi_litT (by decide +kernel) (by decide +kernel) ?_) | (with_reducible refine wni_litT (by decide +kernel) (by decide +kernel) ?_) | (with_reducible refine wi_litN (by decide +kernel) (by decide +kernel) ?_) | (with_reducible refine wni_litN (by decide +kernel) (by decide +kernel) ?_) | (refine br_T (by decide +kernel) ?_) | (refine br_F (by decide +kernel) ?_))))
set_option Elab.async false
set_option linter.all false
set_option maxRecDepth 100000
set_option autoImplicit false
/-! ### k12: what is drawn; the law -/
namespace K12
open PySem L2 ML
theorem tre_mono : ∀ {n m : Nat} {d : D}, tre n d → n ≤ m → tre m d
  | n, m, .str x, t, _ => by have g := (str_pd t).2; cases m <;> exact g
  | 0, _, .tup _, t, _ => t.elim
  | n + 1, m, .tup xs, t, h => by
    obtain ⟨m, rfl⟩ : ∃ m', m = m' + 1 := ⟨m - 1, by omega⟩
    exact ⟨t.1, t.2.1, fun x mx => tre_mono (t.2.2 x mx) (by omega)⟩
  | 0, _, .non, t, _ => t.elim
  | _ + 1, _, .non, t, _ => t.elim
  | 0, _, .bl _, t, _ => t.elim
  | _ + 1, _, .bl _, t, _ => t.elim
  | 0, _, .int _, t, _ => t.elim
  | _ + 1, _, .int _, t, _ => t.elim
  | 0, _, .ref _, t, _ => t.elim
  | _ + 1, _, .ref _, t, _ => t.elim
  | 0, _, .glob _, t, _ => t.elim
  | _ + 1, _, .glob _, t, _ => t.elim
  | 0, _, .fro _, t, _ => t.elim
  | _ + 1, _, .fro _, t, _ => t.elim
/-- texts, written -/
def goodB (d : D) : Bool := match d with
  | .str x => PyData.strOk x && decide (x.length ≤ 16)
  | _ => false
theorem good_tre {d : D} (h : goodB d = true) (n : Nat) : tre n d := by
  cases d with
  | str x =>
    have h : (PyData.strOk x && decide (x.length ≤ 16)) = true := h
    rw [Bool.and_eq_true, decide_eq_true_eq] at h
    cases n <;> exact h
  | _ => cases h
theorem good_all {ds : List D} (h : ds.all goodB = true) {d : D} (m : d ∈ ds) (n : Nat) : tre n d := good_tre (List.all_eq_true.mp h d m) n
section
variable {k c : Nat} {cs : List Int} {h : Hm}
theorem _root_.ML.StA.gr {h1 : Hm} (s : StA k c cs h) (g : Gr h h1) : StA k c cs h1 := s.fr0 fun j hj _ => g.at_ j hj
/-- a pick of a new list -/
theorem pickN_w {ds : List D} (s : StA k c cs h) (hkc : c ≠ k) (h0 : ds ≠ []) (hl : ds.length < 1073741824) {Q : D → Hm → Prop} (q : ∀ d h1, d ∈ ds → StA k c cs h1 → Fr k h h1 → h.length ≤ h1.length → Q d h1) : wp (F__law_pick [.ref k, .ref h.length] (h ++ [.lst ds])) Q := by
  have lt := s.lt
  refine wp_imp (pick_w (j := h.length) (ds := ds) (s.app [.lst ds]) hkc get_new (by omega) h0 hl) fun d h1 ⟨md, s1, f1, l1⟩ => q d h1 md s1 ((Fr.app k h _).tr f1) ?_
  rw [l1]
  simp
theorem pr1_w (hkc : c ≠ k) (n deep : Nat) (ih : 0 < deep → ∀ h, StA k c cs h → wp (F__law_promise n [.ref k, .int ((deep - 1 : Nat) : Int)] h) fun d h1 => tre deep d ∧ StA k c cs h1 ∧ Fr k h h1) {h : Hm} (st : StA k c cs h) : wp (F__law_promise (n + 1) [.ref k, .int (deep : Int)] h) fun d h1 => tre (deep + 1) d ∧ StA k c cs h1 ∧ Fr k h h1 := by
  unfold F__law_promise
  refine wp_run (ws_mid (fun σ h1 => ∃ kd : Int, σ = [some (.ref k), some (.int (deep : Int)), some (.int kd), none, none] ∧ (2 ≤ kd → 0 < deep) ∧ StA k c cs h1 ∧ Fr k h h1) ?_ fun σ h1 ⟨kd, eσ, hk, st1, f1⟩ => ?_)
  · kst_all1
    refine br_d (fun c1 => ?_) (fun c1 => ?_)
    · kst_all1
      refine ⟨rfl, wp_imp (draw_w st hkc (by decide) (by decide)) fun d h1 ⟨n, ed, n0, n8, s1, f1, l1⟩ => ?_⟩
      subst ed
      exact ⟨n, rfl, fun _ => by omega, s1, f1⟩
    · kst_all1
      exact ⟨0, rfl, fun z => by omega, st, Fr.refl _ _⟩
  · subst eσ
    kst_all1
    refine br_d (fun c1 => ?_) (fun c1 => ?_)
    · kst_all1
      refine ⟨rfl, pickN_w st1 hkc (by simp) (by simp) fun d h2 md st2 f2 l2 => ?_⟩
      have t1 : tre deep d := good_all (by decide +kernel) md _
      kst_all1
      refine ⟨rfl, pickN_w st2 hkc (by simp) (by simp) fun d3 h3 md3 st3 f3 l3 => ?_⟩
      have t3 : tre deep d3 := good_all (by decide +kernel) md3 _
      kst_all1
      refine ⟨rfl, pickN_w st3 hkc (by simp) (by simp) fun d4 h4 md4 st4 f4 l4 => ⟨?_, st4, f1.tr (f2.tr (f3.tr f4))⟩⟩
      simp only [List.mem_cons, List.not_mem_nil, or_false] at md4
      have G : ∀ x : D, goodB x = true → tre deep x := fun x hx => good_tre hx _
      rcases md4 with e | e | e <;> subst e
      · exact tre_tup (by simp) (G _ (by decide +kernel)) fun y my => by
          simp only [List.mem_cons, List.not_mem_nil, or_false] at my
          rcases my with e | e <;> subst e <;> assumption
      · exact tre_tup (by simp) (G _ (by decide +kernel)) fun y my => by
          simp only [List.mem_cons, List.not_mem_nil, or_false] at my
          rcases my with e | e <;> subst e <;> exact G _ (by decide +kernel)
      · exact tre_tup (by simp) (G _ (by decide +kernel)) fun y my => by cases my
    · have dp := hk (by omega)
      have e1 : (deep : Int) - 1 = ((deep - 1 : Nat) : Int) := by omega
      kst_all1
      refine wi_N (n := 0) (Pd.int _) (fun y my => ?_) (by decide) ?_
      · simp only [List.mem_cons, List.not_mem_nil, or_false] at my
        rcases my with e | e <;> subst e <;> exact Pd.int _
      have st2 := st1.app [O.lst [D.int 2, D.int 3]]
      have f2 := f1.tr (Fr.app k h1 [O.lst [D.int 2, D.int 3]])
      generalize h1 ++ [O.lst [D.int 2, D.int 3]] = h2 at st2 f2
      kst_all1
      refine br_d (fun c2 => ?_) (fun c2 => ?_)
      · kst_all1
        refine ⟨rfl, pickN_w st2 hkc (by simp) (by simp) fun d h3 md st3 f3 l3 => ?_⟩
        have t1 : tre deep d := good_all (by decide +kernel) md _
        kst_all1
        rw [e1]
        refine ⟨rfl, wp_imp (ih dp h3 st3) fun d4 h4 ⟨t4, st4, f4⟩ => ?_⟩
        kst_all1
        exact ⟨tre_tup (by simp) t1 fun y my => by rw [List.mem_singleton.mp my]; exact t4, st4, f2.tr (f3.tr f4)⟩
      · kst_all1
        refine ⟨rfl, pickN_w st2 hkc (by simp) (by simp) fun d h3 md st3 f3 l3 => ?_⟩
        have t1 : tre deep d := good_all (by decide +kernel) md _
        kst_all1
        rw [e1]
        refine ⟨rfl, wp_imp (ih dp h3 st3) fun d4 h4 ⟨t4, st4, f4⟩ => ?_⟩
        kst_all1
        rw [e1]
        refine ⟨rfl, wp_imp (ih dp h4 st4) fun d5 h5 ⟨t5, st5, f5⟩ => ?_⟩
        kst_all1
        exact ⟨tre_tup (by simp) t1 fun y my => by
          simp only [List.mem_cons, List.not_mem_nil, or_false] at my
          rcases my with e | e <;> subst e <;> assumption, st5, f2.tr (f3.tr (f4.tr f5))⟩
theorem lpromise_w (hkc : c ≠ k) : ∀ (n deep : Nat), deep ≤ n → ∀ h, StA k c cs h → wp (F__law_promise (n + 1) [.ref k, .int (deep : Int)] h) fun d h1 => tre (deep + 1) d ∧ StA k c cs h1 ∧ Fr k h h1 := by
  intro n
  induction n with
  | zero => exact fun deep hd h st => pr1_w hkc 0 deep (fun z => by omega) st
  | succ n ih => exact fun deep hd h st => pr1_w hkc (n + 1) deep (fun z h' st' => by
      have := ih (deep - 1) (by omega) h' st'
      rwa [show deep - 1 + 1 = deep by omega] at this) st
theorem lodd_w (hkc : c ≠ k) {N : Nat} {d : D} (t : tre N d) (hN : 1 ≤ N) (st : StA k c cs h) : wp (F__law_odd [.ref k, d] h) fun d h1 => tre (N + 8) d ∧ StA k c cs h1 ∧ Fr k h h1 := by
  unfold F__law_odd
  kst_all1
  refine ⟨rfl, wp_imp (draw_w st hkc (by decide) (by decide)) fun d1 h1 ⟨n, ed, n0, n8, s1, f1, l1⟩ => ?_⟩
  subst ed
  kst_all1
  refine br_d (fun c1 => ?_) (fun c1 => ?_)
  · kst_all1
    refine ⟨rfl, pickN_w s1 hkc (by simp) (by simp) fun d2 h2 md st2 f2 l2 => ?_⟩
    kst_all1
    exact ⟨tre_mono (tre_tup (by simp) (good_all (by decide +kernel) md N) fun y my => by rw [List.mem_singleton.mp my]; exact t) (by omega), st2, f1.tr f2⟩
  kst_all1
  refine br_d (fun c2 => ?_) (fun c2 => ?_)
  · kst_all1
    refine ⟨rfl, pickN_w s1 hkc (by simp) (by simp) fun d2 h2 md st2 f2 l2 => ?_⟩
    kst_all1
    refine ⟨rfl, pickN_w st2 hkc (by simp) (by simp) fun d3 h3 md3 st3 f3 l3 => ?_⟩
    kst_all1
    refine ⟨tre_mono (n := N + 1) (tre_tup (by simp) (good_tre (by decide +kernel) _) fun y my => ?_) (by omega), st3, f1.tr (f2.tr f3)⟩
    simp only [List.mem_cons, List.not_mem_nil, or_false] at my
    rcases my with e | e <;> subst e
    · exact t
    · obtain ⟨N, rfl⟩ : ∃ m, N = m + 1 := ⟨N - 1, by omega⟩
      exact tre_tup (by simp) (good_tre (by decide +kernel) _) fun y my => by
        simp only [List.mem_cons, List.not_mem_nil, or_false] at my
        rcases my with e | e <;> subst e
        · exact good_all (by decide +kernel) md _
        · exact good_all (by decide +kernel) md3 _
  kst_all1
  refine br_d (fun c3 => ?_) (fun c3 => ?_)
  · refine ws_mid (fun σ hh => ∃ d' a3, σ = [some (.ref k), some d', some (.int n), a3] ∧ tre (N + 8) d' ∧ StA k c cs hh ∧ Fr k h hh) ?_ fun σ hh ⟨d', a3, eσ, t', st', f'⟩ => ?_
    · refine ws_for0 (Q := fun p h1 => ∃ m : Nat, m ≤ 8 ∧ p = ((List.range m).map fun (i : Nat) => D.int (i : Int), []) ∧ StA k c cs h1 ∧ Fr k h h1) ?_ fun p h2 ⟨m, hm, ep, st2, f2⟩ => ?_
      · refine wi_rngN ?_
        kst_all1
        refine ⟨rfl, pickN_w s1 hkc (by simp) (by simp) fun d2 h2 md st2 f2 l2 => ?_⟩
        kst_all1
        simp only [List.mem_cons, List.not_mem_nil, or_false] at md
        rcases md with e | e | e | e <;> subst e
        · exact ⟨4, rfl, by decide, 4, by decide, rfl, st2, f1.tr f2⟩
        · exact ⟨5, rfl, by decide, 5, by decide, rfl, st2, f1.tr f2⟩
        · exact ⟨6, rfl, by decide, 6, by decide, rfl, st2, f1.tr f2⟩
        · exact ⟨7, rfl, by decide, 7, by decide, rfl, st2, f1.tr f2⟩
      · subst ep
        refine ws_forC m (fun i σ hh => ∃ d' a3, σ = [some (.ref k), some d', some (.int n), a3] ∧ tre (N + i) d' ∧ StA k c cs hh ∧ Fr k h hh) ⟨_, _, rfl, rfl, d, none, rfl, t, st2, f2⟩ (fun i σ hh hm ⟨d', a3, eσ, t', st', f'⟩ => ?_) fun σ hh ⟨d', a3, eσ, t', st', f'⟩ => ⟨d', a3, eσ, tre_mono t' (by omega), st', f'⟩
        subst eσ
        refine ⟨_, rfl, ?_⟩
        kst_all1
        exact ⟨_, _, rfl, tre_tup (m := N + i) (by simp) (good_tre (by decide +kernel) _) fun y my => by rw [List.mem_singleton.mp my]; exact t', st', f'⟩
    · subst eσ
      kst_all1
      exact ⟨t', st', f'⟩
  · refine ws_skip (ws_mid (fun σ hh => ∃ d' a3, σ = [some (.ref k), some d', some (.int n), a3] ∧ tre (N + 8) d' ∧ StA k c cs hh ∧ Fr k h hh) ?_ fun σ hh ⟨d', a3, eσ, t', st', f'⟩ => ?_)
    · refine ws_for0 (Q := fun p h1 => ∃ m : Nat, m ≤ 8 ∧ p = ((List.range m).map fun (i : Nat) => D.int (i : Int), []) ∧ StA k c cs h1 ∧ Fr k h h1) ?_ fun p h2 ⟨m, hm, ep, st2, f2⟩ => ?_
      · refine wi_rngN ?_
        kst_all1
        refine ⟨rfl, pickN_w s1 hkc (by simp) (by simp) fun d2 h2 md st2 f2 l2 => ?_⟩
        kst_all1
        simp only [List.mem_cons, List.not_mem_nil, or_false] at md
        rcases md with e | e | e <;> subst e
        · exact ⟨3, rfl, by decide, 3, by decide, rfl, st2, f1.tr f2⟩
        · exact ⟨5, rfl, by decide, 5, by decide, rfl, st2, f1.tr f2⟩
        · exact ⟨6, rfl, by decide, 6, by decide, rfl, st2, f1.tr f2⟩
      · subst ep
        refine ws_forC m (fun i σ hh => ∃ d' a3, σ = [some (.ref k), some d', some (.int n), a3] ∧ tre (N + i) d' ∧ StA k c cs hh ∧ Fr k h hh) ⟨_, _, rfl, rfl, d, none, rfl, t, st2, f2⟩ (fun i σ hh hm ⟨d', a3, eσ, t', st', f'⟩ => ?_) fun σ hh ⟨d', a3, eσ, t', st', f'⟩ => ⟨d', a3, eσ, tre_mono t' (by omega), st', f'⟩
        subst eσ
        refine ⟨_, rfl, ?_⟩
        kst_all1
        refine ⟨rfl, pickN_w st' hkc (by simp) (by simp) fun d2 h4 md st4 f4 l4 => ⟨d2, _, rfl, ?_, st4, f'.tr f4⟩⟩
        simp only [List.mem_cons, List.not_mem_nil, or_false] at md
        rcases md with e | e <;> subst e <;> exact tre_tup (m := N + i) (by simp) (good_tre (by decide +kernel) _) fun y my => by rw [List.mem_singleton.mp my]; exact t'
    · subst eσ
      kst_all1
      exact ⟨t', st', f'⟩
def MK : List Mark := [("call", "p"), ("back", "p"), ("say", "hi"), ("quiet", ""), ("say", "ho"), ("call", "q")]
theorem MK_good : ∀ m ∈ MK, GoodM m := fun m mm => by
  simp only [MK, List.mem_cons, List.not_mem_nil, or_false] at mm
  rcases mm with e | e | e | e | e | e <;> subst e <;> exact ⟨⟨by decide +kernel, by decide +kernel⟩, ⟨by decide +kernel, by decide +kernel⟩⟩
theorem mk_pick {d : D} (m : d ∈ MK.map mkD) : ∃ x ∈ MK, d = mkD x := by
  obtain ⟨x, mx, e⟩ := List.mem_map.mp m
  exact ⟨x, mx, e.symm⟩
/-- a tuple of drawn marks -/
theorem marks_w {jl : Nat} (ej : h[jl]? = some (.lst (MK.map mkD))) (hj : jl ≠ k) (hkc : c ≠ k) (st : StA k c cs h) {m : Nat} (hm : m ≤ 100) {σ : Sm} {it : Sm → M (List D × Src)} (hit : it σ h = some (((List.range m).map fun (i : Nat) => D.int (i : Int), []), h)) {Q : List D → Hm → Prop}
    (hs : ∀ d : D, ((wipeM σ [8]).set 8 (some d))[1]? = some (some (.ref k)) ∧ ((wipeM σ [8]).set 8 (some d))[4]? = some (some (.ref jl)))
    (q : ∀ (L : List Mark) h1, (∀ x ∈ L, x ∈ MK) → L.length = m → StA k c cs h1 → Fr k h h1 → Q (L.map mkD) h1) : wp (lcM it (nameG 8) yesT (callM F__law_pick 2 (consA (gv 1) (consA (gv 4) nilA))) [8] σ h) Q := by
  refine wl_lc ⟨_, _, hit, fun l acc hh => ∃ L : List Mark, acc = L.map mkD ∧ (∀ x ∈ L, x ∈ MK) ∧ L.length + l.length = m ∧ StA k c cs hh ∧ Fr k h hh, ⟨[], rfl, (fun _ z => by cases z), by simp, st, Fr.refl _ _⟩, fun d r acc hh ⟨L, ea, mL, ll, s1, f1⟩ => ⟨Chk.nil, _, rfl, wt_yes ⟨(fun z => by cases z), fun _ => ?_⟩⟩, fun acc hh ⟨L, ea, mL, ll, s1, f1⟩ => ⟨Chk.nil, ?_, ?_⟩⟩
  · obtain ⟨h1, h4⟩ := hs d
    refine wp_call (wl_cons (wp_gv h1 (wl_cons (wp_gv h4 (wl_nil ⟨rfl, ?_⟩)))))
    refine wp_imp (pick_w (j := jl) s1 hkc (f1.get ej hj) hj (by simp [MK]) (by simp [MK])) fun d2 h2 ⟨md, s2, f2, _⟩ => ?_
    obtain ⟨x, mx, rfl⟩ := mk_pick md
    refine ⟨L ++ [x], by rw [ea]; simp, fun y my => ?_, by simp at ll ⊢; omega, s2, f1.tr f2⟩
    rcases List.mem_append.mp my with z | z
    · exact mL y z
    · rw [List.mem_singleton.mp z]; exact mx
  · rw [ea, List.length_map]
    show _ ≤ 2 ^ 24
    omega
  · rw [ea]
    exact q L hh mL (by simpa using ll) s1 f1
theorem is_ok (a b : Bool) (h : Hm) : F__law_is [.bl a, .bl b] h = some (.bl (decide (a = b)), h) := by
  have t : tvM (isiM "bool" (gv 0)) (startM 2 [.bl a, .bl b]) h = some (true, h) := tv_isi rfl rfl rfl
  refine run_rt (ret_of ?_)
  unfold andV
  refine (bind_of t).trans ?_
  show op2M eqD (gv 0) (gv 1) _ h = _
  refine (op2_of' rfl rfl).trans ?_
  cases a <;> cases b <;> rfl
theorem is_same (a : Bool) (h : Hm) : F__law_is [.bl a, .bl a] h = some (.bl true, h) := by rw [is_ok, decide_eq_true rfl]
end
theorem law_true : ∀ ns : List Int, ns.length ≤ 63 → ∃ h1, F_law [.fro (ns.map .int)] [] = some (.bl true, h1) := by
  intro ns hn
  suffices w : wp (F_law [.fro (ns.map .int)] []) fun d _ => d = .bl true by
    obtain ⟨d, h1, e, rfl⟩ := w
    exact ⟨h1, e⟩
  unfold F_law
  kst_all1
  refine ⟨rfl, wp_of (start_ok hn) ?_⟩
  have st0 := start_st (ns := ns)
  generalize [O.lst ((ns.map absI).map .int), stD 0 0 0 (7 + ns.length)] = h0 at st0
  generalize ns.map absI = cs at st0
  have hkc : (0 : Nat) ≠ 1 := by decide
  generalize hS : D.fro (ns.map .int) = S
  refine ws_mid (fun σ hh => ∃ d, σ = [some S, some (.ref 1), some d, none, none, none, none, none, none, none] ∧ tre 5 d ∧ StA 1 0 cs hh) ?_ fun σ h1 ⟨d, eσ, t, st1⟩ => ?_
  · kst_all1
    refine ⟨rfl, wp_imp (draw_w st0 hkc (by decide) (by decide)) fun d h1 ⟨n, ed, n0, n5, s1, f1, _⟩ => ?_⟩
    subst ed
    obtain ⟨m, rfl⟩ : ∃ m : Nat, n = (m : Int) := ⟨n.toNat, by omega⟩
    kst_all1
    refine ⟨rfl, wp_imp (lpromise_w hkc 5 m (by omega) h1 s1) fun d h2 ⟨t, s2, f2⟩ => ?_⟩
    exact ⟨d, rfl, tre_mono t (by omega), s2⟩
  subst eσ
  refine ws_mid (fun σ hh => ∃ d, σ = [some S, some (.ref 1), some d, none, none, none, none, none, none, none] ∧ tre 20 d ∧ StA 1 0 cs hh) ?_ fun σ h2 ⟨d, eσ, t, st2⟩ => ?_
  · kst_all1
    refine ⟨rfl, wp_imp (draw_w st1 hkc (by decide) (by decide)) fun d1 h2 ⟨n, ed, n0, n5, s2, f2, _⟩ => ?_⟩
    subst ed
    kst_all1
    refine br_d (fun c1 => ?_) (fun c1 => ?_)
    · kst_all1
      refine ⟨rfl, wp_imp (lodd_w hkc t (by decide) s2) fun d2 h3 ⟨t2, s3, f3⟩ => ⟨d2, rfl, tre_mono t2 (by decide), s3⟩⟩
    · kst_all1
      exact ⟨d, rfl, tre_mono t (by decide), s2⟩
  subst eσ
  -- is it a promise
  refine ws_mid (fun σ hh => σ = [some S, some (.ref 1), some d, some (.bl (formB 8 d && decide ((paL 10 d).length ≤ 6))), none, none, none, none, none, none] ∧ StA 1 0 cs hh) ?_ fun σ h3 ⟨eσ, st3⟩ => ?_
  · kst_all1
    refine ⟨rfl, wp_imp (good_w 8 20 8 d t (by decide) (Nat.le_refl _) h2) fun r h3 ⟨f3, er⟩ => ?_⟩
    subst er
    have g3 := Gr.of_fr f3
    cases ff : formB 8 d with
    | false =>
      kst_all1
      exact ⟨rfl, st2.gr g3⟩
    | true =>
      kst_all1
      refine ⟨rfl, wp_imp (lahead_w 8 10 20 d t ff (by decide) (by decide) (by decide) h3) fun r h4 ⟨g4, j, er, _, e4⟩ => ?_⟩
      subst er
      kst_all1
      refine wp_of (len_lst e4) ?_
      kst_all1
      refine ⟨?_, st2.gr (g3.tr g4)⟩
      rw [ahead_len (n := 10) ff]
      show _ = [some S, some (.ref 1), some d, some (.bl (true && decide ((laL 10 d).length ≤ 6))), none, none, none, none, none, none]
      rw [Bool.true_and]
      have : decide (((laL 10 d).length : Int) ≤ 6) = decide ((laL 10 d).length ≤ 6) := decide_eq_decide.mpr (by omega)
      rw [← this]
      rfl
  subst eσ
  kst_all1
  refine ⟨rfl, wp_imp (promise_w t (by decide) h3) fun r h4 ⟨g4, er⟩ => ?_⟩
  subst er
  kst_all1
  refine ⟨rfl, wp_of (is_same _ _) ?_⟩
  kst_all1
  have st4 := st3.gr g4
  cases due : (formB 8 d && decide ((paL 10 d).length ≤ 6)) with
  | false => kst_all1; rfl
  | true =>
    have ff : formB 8 d = true := by
      rw [Bool.and_eq_true] at due
      exact due.1
    refine br_nt (ws_skip ?_)
    refine ws_mid (fun σ hh => ∃ jl, σ = [some S, some (.ref 1), some d, some (.bl true), some (.ref jl), none, none, none, none, none] ∧ StA 1 0 cs hh ∧ hh[jl]? = some (.lst (MK.map mkD)) ∧ jl ≠ 1) ?_ fun σ h5 ⟨jl, eσ, st5, ej, hj⟩ => ?_
    · kst_all1
      exact ⟨h4.length, rfl, st4.app _, get_new, by have := st4.lt; omega⟩
    subst eσ
    refine ws_mid (fun σ hh => ∃ L : List Mark, σ = [some S, some (.ref 1), some d, some (.bl true), some (.ref jl), some (.tup (L.map mkD)), none, none, none, none] ∧ (∀ x ∈ L, x ∈ MK) ∧ L.length ≤ 100 ∧ StA 1 0 cs hh ∧ hh[jl]? = some (.lst (MK.map mkD))) ?_ fun σ h6 ⟨bm, eσ, mb, lb, st6, ej6⟩ => ?_
    · kst_all1
      refine wl_it0 (P := fun p h1 => ∃ m : Nat, m ≤ 100 ∧  p = ((List.range m).map fun (i : Nat) => D.int (i : Int), []) ∧ StA 1 0 cs h1 ∧ h1[jl]? = some (.lst (MK.map mkD))) (wi_rngN ?_) fun p h1 ⟨m, hm,  ep, s1, ej1⟩ => ?_
      · kst_all1
        refine ⟨rfl, wp_imp (draw_w st5 hkc (by decide) (by decide)) fun d h1 ⟨n, ed, n0, n5, s1, f1, _⟩ => ?_⟩
        subst ed
        kst_all1
        refine ⟨n.toNat, by congr 2; omega, by omega, n.toNat, by omega,  rfl, s1, f1.get ej hj⟩
      · subst ep
        refine marks_w ej1 hj hkc s1 hm rfl (fun d => ⟨rfl, rfl⟩) fun L h2 mL lL s2 f2 => ?_
        refine wp_of (a := .tup (L.map mkD)) (h := h2) rfl ?_
        exact ⟨L, rfl, mL,  by omega, s2, f2.get ej1 hj⟩
    subst eσ
    refine ws_mid (fun σ hh => ∃ L : List Mark, σ = [some S, some (.ref 1), some d, some (.bl true), some (.ref jl), some (.tup (bm.map mkD)), some (.tup (L.map mkD)), none, none, none] ∧ (∀ x ∈ L, x ∈ MK) ∧ 0 < L.length ∧ L.length ≤ 100 ∧ StA 1 0 cs hh) ?_ fun σ h7 ⟨lm, eσ, ml, l0, ll, st7⟩ => ?_
    · kst_all1
      refine wl_it0 (P := fun p h1 => ∃ m : Nat, m ≤ 100 ∧ 0 < m ∧ p = ((List.range m).map fun (i : Nat) => D.int (i : Int), []) ∧ StA 1 0 cs h1 ∧ h1[jl]? = some (.lst (MK.map mkD))) (wi_rngN ?_) fun p h1 ⟨m, hm, m0, ep, s1, ej1⟩ => ?_
      · kst_all1
        refine ⟨rfl, wp_imp (draw_w st6 hkc (by decide) (by decide)) fun d h1 ⟨n, ed, n0, n5, s1, f1, _⟩ => ?_⟩
        subst ed
        kst_all1
        refine ⟨(1 + n).toNat, by congr 2; omega, by omega, (1 + n).toNat, by omega, by omega, rfl, s1, f1.get ej6 hj⟩
      · subst ep
        refine marks_w ej1 hj hkc s1 hm rfl (fun d => ⟨rfl, rfl⟩) fun L h2 mL lL s2 f2 => ?_
        refine wp_of (a := .tup (L.map mkD)) (h := h2) rfl ?_
        exact ⟨L, rfl, mL, by omega, by omega, s2⟩
    subst eσ
    have gm : ∀ x ∈ bm ++ lm, GoodM x := fun x mx => by
      rcases List.mem_append.mp mx with z | z
      · exact MK_good x (mb x z)
      · exact MK_good x (ml x z)
    kst_all1
    refine ⟨rfl, wp_imp (ltruths_w gm l0 (by omega) 8 10 20 d t ff (by decide) (by decide) h7) fun r h8 ⟨g8, j, er, _, e8⟩ => ?_⟩
    subst er
    have st8 := st7.gr g8
    have hj8 : j ≠ 1 := fun z => by
      obtain ⟨⟨a, l, m, q, _⟩, _, _⟩ := st8
      rw [z, q] at e8
      cases e8
    refine ws_seq (ws_forC 4 (fun i σ hh => ∃ a8 a9, σ = [some S, some (.ref 1), some d, some (.bl true), some (.ref jl), some (.tup (bm.map mkD)), some (.tup (lm.map mkD)), some (.ref j), a8, a9] ∧ StA 1 0 cs hh ∧ hh[j]? = some (bls (bm ++ lm).length (trB (bm ++ lm) bm.length 10 d))) ?_ (fun i σ hh hi ⟨a8, a9, eσ, s9, e9⟩ => ?_) fun σ hh ⟨a8, a9, eσ, s9, e9⟩ => ?_)
    · refine wi_rngN ?_
      kst_all1
      exact ⟨4, rfl, by decide, rfl, none, none, rfl, st8, e8⟩
    · subst eσ
      refine ⟨_, rfl, ?_⟩
      kst_all1
      refine wp_of (len_lst e9) ?_
      rw [List.length_map, List.length_range, List.length_append]
      kst_all1
      refine ⟨rfl, wp_imp (draw_w s9 hkc (by omega) (by omega)) fun d1 h10 ⟨n, ed, n0, n5, s10, f10, _⟩ => ?_⟩
      subst ed
      obtain ⟨t', rfl⟩ : ∃ t' : Nat, n = (t' : Int) := ⟨n.toNat, by omega⟩
      have e10 := f10.get e9 hj8
      kst_all1
      refine ⟨rfl, wp_imp (holds_w gm (by omega) l0 t ff (by decide) (i := t') (by omega) h10) fun r h11 ⟨g11, er⟩ => ?_⟩
      subst er
      kst_all1
      refine wp_of (bls_at (g11.get e10) (by rw [List.length_append]; omega)) ?_
      kst_all1
      refine ⟨rfl, wp_of (is_same _ _) ?_⟩
      kst_all1
      exact ⟨_, _, rfl, s10.gr g11, by have z := g11.get e10; rwa [List.length_append] at z⟩
    · subst eσ
      kst_all1
      rfl
end K12

end
set_option Elab.async false
set_option linter.all false
set_option maxRecDepth 100000
set_option autoImplicit false
namespace K12
open PySem L2 ML
structure Us (K : PySem.W.Frag) (mg : Str → Option Value) (w : World) where
  a_is_name : Addr
  d_is_name : FuncData
  F_is_name : Fun K "is_name" "is_name" s_is_name a_is_name d_is_name
  b_is_name : Binds K d_is_name ["text"] []
  m_is_name : mg "is_name" = some (.ref a_is_name)
  a_has_form : Addr
  d_has_form : FuncData
  F_has_form : Fun K "has_form" "has_form" s_has_form a_has_form d_has_form
  b_has_form : Binds K d_has_form ["thing", "deepest"] []
  m_has_form : mg "has_form" = some (.ref a_has_form)
  a_parts_ahead : Addr
  d_parts_ahead : FuncData
  F_parts_ahead : Fun K "parts_ahead" "parts_ahead" s_parts_ahead a_parts_ahead d_parts_ahead
  b_parts_ahead : Binds K d_parts_ahead ["promise"] []
  m_parts_ahead : mg "parts_ahead" = some (.ref a_parts_ahead)
  a_looks_too_far : Addr
  d_looks_too_far : FuncData
  F_looks_too_far : Fun K "looks_too_far" "looks_too_far" s_looks_too_far a_looks_too_far d_looks_too_far
  b_looks_too_far : Binds K d_looks_too_far ["promise"] []
  m_looks_too_far : mg "looks_too_far" = some (.ref a_looks_too_far)
  a_is_promise : Addr
  d_is_promise : FuncData
  F_is_promise : Fun K "is_promise" "is_promise" s_is_promise a_is_promise d_is_promise
  b_is_promise : Binds K d_is_promise ["thing"] []
  m_is_promise : mg "is_promise" = some (.ref a_is_promise)
  a_matches : Addr
  d_matches : FuncData
  F_matches : Fun K "matches" "matches" s_matches a_matches d_matches
  b_matches : Binds K d_matches ["mark", "kind", "name"] []
  m_matches : mg "matches" = some (.ref a_matches)
  a_come_true : Addr
  d_come_true : FuncData
  F_come_true : Fun K "come_true" "come_true" s_come_true a_come_true d_come_true
  b_come_true : Binds K d_come_true ["ahead", "first", "second"] []
  m_come_true : mg "come_true" = some (.ref a_come_true)
  a_RoundRun_truths : Addr
  d_RoundRun_truths : FuncData
  F_RoundRun_truths : Fun K "truths" "RoundRun.truths" s_RoundRun_truths a_RoundRun_truths d_RoundRun_truths
  b_RoundRun_truths : Binds K d_RoundRun_truths ["self", "promise"] []
  a_RoundRun_match_calls : Addr
  d_RoundRun_match_calls : FuncData
  F_RoundRun_match_calls : Fun K "match_calls" "RoundRun.match_calls" s_RoundRun_match_calls a_RoundRun_match_calls d_RoundRun_match_calls
  b_RoundRun_match_calls : Binds K d_RoundRun_match_calls ["self", "start", "end"] []
  a_RoundRun_plain_beyond : Addr
  d_RoundRun_plain_beyond : FuncData
  F_RoundRun_plain_beyond : Fun K "plain_beyond" "RoundRun.plain_beyond" s_RoundRun_plain_beyond a_RoundRun_plain_beyond d_RoundRun_plain_beyond
  b_RoundRun_plain_beyond : Binds K d_RoundRun_plain_beyond ["self", "at"] []
  a_RoundRun___init__ : Addr
  d_RoundRun___init__ : FuncData
  F_RoundRun___init__ : Fun K "__init__" "RoundRun.__init__" s_RoundRun___init__ a_RoundRun___init__ d_RoundRun___init__
  b_RoundRun___init__ : Binds K d_RoundRun___init__ ["self", "begin", "loop"] []
  a_holds : Addr
  d_holds : FuncData
  F_holds : Fun K "holds" "holds" s_holds a_holds d_holds
  b_holds : Binds K d_holds ["promise", "begin", "loop", "i"] []
  m_holds : mg "holds" = some (.ref a_holds)
  a__law_start : Addr
  d__law_start : FuncData
  F__law_start : Fun K "_law_start" "_law_start" s__law_start a__law_start d__law_start
  b__law_start : Binds K d__law_start ["script"] []
  m__law_start : mg "_law_start" = some (.ref a__law_start)
  a__law_draw : Addr
  d__law_draw : FuncData
  F__law_draw : Fun K "_law_draw" "_law_draw" s__law_draw a__law_draw d__law_draw
  b__law_draw : Binds K d__law_draw ["state", "bound"] []
  m__law_draw : mg "_law_draw" = some (.ref a__law_draw)
  a__law_pick : Addr
  d__law_pick : FuncData
  F__law_pick : Fun K "_law_pick" "_law_pick" s__law_pick a__law_pick d__law_pick
  b__law_pick : Binds K d__law_pick ["state", "things"] []
  m__law_pick : mg "_law_pick" = some (.ref a__law_pick)
  a__law_is : Addr
  d__law_is : FuncData
  F__law_is : Fun K "_law_is" "_law_is" s__law_is a__law_is d__law_is
  b__law_is : Binds K d__law_is ["actual", "due"] []
  m__law_is : mg "_law_is" = some (.ref a__law_is)
  a__law_once : Addr
  d__law_once : FuncData
  F__law_once : Fun K "_law_once" "_law_once" s__law_once a__law_once d__law_once
  b__law_once : Binds K d__law_once ["things"] []
  m__law_once : mg "_law_once" = some (.ref a__law_once)
  a__law_promise : Addr
  d__law_promise : FuncData
  F__law_promise : Fun K "_law_promise" "_law_promise" s__law_promise a__law_promise d__law_promise
  b__law_promise : Binds K d__law_promise ["state", "deep"] []
  m__law_promise : mg "_law_promise" = some (.ref a__law_promise)
  a__law_matches : Addr
  d__law_matches : FuncData
  F__law_matches : Fun K "_law_matches" "_law_matches" s__law_matches a__law_matches d__law_matches
  b__law_matches : Binds K d__law_matches ["begin", "around"] []
  m__law_matches : mg "_law_matches" = some (.ref a__law_matches)
  a__law_behind : Addr
  d__law_behind : FuncData
  F__law_behind : Fun K "_law_behind" "_law_behind" s__law_behind a__law_behind d__law_behind
  b__law_behind : Binds K d__law_behind ["marks", "begin", "i"] []
  m__law_behind : mg "_law_behind" = some (.ref a__law_behind)
  a__law_across : Addr
  d__law_across : FuncData
  F__law_across : Fun K "_law_across" "_law_across" s__law_across a__law_across d__law_across
  b__law_across : Binds K d__law_across ["marks", "begin", "matches_v", "i"] []
  m__law_across : mg "_law_across" = some (.ref a__law_across)
  a__law_truths : Addr
  d__law_truths : FuncData
  F__law_truths : Fun K "_law_truths" "_law_truths" s__law_truths a__law_truths d__law_truths
  b__law_truths : Binds K d__law_truths ["promise", "begin", "around"] []
  m__law_truths : mg "_law_truths" = some (.ref a__law_truths)
  a__law_is_name : Addr
  d__law_is_name : FuncData
  F__law_is_name : Fun K "_law_is_name" "_law_is_name" s__law_is_name a__law_is_name d__law_is_name
  b__law_is_name : Binds K d__law_is_name ["word"] []
  m__law_is_name : mg "_law_is_name" = some (.ref a__law_is_name)
  a__law_good : Addr
  d__law_good : FuncData
  F__law_good : Fun K "_law_good" "_law_good" s__law_good a__law_good d__law_good
  b__law_good : Binds K d__law_good ["thing", "deep"] []
  m__law_good : mg "_law_good" = some (.ref a__law_good)
  a__law_ahead : Addr
  d__law_ahead : FuncData
  F__law_ahead : Fun K "_law_ahead" "_law_ahead" s__law_ahead a__law_ahead d__law_ahead
  b__law_ahead : Binds K d__law_ahead ["thing"] []
  m__law_ahead : mg "_law_ahead" = some (.ref a__law_ahead)
  a__law_odd : Addr
  d__law_odd : FuncData
  F__law_odd : Fun K "_law_odd" "_law_odd" s__law_odd a__law_odd d__law_odd
  b__law_odd : Binds K d__law_odd ["state", "promise"] []
  m__law_odd : mg "_law_odd" = some (.ref a__law_odd)
  a_law : Addr
  d_law : FuncData
  F_law : Fun K "law" "law" s_law a_law d_law
  b_law : Binds K d_law ["script"] []
  m_law : mg "law" = some (.ref a_law)
  C_RoundRun : Addr
  mg_RoundRun : mg "RoundRun" = some (.ref C_RoundRun)
  cl_RoundRun : Cls K C_RoundRun
  mk_RoundRun : Mk K C_RoundRun a_RoundRun___init__
  na_RoundRun_marks : NoAttr K C_RoundRun "marks"
  na_RoundRun_behind : NoAttr K C_RoundRun "behind"
  na_RoundRun_across_from : NoAttr K C_RoundRun "across_from"
  me_RoundRun_truths : Meth K C_RoundRun "truths" a_RoundRun_truths
  me_RoundRun_match_calls : Meth K C_RoundRun "match_calls" a_RoundRun_match_calls
  me_RoundRun_plain_beyond : Meth K C_RoundRun "plain_beyond" a_RoundRun_plain_beyond
  u_NO_NAMES : Value
  g_NO_NAMES : mg "NO_NAMES" = some u_NO_NAMES
  kv_NO_NAMES : KV K (.tup [(.str "and"), (.str "or"), (.str "not"), (.str "same")]) u_NO_NAMES
  u_LETTERS : Value
  g_LETTERS : mg "LETTERS" = some u_LETTERS
  kv_LETTERS : KV K (.str "abcdefghijklmnopqrstuvwxyz") u_LETTERS
  u_LONGEST_NAME : Value
  g_LONGEST_NAME : mg "LONGEST_NAME" = some u_LONGEST_NAME
  kv_LONGEST_NAME : KV K (.int 8) u_LONGEST_NAME
  u_DEEPEST_PROMISE : Value
  g_DEEPEST_PROMISE : mg "DEEPEST_PROMISE" = some u_DEEPEST_PROMISE
  kv_DEEPEST_PROMISE : KV K (.int 8) u_DEEPEST_PROMISE
  u_KINDS : Value
  g_KINDS : mg "KINDS" = some u_KINDS
  kv_KINDS : KV K (.tup [(.str "call"), (.str "back"), (.str "say"), (.str "quiet")]) u_KINDS
  u_MOST_AHEAD : Value
  g_MOST_AHEAD : mg "MOST_AHEAD" = some u_MOST_AHEAD
  kv_MOST_AHEAD : KV K (.int 6) u_MOST_AHEAD
  u_AHEAD : Value
  g_AHEAD : mg "AHEAD" = some u_AHEAD
  kv_AHEAD : KV K (.tup [(.str "next"), (.str "until"), (.str "over"), (.str "across")]) u_AHEAD
  u_PARTS : Addr
  g_PARTS : mg "PARTS" = some (.ref u_PARTS)
  kd_PARTS : KDc K w u_PARTS c_PARTS
  z_isinstance : mg "isinstance" = none
  z_str : mg "str" = none
  z_all : mg "all" = none
  z_len : mg "len" = none
  z_tuple : mg "tuple" = none
  z_enumerate : mg "enumerate" = none
  z_list : mg "list" = none
  z_zip : mg "zip" = none
  z_range : mg "range" = none
  z_abs : mg "abs" = none
  z_int : mg "int" = none
  z_bool : mg "bool" = none
section
variable {P : Program} {w : World} {K : PySem.W.Frag} {mg : Str → Option Value} {base : Heap}
theorem ok_is_name (U : Us K mg w) : FnOk P w K mg base CX0 1 U.a_is_name U.d_is_name ["text"] (spM ⟨K, mg, P, w⟩ 1 F_is_name) :=
  fn_ok U.F_is_name sc_is_name fun cdv A outer s H E hr =>
    (b_cons (s_if (PW.pt (mw_or (mt_not' (m_tv (m_isi rfl U.z_isinstance (m_var 0) rfl U.z_str (by decide +kernel)))) (mw_or1 (m_tcmp (o_in (hu100 hr)) o2_inD (m_var 0) (m_const rfl U.g_NO_NAMES U.kv_NO_NAMES) rfl)))) (b_one (s_ret m_bl)) b_nil)
    (b_one (s_ret (m_and (m_chain op_le o2_cmp op_le o2_cmp m_int (m_callB c_len cm_len rfl U.z_len (by decide +kernel) (a_cons (m_var 0) a_nil)) (m_const rfl U.g_LONGEST_NAME U.kv_LONGEST_NAME)) (m_one (m_callBL (cr_all rfl) cl_all rfl U.z_all (by decide +kernel) (l_lc (own := [("letter", 1)]) (g := (nameG 1)) (tt := yesT) (el := (op2M (inS false) (gv 1) (cM (.str "abcdefghijklmnopqrstuvwxyz")))) rfl sc_is_name.nd (i_str (m_var 0)) (blkOk_by (N := N_is_name) (sc := defScope s_is_name) (by decide +kernel)) (fun _ _ _ _ _ => (g_name 1 sc_is_name.nd rfl (by first | exact Or.inl rfl | exact Or.inr rfl))) (fun _ _ _ _ _ => t_yes) (fun _ _ _ _ _ => (m_cmp o_inS o2_inS (m_var 1) (m_const rfl U.g_LETTERS U.kv_LETTERS) rfl)))))))))
theorem ok_has_form (U : Us K mg w) : ∀ n : Nat, FnOk P w K mg base CX0 (1 + n) U.a_has_form U.d_has_form ["thing", "deepest"] (spM ⟨K, mg, P, w⟩ 2 (F_has_form n))
  | 0 => fn_none
  | n + 1 => by
    have ih := ok_has_form U n
    exact fn_ok U.F_has_form sc_has_form fun cdv A outer s H E hr =>
    (b_cons (s_if (PW.pt (mw_or (m_tcmp (op_eqD (hr.units)) o2_eq (m_var 1) m_int (nomark _)) (mw_or (mt_not' (m_tv (m_isi rfl U.z_isinstance (m_var 0) rfl U.z_tuple (by decide +kernel)))) (mw_or (mt_not' (m_tr (m_var 0))) (mw_or1 (mt_not' (m_tv (m_isi rfl U.z_isinstance (m_ix (x_ix (hu_of hr)) o2_ix (m_var 0) m_int (fun _ _ => rfl)) rfl U.z_str (by decide +kernel))))))))) (b_one (s_ret m_bl)) b_nil)
    (b_cons (s_set 2 sc_has_form.nd rfl (by first | exact Or.inl rfl | exact Or.inr rfl) (m_ix (x_ix (hu_of hr)) o2_ix (m_var 0) m_int (fun _ _ => rfl)))
    (b_cons (s_if (m_tcmp (op_eqD (hr.units)) o2_eq (m_var 2) m_str (nomark _)) (b_one (s_ret (m_and (m_cmp (op_eqD (hr.units)) o2_eq (m_callB c_len cm_len rfl U.z_len (by decide +kernel) (a_cons (m_var 0) a_nil)) m_int (nomark _)) (m_and (m_cmp (o_in (hu100 hr)) o2_inD (m_ix (x_ix (hu_of hr)) o2_ix (m_var 0) m_int (fun _ _ => rfl)) (m_const rfl U.g_KINDS U.kv_KINDS) rfl) (m_one (m_or (m_cmp (op_eqD (hr.units)) o2_eq (m_ix (x_ix (hu_of hr)) o2_ix (m_var 0) m_int (fun _ _ => rfl)) m_str (nomark _)) (m_one (m_call (ok_is_name U) (hr.mono (Nat.le_trans (show 1 ≤ 1 by decide) (Nat.le_add_right 1 n))) rfl U.m_is_name U.F_is_name.kp U.b_is_name (a_cons (m_ix (x_ix (hu_of hr)) o2_ix (m_var 0) m_int (fun _ _ => rfl)) a_nil))))))))) b_nil)
    (b_cons (s_if (PW.pt (mw_or (m_tcmp (o_notInK U.kd_PARTS) (o2_inK U.kd_PARTS U.g_PARTS) (m_var 2) (m_globR rfl U.g_PARTS) rfl) (mw_or1 (m_tcmp (op_neD (hr.units)) o2_ne (m_callB c_len cm_len rfl U.z_len (by decide +kernel) (a_cons (m_var 0) a_nil)) (m_op o_add o2_add m_int (m_ix ix_kdict (o2_ixK U.kd_PARTS U.g_PARTS) (m_globR rfl U.g_PARTS) (m_var 2) (fun _ _ => rfl))) (nomark _))))) (b_one (s_ret m_bl)) b_nil)
    (b_one (s_ret (m_callBL (cr_all rfl) cl_all rfl U.z_all (by decide +kernel) (l_lc (own := [("part", 3)]) (g := (nameG 3)) (tt := yesT) (el := (callM (F_has_form n) 2 (consA (gv 3) (consA (op2M subD (gv 1) (cM (.int 1))) nilA)))) rfl sc_has_form.nd (i_val (m_slice sl_tupA sm_tup (m_var 0) (o_some m_int) o_none)) (blkOk_by (N := N_has_form) (sc := defScope s_has_form) (by decide +kernel)) (fun _ _ _ _ _ => (g_name 3 sc_has_form.nd rfl (by first | exact Or.inl rfl | exact Or.inr rfl))) (fun _ _ _ _ _ => t_yes) (fun _ _ _ _ _ => (m_call ih hr rfl U.m_has_form U.F_has_form.kp U.b_has_form (a_cons (m_var 3) (a_cons (m_op op_sub o2_sub (m_var 1) m_int) a_nil))))))))))))
theorem ok_parts_ahead (U : Us K mg w) : ∀ n : Nat, FnOk P w K mg base CX0 (0 + n) U.a_parts_ahead U.d_parts_ahead ["promise"] (spM ⟨K, mg, P, w⟩ 1 (F_parts_ahead n))
  | 0 => fn_none
  | n + 1 => by
    have ih := ok_parts_ahead U n
    exact fn_ok U.F_parts_ahead sc_parts_ahead fun cdv A outer s H E hr =>
    (b_cons (s_set 1 sc_parts_ahead.nd rfl (by first | exact Or.inl rfl | exact Or.inr rfl) (m_ifExp (m_tcmp (o_in (hu100 hr)) o2_inD (m_ix (x_ix (hu_of hr)) o2_ix (m_var 0) m_int (fun _ _ => rfl)) (m_const rfl U.g_AHEAD U.kv_AHEAD) rfl) (m_new (l_lst (a_cons (m_var 0) a_nil))) (m_new (l_lst a_nil))))
    (b_cons (s_if (m_tcmp (op_neD (hr.units)) o2_ne (m_ix (x_ix (hu_of hr)) o2_ix (m_var 0) m_int (fun _ _ => rfl)) m_str (nomark _)) (b_one (s_for (vs := [2]) PassesOwn.never rfl (i_val (m_slice sl_tupA sm_tup (m_var 0) (o_some m_int) o_none)) (g_name 2 sc_parts_ahead.nd rfl (by first | exact Or.inl rfl | exact Or.inr rfl)) (b_one (s_expr (m_metL PySem.F.slot_list_extend PySem.F.type_list_extend mt_exu ml_exu (m_var 1) (a_cons (m_new (l_lc (own := [("part", 3)]) (g := (nameG 3)) (tt := (tvM (op2M (inD true) (gv 3) (gv 1)))) (el := (gv 3)) rfl sc_parts_ahead.nd (i_val (m_call ih hr rfl U.m_parts_ahead U.F_parts_ahead.kp U.b_parts_ahead (a_cons (m_var 2) a_nil))) (blkOk_by (N := N_parts_ahead) (sc := defScope s_parts_ahead) (by decide +kernel)) (fun _ _ _ _ _ => (g_name 3 sc_parts_ahead.nd rfl (by first | exact Or.inl rfl | exact Or.inr rfl))) (fun _ _ _ _ _ => (t_one (m_tcmp (o_notIn (hu100 hr)) o2_inD (m_var 3) (m_var 1) rfl))) (fun _ _ _ _ _ => (m_var 3)))) a_nil)))))) b_nil)
    (b_one (s_ret (m_var 1)))))
theorem ok_looks_too_far (U : Us K mg w) : FnOk P w K mg base CX0 11 U.a_looks_too_far U.d_looks_too_far ["promise"] (spM ⟨K, mg, P, w⟩ 1 F_looks_too_far) :=
  fn_ok U.F_looks_too_far sc_looks_too_far fun cdv A outer s H E hr =>
    (b_one (s_ret (m_cmp op_gt o2_cmp (m_callB c_len cm_len rfl U.z_len (by decide +kernel) (a_cons (m_call (ok_parts_ahead U 10) (hr.mono (show 10 ≤ 10 by decide)) rfl U.m_parts_ahead U.F_parts_ahead.kp U.b_parts_ahead (a_cons (m_var 0) a_nil)) a_nil)) (m_const rfl U.g_MOST_AHEAD U.kv_MOST_AHEAD) (nomark _))))
theorem ok_is_promise (U : Us K mg w) : FnOk P w K mg base CX0 12 U.a_is_promise U.d_is_promise ["thing"] (spM ⟨K, mg, P, w⟩ 1 F_is_promise) :=
  fn_ok U.F_is_promise sc_is_promise fun cdv A outer s H E hr =>
    (b_one (s_ret (m_and (m_call (ok_has_form U 9) (hr.mono (show 10 ≤ 11 by decide)) rfl U.m_has_form U.F_has_form.kp U.b_has_form (a_cons (m_var 0) (a_cons (m_const rfl U.g_DEEPEST_PROMISE U.kv_DEEPEST_PROMISE) a_nil))) (m_one (m_not (m_call (ok_looks_too_far U) (hr.mono (show 11 ≤ 11 by decide)) rfl U.m_looks_too_far U.F_looks_too_far.kp U.b_looks_too_far (a_cons (m_var 0) a_nil)))))))
theorem ok_matches (U : Us K mg w) : FnOk P w K mg base CX0 1 U.a_matches U.d_matches ["mark", "kind", "name"] (spM ⟨K, mg, P, w⟩ 3 F_matches) :=
  fn_ok U.F_matches sc_matches fun cdv A outer s H E hr =>
    (b_one (s_ret (m_and (m_cmp (op_eqD (hr.units)) o2_eq (m_ix (x_ix (hu_of hr)) o2_ix (m_var 0) m_int (fun _ _ => rfl)) (m_var 1) (nomark _)) (m_one (m_cmp (o_in (hu100 hr)) o2_inD (m_var 2) (m_tup (a_cons m_str (a_cons (m_ix (x_ix (hu_of hr)) o2_ix (m_var 0) m_int (fun _ _ => rfl)) a_nil))) rfl)))))
theorem ok_come_true (U : Us K mg w) : FnOk P w K mg base CX0 1 U.a_come_true U.d_come_true ["ahead", "first", "second"] (spM ⟨K, mg, P, w⟩ 3 F_come_true) :=
  fn_ok U.F_come_true sc_come_true fun cdv A outer s H E hr =>
    (b_cons (s_setLc 3 (own := [("_", 9)]) (g := (nameG 9)) (tt := yesT) (el := (newM (lstM nilA))) rfl sc_come_true.nd rfl rfl (sw_true rfl rfl rfl (by decide +kernel)) (i_val (m_var 0)) (blkOk_by (N := N_come_true) (sc := defScope s_come_true) (by decide +kernel)) (fun _ _ _ _ _ => (g_name 9 sc_come_true.nd rfl (by first | exact Or.inl rfl | exact Or.inr rfl))) (fun _ _ _ _ _ => t_yes) (fun _ _ _ _ _ => (m_new (l_lst a_nil))))
    (b_cons (s_for (vs := [4, 5]) PassesOwn.never rfl (i_enumv rfl U.z_enumerate (m_var 0)) (g_tup rfl (gs_cons (g_name 4 sc_come_true.nd rfl (by first | exact Or.inl rfl | exact Or.inr rfl)) (gs_cons (g_name 5 sc_come_true.nd rfl (by first | exact Or.inl rfl | exact Or.inr rfl)) gs_nil))) (b_one (s_if (m_tcmp op_notN o2_notN (m_var 5) m_non (nomark _)) (b_one (s_expr (m_metL PySem.F.slot_list_append PySem.F.type_list_append mt_append ml_app (m_ix (x_ix (hu_of hr)) o2_ix (m_var 3) (m_var 5) (fun _ _ => rfl)) (a_cons (m_var 4) a_nil)))) b_nil)))
    (b_cons (s_set 6 sc_come_true.nd rfl (by first | exact Or.inl rfl | exact Or.inr rfl) (m_new (l_list rfl rfl U.z_list (m_var 2))))
    (b_cons (s_setLc 7 (own := [("at", 4), ("truth", 10)]) (g := (tupG 2 (consG (nameG 4) (consG (nameG 10) nilG)))) (tt := (trT (gv 10))) (el := (gv 4)) rfl sc_come_true.nd rfl rfl (sw_true rfl rfl rfl (by decide +kernel)) (i_enumv rfl U.z_enumerate (m_var 2)) (blkOk_by (N := N_come_true) (sc := defScope s_come_true) (by decide +kernel)) (fun _ _ _ _ _ => (g_tup rfl (gs_cons (g_name 4 sc_come_true.nd rfl (by first | exact Or.inl rfl | exact Or.inr rfl)) (gs_cons (g_name 10 sc_come_true.nd rfl (by first | exact Or.inl rfl | exact Or.inr rfl)) gs_nil)))) (fun _ _ _ _ _ => (t_one (m_tr (m_var 10)))) (fun _ _ _ _ _ => (m_var 4)))
    (b_cons (s_while PassesOwn.never (m_tr (m_var 7)) (b_cons (s_set 8 sc_come_true.nd rfl (by first | exact Or.inl rfl | exact Or.inr rfl) (m_metL0 PySem.F.slot_list_pop PySem.F.type_list_pop mt_pop ml_pop (m_var 7)))
    (b_one (s_for (vs := [4]) PassesOwn.never rfl (i_val (m_ix (x_ix (hu_of hr)) o2_ix (m_var 3) (m_var 8) (fun _ _ => rfl))) (g_name 4 sc_come_true.nd rfl (by first | exact Or.inl rfl | exact Or.inr rfl)) (b_one (s_if (PW.pt (mw_and (m_tr (m_ix (x_ix (hu_of hr)) o2_ix (m_var 1) (m_var 4) (fun _ _ => rfl))) (mw_and1 (mt_not' (m_tr (m_ix (x_ix (hu_of hr)) o2_ix (m_var 6) (m_var 4) (fun _ _ => rfl))))))) (b_cons (s_sub (hu_of hr) m_bl (m_var 6) (m_var 4))
    (b_one (s_expr (m_metL PySem.F.slot_list_append PySem.F.type_list_append mt_append ml_app (m_var 7) (a_cons (m_var 4) a_nil))))) b_nil))))))
    (b_one (s_ret (m_var 6))))))))
theorem ok_RoundRun_truths (U : Us K mg w) : ∀ n : Nat, FnOk P w K mg base CX0 (1 + n) U.a_RoundRun_truths U.d_RoundRun_truths ["self", "promise"] (spM ⟨K, mg, P, w⟩ 2 (F_RoundRun_truths n))
  | 0 => fn_none
  | n + 1 => by
    have ih := ok_RoundRun_truths U n
    exact fn_ok U.F_RoundRun_truths sc_RoundRun_truths fun cdv A outer s H E hr =>
    (b_cons (s_set 2 sc_RoundRun_truths.nd rfl (by first | exact Or.inl rfl | exact Or.inr rfl) (m_ix (x_ix (hu_of hr)) o2_ix (m_var 1) m_int (fun _ _ => rfl)))
    (b_cons (s_if (m_tcmp (op_eqD (hr.units)) o2_eq (m_var 2) m_str (nomark _)) (b_one (s_ret (m_new (l_lc (own := [("_", 5)]) (g := (nameG 5)) (tt := yesT) (el := (cM (.bl true))) rfl sc_RoundRun_truths.nd (i_val (m_fld U.mg_RoundRun U.cl_RoundRun U.na_RoundRun_marks (m_var 0))) (blkOk_by (N := N_RoundRun_truths) (sc := defScope s_RoundRun_truths) (by decide +kernel)) (fun _ _ _ _ _ => (g_name 5 sc_RoundRun_truths.nd rfl (by first | exact Or.inl rfl | exact Or.inr rfl))) (fun _ _ _ _ _ => t_yes) (fun _ _ _ _ _ => m_bl))))) b_nil)
    (b_cons (s_if (m_tcmp (op_eqD (hr.units)) o2_eq (m_var 2) m_str (nomark _)) (b_one (s_ret (m_new (l_lc (own := [("mark", 6)]) (g := (nameG 6)) (tt := yesT) (el := (callM F_matches 3 (consA (gv 6) (consA (op2M ixD (gv 1) (cM (.int 1))) (consA (op2M ixD (gv 1) (cM (.int 2))) nilA))))) rfl sc_RoundRun_truths.nd (i_val (m_fld U.mg_RoundRun U.cl_RoundRun U.na_RoundRun_marks (m_var 0))) (blkOk_by (N := N_RoundRun_truths) (sc := defScope s_RoundRun_truths) (by decide +kernel)) (fun _ _ _ _ _ => (g_name 6 sc_RoundRun_truths.nd rfl (by first | exact Or.inl rfl | exact Or.inr rfl))) (fun _ _ _ _ _ => t_yes) (fun _ _ _ _ _ => (m_call (ok_matches U) (hr.mono (Nat.le_trans (show 1 ≤ 1 by decide) (Nat.le_add_right 1 n))) rfl U.m_matches U.F_matches.kp U.b_matches (a_cons (m_var 6) (a_cons (m_ix (x_ix (hu_of hr)) o2_ix (m_var 1) m_int (fun _ _ => rfl)) (a_cons (m_ix (x_ix (hu_of hr)) o2_ix (m_var 1) m_int (fun _ _ => rfl)) a_nil))))))))) b_nil)
    (b_cons (s_set 3 sc_RoundRun_truths.nd rfl (by first | exact Or.inl rfl | exact Or.inr rfl) (m_new (l_lc (own := [("part", 7)]) (g := (nameG 7)) (tt := yesT) (el := (metI "RoundRun" "truths" (F_RoundRun_truths n) 2 (gv 0) (consA (gv 7) nilA))) rfl sc_RoundRun_truths.nd (i_val (m_slice sl_tupA sm_tup (m_var 1) (o_some m_int) o_none)) (blkOk_by (N := N_RoundRun_truths) (sc := defScope s_RoundRun_truths) (by decide +kernel)) (fun _ _ _ _ _ => (g_name 7 sc_RoundRun_truths.nd rfl (by first | exact Or.inl rfl | exact Or.inr rfl))) (fun _ _ _ _ _ => t_yes) (fun _ _ _ _ _ => (m_meth U.mg_RoundRun (m_var 0) U.cl_RoundRun U.me_RoundRun_truths ih hr U.b_RoundRun_truths (a_cons (m_var 7) a_nil))))))
    (b_cons (s_if (m_tcmp (op_eqD (hr.units)) o2_eq (m_var 2) m_str (nomark _)) (b_one (s_ret (m_new (l_lc (own := [("truth", 8)]) (g := (nameG 8)) (tt := yesT) (el := (notV (gv 8))) rfl sc_RoundRun_truths.nd (i_val (m_ix (x_ix (hu_of hr)) o2_ix (m_var 3) m_int (fun _ _ => rfl))) (blkOk_by (N := N_RoundRun_truths) (sc := defScope s_RoundRun_truths) (by decide +kernel)) (fun _ _ _ _ _ => (g_name 8 sc_RoundRun_truths.nd rfl (by first | exact Or.inl rfl | exact Or.inr rfl))) (fun _ _ _ _ _ => t_yes) (fun _ _ _ _ _ => (m_not (m_var 8))))))) b_nil)
    (b_cons (s_if (m_tcmp (op_eqD (hr.units)) o2_eq (m_var 2) m_str (nomark _)) (b_one (s_ret (m_new (l_lc (own := [("left", 9), ("right", 10)]) (g := (tupG 2 (consG (nameG 9) (consG (nameG 10) nilG)))) (tt := yesT) (el := (andV (gv 9) (gv 10))) rfl sc_RoundRun_truths.nd (i_zip rfl U.z_zip (a_cons (m_ix (x_ix (hu_of hr)) o2_ix (m_var 3) m_int (fun _ _ => rfl)) (a_cons (m_ix (x_ix (hu_of hr)) o2_ix (m_var 3) m_int (fun _ _ => rfl)) a_nil))) (blkOk_by (N := N_RoundRun_truths) (sc := defScope s_RoundRun_truths) (by decide +kernel)) (fun _ _ _ _ _ => (g_tup rfl (gs_cons (g_name 9 sc_RoundRun_truths.nd rfl (by first | exact Or.inl rfl | exact Or.inr rfl)) (gs_cons (g_name 10 sc_RoundRun_truths.nd rfl (by first | exact Or.inl rfl | exact Or.inr rfl)) gs_nil)))) (fun _ _ _ _ _ => t_yes) (fun _ _ _ _ _ => (m_and (m_var 9) (m_one (m_var 10)))))))) b_nil)
    (b_cons (s_if (m_tcmp (op_eqD (hr.units)) o2_eq (m_var 2) m_str (nomark _)) (b_one (s_ret (m_new (l_lc (own := [("left", 9), ("right", 10)]) (g := (tupG 2 (consG (nameG 9) (consG (nameG 10) nilG)))) (tt := yesT) (el := (orV (gv 9) (gv 10))) rfl sc_RoundRun_truths.nd (i_zip rfl U.z_zip (a_cons (m_ix (x_ix (hu_of hr)) o2_ix (m_var 3) m_int (fun _ _ => rfl)) (a_cons (m_ix (x_ix (hu_of hr)) o2_ix (m_var 3) m_int (fun _ _ => rfl)) a_nil))) (blkOk_by (N := N_RoundRun_truths) (sc := defScope s_RoundRun_truths) (by decide +kernel)) (fun _ _ _ _ _ => (g_tup rfl (gs_cons (g_name 9 sc_RoundRun_truths.nd rfl (by first | exact Or.inl rfl | exact Or.inr rfl)) (gs_cons (g_name 10 sc_RoundRun_truths.nd rfl (by first | exact Or.inl rfl | exact Or.inr rfl)) gs_nil)))) (fun _ _ _ _ _ => t_yes) (fun _ _ _ _ _ => (m_or (m_var 9) (m_one (m_var 10)))))))) b_nil)
    (b_cons (s_set 4 sc_RoundRun_truths.nd rfl (by first | exact Or.inl rfl | exact Or.inr rfl) (m_ifExp (m_tcmp (o_in (hu100 hr)) o2_inD (m_var 2) (m_tup (a_cons m_str (a_cons m_str a_nil))) rfl) (m_fld U.mg_RoundRun U.cl_RoundRun U.na_RoundRun_behind (m_var 0)) (m_fld U.mg_RoundRun U.cl_RoundRun U.na_RoundRun_across_from (m_var 0))))
    (b_cons (s_if (m_tcmp (o_in (hu100 hr)) o2_inD (m_var 2) (m_tup (a_cons m_str (a_cons m_str a_nil))) rfl) (b_one (s_ret (m_new (l_lc (own := [("at", 11)]) (g := (nameG 11)) (tt := yesT) (el := (andV (op2M notND' (gv 11) (cM .non)) (op2M ixD (op2M ixD (gv 3) (cM (.int 0))) (gv 11)))) rfl sc_RoundRun_truths.nd (i_val (m_var 4)) (blkOk_by (N := N_RoundRun_truths) (sc := defScope s_RoundRun_truths) (by decide +kernel)) (fun _ _ _ _ _ => (g_name 11 sc_RoundRun_truths.nd rfl (by first | exact Or.inl rfl | exact Or.inr rfl))) (fun _ _ _ _ _ => t_yes) (fun _ _ _ _ _ => (m_and (m_cmp op_notN o2_notN (m_var 11) m_non (nomark _)) (m_one (m_ix (x_ix (hu_of hr)) o2_ix (m_ix (x_ix (hu_of hr)) o2_ix (m_var 3) m_int (fun _ _ => rfl)) (m_var 11) (fun _ _ => rfl))))))))) b_nil)
    (b_one (s_ret (m_call (ok_come_true U) (hr.mono (Nat.le_trans (show 1 ≤ 1 by decide) (Nat.le_add_right 1 n))) rfl U.m_come_true U.F_come_true.kp U.b_come_true (a_cons (m_var 4) (a_cons (m_ix (x_ix (hu_of hr)) o2_ix (m_var 3) m_int (fun _ _ => rfl)) (a_cons (m_ix (x_ix (hu_of hr)) o2_ix (m_var 3) m_int (fun _ _ => rfl)) a_nil)))))))))))))))
theorem ok_RoundRun_match_calls (U : Us K mg w) : FnOk P w K mg base CX0 1 U.a_RoundRun_match_calls U.d_RoundRun_match_calls ["self", "start", "end"] (spM ⟨K, mg, P, w⟩ 3 F_RoundRun_match_calls) :=
  fn_ok U.F_RoundRun_match_calls sc_RoundRun_match_calls fun cdv A outer s H E hr =>
    (b_cons (s_set 3 sc_RoundRun_match_calls.nd rfl (by first | exact Or.inl rfl | exact Or.inr rfl) (m_new (l_lst a_nil)))
    (b_one (s_for (vs := [4]) PassesOwn.never rfl (i_rng2 rfl U.z_range (a_cons (m_var 1) (a_cons (m_var 2) a_nil))) (g_name 4 sc_RoundRun_match_calls.nd rfl (by first | exact Or.inl rfl | exact Or.inr rfl)) (b_one (s_if (m_tcmp (op_eqD (hr.units)) o2_eq (m_ix (x_ix (hu_of hr)) o2_ix (m_ix (x_ix (hu_of hr)) o2_ix (m_fld U.mg_RoundRun U.cl_RoundRun U.na_RoundRun_marks (m_var 0)) (m_var 4) (fun _ _ => rfl)) m_int (fun _ _ => rfl)) m_str (nomark _)) (b_one (s_expr (m_metL PySem.F.slot_list_append PySem.F.type_list_append mt_append ml_app (m_var 3) (a_cons (m_var 4) a_nil)))) (b_one (s_if (PW.pt (mw_and (m_tcmp (op_eqD (hr.units)) o2_eq (m_ix (x_ix (hu_of hr)) o2_ix (m_ix (x_ix (hu_of hr)) o2_ix (m_fld U.mg_RoundRun U.cl_RoundRun U.na_RoundRun_marks (m_var 0)) (m_var 4) (fun _ _ => rfl)) m_int (fun _ _ => rfl)) m_str (nomark _)) (mw_and1 (m_tr (m_var 3))))) (b_one (s_sub (hu_of hr) (m_var 4) (m_fld U.mg_RoundRun U.cl_RoundRun U.na_RoundRun_across_from (m_var 0)) (m_metL0 PySem.F.slot_list_pop PySem.F.type_list_pop mt_pop ml_pop (m_var 3)))) b_nil)))))))
theorem ok_RoundRun_plain_beyond (U : Us K mg w) : FnOk P w K mg base CX0 1 U.a_RoundRun_plain_beyond U.d_RoundRun_plain_beyond ["self", "at"] (spM ⟨K, mg, P, w⟩ 2 F_RoundRun_plain_beyond) :=
  fn_ok U.F_RoundRun_plain_beyond sc_RoundRun_plain_beyond fun cdv A outer s H E hr =>
    (b_cons (s_set 2 sc_RoundRun_plain_beyond.nd rfl (by first | exact Or.inl rfl | exact Or.inr rfl) (m_ix (x_ix (hu_of hr)) o2_ix (m_fld U.mg_RoundRun U.cl_RoundRun U.na_RoundRun_behind (m_var 0)) (m_var 1) (fun _ _ => rfl)))
    (b_one (s_ret (m_ifExp (PW.pt (mw_or (m_tcmp (op_eqD (hr.units)) o2_eq (m_ix (x_ix (hu_of hr)) o2_ix (m_ix (x_ix (hu_of hr)) o2_ix (m_fld U.mg_RoundRun U.cl_RoundRun U.na_RoundRun_marks (m_var 0)) (m_var 1) (fun _ _ => rfl)) m_int (fun _ _ => rfl)) m_str (nomark _)) (mw_or1 (m_tcmp (op_eqD (hr.units)) o2_eq (m_ix (x_ix (hu_of hr)) o2_ix (m_ix (x_ix (hu_of hr)) o2_ix (m_fld U.mg_RoundRun U.cl_RoundRun U.na_RoundRun_marks (m_var 0)) (m_var 2) (fun _ _ => rfl)) m_int (fun _ _ => rfl)) m_str (nomark _))))) m_non (m_var 2)))))
theorem ok_RoundRun___init__ (U : Us K mg w) : FnOk P w K mg base CX0 2 U.a_RoundRun___init__ U.d_RoundRun___init__ ["self", "begin", "loop"] (spM ⟨K, mg, P, w⟩ 3 F_RoundRun___init__) :=
  fn_ok U.F_RoundRun___init__ sc_RoundRun___init__ fun cdv A outer s H E hr =>
    (b_cons (s_fld U.mg_RoundRun U.cl_RoundRun U.na_RoundRun_marks (m_var 0) (m_op o_add o2_add (m_var 1) (m_var 2)))
    (b_cons (s_fld U.mg_RoundRun U.cl_RoundRun U.na_RoundRun_behind (m_var 0) (m_op op_cat o2_cat (m_new (l_rng2 rfl rfl U.z_list rfl U.z_range m_int (m_callB c_len cm_len rfl U.z_len (by decide +kernel) (a_cons (m_fld U.mg_RoundRun U.cl_RoundRun U.na_RoundRun_marks (m_var 0)) a_nil)))) (m_new (l_lst (a_cons (m_callB c_len cm_len rfl U.z_len (by decide +kernel) (a_cons (m_var 1) a_nil)) a_nil)))))
    (b_cons (s_fld U.mg_RoundRun U.cl_RoundRun U.na_RoundRun_across_from (m_var 0) (m_new (l_lc (own := [("at", 3)]) (g := (nameG 3)) (tt := yesT) (el := (metI "RoundRun" "plain_beyond" F_RoundRun_plain_beyond 2 (gv 0) (consA (gv 3) nilA))) rfl sc_RoundRun___init__.nd (i_rng1 rfl U.z_range (a_cons (m_callB c_len cm_len rfl U.z_len (by decide +kernel) (a_cons (m_fld U.mg_RoundRun U.cl_RoundRun U.na_RoundRun_marks (m_var 0)) a_nil)) a_nil)) (blkOk_by (N := N_RoundRun___init__) (sc := defScope s_RoundRun___init__) (by decide +kernel)) (fun _ _ _ _ _ => (g_name 3 sc_RoundRun___init__.nd rfl (by first | exact Or.inl rfl | exact Or.inr rfl))) (fun _ _ _ _ _ => t_yes) (fun _ _ _ _ _ => (m_meth U.mg_RoundRun (m_var 0) U.cl_RoundRun U.me_RoundRun_plain_beyond (ok_RoundRun_plain_beyond U) (hr.mono (show 1 ≤ 1 by decide)) U.b_RoundRun_plain_beyond (a_cons (m_var 3) a_nil))))))
    (b_cons (s_expr (m_meth U.mg_RoundRun (m_var 0) U.cl_RoundRun U.me_RoundRun_match_calls (ok_RoundRun_match_calls U) (hr.mono (show 1 ≤ 1 by decide)) U.b_RoundRun_match_calls (a_cons m_int (a_cons (m_callB c_len cm_len rfl U.z_len (by decide +kernel) (a_cons (m_var 1) a_nil)) a_nil))))
    (b_one (s_expr (m_meth U.mg_RoundRun (m_var 0) U.cl_RoundRun U.me_RoundRun_match_calls (ok_RoundRun_match_calls U) (hr.mono (show 1 ≤ 1 by decide)) U.b_RoundRun_match_calls (a_cons (m_callB c_len cm_len rfl U.z_len (by decide +kernel) (a_cons (m_var 1) a_nil)) (a_cons (m_callB c_len cm_len rfl U.z_len (by decide +kernel) (a_cons (m_fld U.mg_RoundRun U.cl_RoundRun U.na_RoundRun_marks (m_var 0)) a_nil)) a_nil)))))))))
theorem ok_holds (U : Us K mg w) : FnOk P w K mg base CX0 12 U.a_holds U.d_holds ["promise", "begin", "loop", "i"] (spM ⟨K, mg, P, w⟩ 4 F_holds) :=
  fn_ok U.F_holds sc_holds fun cdv A outer s H E hr =>
    (b_one (s_ret (m_ix (x_ix (hu_of hr)) o2_ix (m_meth U.mg_RoundRun (m_make U.mg_RoundRun U.mk_RoundRun (ok_RoundRun___init__ U) (hr.mono (show 3 ≤ 11 by decide)) rfl U.b_RoundRun___init__ (a_cons (m_var 1) (a_cons (m_var 2) a_nil))) U.cl_RoundRun U.me_RoundRun_truths (ok_RoundRun_truths U 10) (hr.mono (show 11 ≤ 11 by decide)) U.b_RoundRun_truths (a_cons (m_var 0) a_nil)) (m_var 3) (fun _ _ => rfl))))
theorem ok__law_start (U : Us K mg w) : FnOk P w K mg base CX0 1 U.a__law_start U.d__law_start ["script"] (spM ⟨K, mg, P, w⟩ 1 F__law_start) :=
  fn_ok U.F__law_start sc__law_start fun cdv A outer s H E hr =>
    (b_one (s_ret (m_disp (pps_cons m_str (m_new (l_lc (own := [("cell", 1)]) (g := (nameG 1)) (tt := yesT) (el := (bcM absD (consA (bcM intD (consA (gv 1) nilA)) nilA))) rfl sc__law_start.nd (i_val (m_var 0)) (blkOk_by (N := N__law_start) (sc := defScope s__law_start) (by decide +kernel)) (fun _ _ _ _ _ => (g_name 1 sc__law_start.nd rfl (by first | exact Or.inl rfl | exact Or.inr rfl))) (fun _ _ _ _ _ => t_yes) (fun _ _ _ _ _ => (m_callB call_abs cm_abs rfl U.z_abs (by decide +kernel) (a_cons (m_callTy call_int1 cm_int rfl U.z_int (by decide +kernel) (a_cons (m_var 1) a_nil)) a_nil))))) (pps_cons m_str m_int (pps_cons m_str m_int (pps_cons m_str (m_op o_add o2_add m_int (m_callB c_len cm_len rfl U.z_len (by decide +kernel) (a_cons (m_var 0) a_nil))) pps_nil)))) rfl rfl (by simp) (by decide))))
theorem ok__law_draw (U : Us K mg w) : FnOk P w K mg base CX0 1 U.a__law_draw U.d__law_draw ["state", "bound"] (spM ⟨K, mg, P, w⟩ 2 F__law_draw) :=
  fn_ok U.F__law_draw sc__law_draw fun cdv A outer s H E hr =>
    (b_cons (s_if (PW.pt (mw_and (m_tcmp (op_eqD (hr.units)) o2_eq (m_ix (x_ix (hu_of hr)) o2_ix (m_var 0) m_str (fun _ _ => rfl)) m_int (nomark _)) (mw_and1 (m_tcmp (o_lt (hr.units)) o2_lt (m_ix (x_ix (hu_of hr)) o2_ix (m_var 0) m_str (fun _ _ => rfl)) (m_callB c_len cm_len rfl U.z_len (by decide +kernel) (a_cons (m_ix (x_ix (hu_of hr)) o2_ix (m_var 0) m_str (fun _ _ => rfl)) a_nil)) (nomark _))))) (b_cons (s_set 2 sc__law_draw.nd rfl (by first | exact Or.inl rfl | exact Or.inr rfl) (m_ix (x_ix (hu_of hr)) o2_ix (m_ix (x_ix (hu_of hr)) o2_ix (m_var 0) m_str (fun _ _ => rfl)) (m_ix (x_ix (hu_of hr)) o2_ix (m_var 0) m_str (fun _ _ => rfl)) (fun _ _ => rfl)))
    (b_cons (s_sub (hu_of hr) (m_op o_add o2_add (m_ix (x_ix (hu_of hr)) o2_ix (m_var 0) m_str (fun _ _ => rfl)) m_int) (m_var 0) m_str)
    (b_cons (s_sub (hu_of hr) (m_op op_mod o2_mod (m_callTy call_int1 cm_int rfl U.z_int (by decide +kernel) (a_cons (m_op o_add o2_add (m_op o_add o2_add (m_op op_mul o2_mul (m_ix (x_ix (hu_of hr)) o2_ix (m_var 0) m_str (fun _ _ => rfl)) m_int) (m_var 2)) m_int) a_nil)) m_int) (m_var 0) m_str)
    (b_cons (s_if (m_tcmp (o_lt (hr.units)) o2_lt (m_var 2) (m_op op_pow o2_pow m_int m_int) (nomark _)) (b_one (s_ret (m_op op_mod o2_mod (m_callTy call_int1 cm_int rfl U.z_int (by decide +kernel) (a_cons (m_var 2) a_nil)) (m_var 1)))) b_nil)
    (b_one (s_sub (hu_of hr) (m_var 2) (m_var 0) m_str)))))) b_nil)
    (b_cons (s_if (m_tcmp op_gt o2_cmp (m_ix (x_ix (hu_of hr)) o2_ix (m_var 0) m_str (fun _ _ => rfl)) m_int (nomark _)) (b_cons (s_set 3 sc__law_draw.nd rfl (by first | exact Or.inl rfl | exact Or.inr rfl) (m_op op_mod o2_mod (m_callTy call_int1 cm_int rfl U.z_int (by decide +kernel) (a_cons (m_ix (x_ix (hu_of hr)) o2_ix (m_var 0) m_str (fun _ _ => rfl)) a_nil)) (m_var 1)))
    (b_cons (s_sub (hu_of hr) (m_op op_fdiv o2_fdiv (m_ix (x_ix (hu_of hr)) o2_ix (m_var 0) m_str (fun _ _ => rfl)) (m_var 1)) (m_var 0) m_str)
    (b_one (s_ret (m_var 3))))) b_nil)
    (b_cons (s_sub (hu_of hr) (m_op op_mod o2_mod (m_callTy call_int1 cm_int rfl U.z_int (by decide +kernel) (a_cons (m_op o_add o2_add (m_op op_mul o2_mul (m_ix (x_ix (hu_of hr)) o2_ix (m_var 0) m_str (fun _ _ => rfl)) m_int) m_int) a_nil)) m_int) (m_var 0) m_str)
    (b_one (s_ret (m_op op_mod o2_mod (m_callTy call_int1 cm_int rfl U.z_int (by decide +kernel) (a_cons (m_op op_mod o2_mod (m_callTy call_int1 cm_int rfl U.z_int (by decide +kernel) (a_cons (m_op o_add o2_add (m_op op_mul o2_mul (m_ix (x_ix (hu_of hr)) o2_ix (m_var 0) m_str (fun _ _ => rfl)) m_int) m_int) a_nil)) m_int) a_nil)) (m_var 1)))))))
theorem ok__law_pick (U : Us K mg w) : FnOk P w K mg base CX0 2 U.a__law_pick U.d__law_pick ["state", "things"] (spM ⟨K, mg, P, w⟩ 2 F__law_pick) :=
  fn_ok U.F__law_pick sc__law_pick fun cdv A outer s H E hr =>
    (b_one (s_ret (m_ix (x_ix (hu_of hr)) o2_ix (m_var 1) (m_call (ok__law_draw U) (hr.mono (show 1 ≤ 1 by decide)) rfl U.m__law_draw U.F__law_draw.kp U.b__law_draw (a_cons (m_var 0) (a_cons (m_callB c_len cm_len rfl U.z_len (by decide +kernel) (a_cons (m_var 1) a_nil)) a_nil))) (fun _ _ => rfl))))
theorem ok__law_is (U : Us K mg w) : FnOk P w K mg base CX0 1 U.a__law_is U.d__law_is ["actual", "due"] (spM ⟨K, mg, P, w⟩ 2 F__law_is) :=
  fn_ok U.F__law_is sc__law_is fun cdv A outer s H E hr =>
    (b_one (s_ret (m_and (m_isi rfl U.z_isinstance (m_var 0) rfl U.z_bool (by decide +kernel)) (m_one (m_cmp (op_eqD (hr.units)) o2_eq (m_var 0) (m_var 1) (nomark _))))))
theorem ok__law_once (U : Us K mg w) : FnOk P w K mg base CX0 1 U.a__law_once U.d__law_once ["things"] (spM ⟨K, mg, P, w⟩ 1 F__law_once) :=
  fn_ok U.F__law_once sc__law_once fun cdv A outer s H E hr =>
    (b_cons (s_set 1 sc__law_once.nd rfl (by first | exact Or.inl rfl | exact Or.inr rfl) (m_new (l_lst a_nil)))
    (b_cons (s_for (vs := [2]) PassesOwn.never rfl (i_val (m_var 0)) (g_name 2 sc__law_once.nd rfl (by first | exact Or.inl rfl | exact Or.inr rfl)) (b_one (s_if (m_tcmp (o_notIn (hu100 hr)) o2_inD (m_var 2) (m_var 1) rfl) (b_one (s_expr (m_metL PySem.F.slot_list_append PySem.F.type_list_append mt_append ml_app (m_var 1) (a_cons (m_var 2) a_nil)))) b_nil)))
    (b_one (s_ret (m_var 1)))))
theorem ok__law_promise (U : Us K mg w) : ∀ n : Nat, FnOk P w K mg base CX0 (2 + n) U.a__law_promise U.d__law_promise ["state", "deep"] (spM ⟨K, mg, P, w⟩ 2 (F__law_promise n))
  | 0 => fn_none
  | n + 1 => by
    have ih := ok__law_promise U n
    exact fn_ok U.F__law_promise sc__law_promise fun cdv A outer s H E hr =>
    (b_cons (s_set 2 sc__law_promise.nd rfl (by first | exact Or.inl rfl | exact Or.inr rfl) (m_ifExp (m_tcmp op_gt o2_cmp (m_var 1) m_int (nomark _)) (m_call (ok__law_draw U) (hr.mono (Nat.le_trans (show 1 ≤ 2 by decide) (Nat.le_add_right 2 n))) rfl U.m__law_draw U.F__law_draw.kp U.b__law_draw (a_cons (m_var 0) (a_cons m_int a_nil))) m_int))
    (b_cons (s_if (m_tcmp (o_lt (hr.units)) o2_lt (m_var 2) m_int (nomark _)) (b_cons (s_set 3 sc__law_promise.nd rfl (by first | exact Or.inl rfl | exact Or.inr rfl) (m_call (ok__law_pick U) (hr.mono (Nat.le_trans (show 2 ≤ 2 by decide) (Nat.le_add_right 2 n))) rfl U.m__law_pick U.F__law_pick.kp U.b__law_pick (a_cons (m_var 0) (a_cons (m_new (l_lst (a_cons m_str (a_cons m_str (a_cons m_str (a_cons m_str (a_cons m_str a_nil))))))) a_nil))))
    (b_one (s_ret (m_call (ok__law_pick U) (hr.mono (Nat.le_trans (show 2 ≤ 2 by decide) (Nat.le_add_right 2 n))) rfl U.m__law_pick U.F__law_pick.kp U.b__law_pick (a_cons (m_var 0) (a_cons (m_new (l_lst (a_cons (m_tup (a_cons m_str (a_cons (m_var 3) (a_cons (m_call (ok__law_pick U) (hr.mono (Nat.le_trans (show 2 ≤ 2 by decide) (Nat.le_add_right 2 n))) rfl U.m__law_pick U.F__law_pick.kp U.b__law_pick (a_cons (m_var 0) (a_cons (m_new (l_lst (a_cons m_str (a_cons m_str (a_cons m_str a_nil))))) a_nil))) a_nil)))) (a_cons (m_tup (a_cons m_str (a_cons m_str (a_cons m_str a_nil)))) (a_cons (m_tup (a_cons m_str a_nil)) a_nil))))) a_nil)))))) b_nil)
    (b_cons (s_if (m_tcmp (o_in (hu100 hr)) o2_inD (m_var 2) (m_new (l_lst (a_cons m_int (a_cons m_int a_nil)))) rfl) (b_one (s_ret (m_tup (a_cons (m_call (ok__law_pick U) (hr.mono (Nat.le_trans (show 2 ≤ 2 by decide) (Nat.le_add_right 2 n))) rfl U.m__law_pick U.F__law_pick.kp U.b__law_pick (a_cons (m_var 0) (a_cons (m_new (l_lst (a_cons m_str (a_cons m_str (a_cons m_str a_nil))))) a_nil))) (a_cons (m_call ih hr rfl U.m__law_promise U.F__law_promise.kp U.b__law_promise (a_cons (m_var 0) (a_cons (m_op op_sub o2_sub (m_var 1) m_int) a_nil))) a_nil))))) b_nil)
    (b_cons (s_set 4 sc__law_promise.nd rfl (by first | exact Or.inl rfl | exact Or.inr rfl) (m_call (ok__law_pick U) (hr.mono (Nat.le_trans (show 2 ≤ 2 by decide) (Nat.le_add_right 2 n))) rfl U.m__law_pick U.F__law_pick.kp U.b__law_pick (a_cons (m_var 0) (a_cons (m_new (l_lst (a_cons m_str (a_cons m_str (a_cons m_str (a_cons m_str (a_cons m_str (a_cons m_str a_nil)))))))) a_nil))))
    (b_one (s_ret (m_tup (a_cons (m_var 4) (a_cons (m_call ih hr rfl U.m__law_promise U.F__law_promise.kp U.b__law_promise (a_cons (m_var 0) (a_cons (m_op op_sub o2_sub (m_var 1) m_int) a_nil))) (a_cons (m_call ih hr rfl U.m__law_promise U.F__law_promise.kp U.b__law_promise (a_cons (m_var 0) (a_cons (m_op op_sub o2_sub (m_var 1) m_int) a_nil))) a_nil))))))))))
theorem ok__law_matches (U : Us K mg w) : FnOk P w K mg base CX0 1 U.a__law_matches U.d__law_matches ["begin", "around"] (spM ⟨K, mg, P, w⟩ 2 F__law_matches) :=
  fn_ok U.F__law_matches sc__law_matches fun cdv A outer s H E hr =>
    (b_cons (s_set 2 sc__law_matches.nd rfl (by first | exact Or.inl rfl | exact Or.inr rfl) m_newK)
    (b_cons (s_for (vs := [3]) PassesOwn.never rfl (i_lst (l_lst (a_cons (m_tup (a_cons m_int (a_cons (m_var 0) a_nil))) (a_cons (m_tup (a_cons (m_callB c_len cm_len rfl U.z_len (by decide +kernel) (a_cons (m_var 0) a_nil)) (a_cons (m_var 1) a_nil))) a_nil)))) (g_name 3 sc__law_matches.nd rfl (by first | exact Or.inl rfl | exact Or.inr rfl)) (b_cons (s_set 4 sc__law_matches.nd rfl (by first | exact Or.inl rfl | exact Or.inr rfl) (m_new (l_lst a_nil)))
    (b_one (s_for (vs := [5]) PassesOwn.never rfl (i_rng1 rfl U.z_range (a_cons (m_callB c_len cm_len rfl U.z_len (by decide +kernel) (a_cons (m_ix (x_ix (hu_of hr)) o2_ix (m_var 3) m_int (fun _ _ => rfl)) a_nil)) a_nil)) (g_name 5 sc__law_matches.nd rfl (by first | exact Or.inl rfl | exact Or.inr rfl)) (b_cons (s_if (m_tcmp (op_eqD (hr.units)) o2_eq (m_ix (x_ix (hu_of hr)) o2_ix (m_ix (x_ix (hu_of hr)) o2_ix (m_ix (x_ix (hu_of hr)) o2_ix (m_var 3) m_int (fun _ _ => rfl)) (m_var 5) (fun _ _ => rfl)) m_int (fun _ _ => rfl)) m_str (nomark _)) (b_one (s_expr (m_metL PySem.F.slot_list_append PySem.F.type_list_append mt_append ml_app (m_var 4) (a_cons (m_op o_add o2_add (m_ix (x_ix (hu_of hr)) o2_ix (m_var 3) m_int (fun _ _ => rfl)) (m_var 5)) a_nil)))) b_nil)
    (b_one (s_if (PW.pt (mw_and (m_tcmp (op_eqD (hr.units)) o2_eq (m_ix (x_ix (hu_of hr)) o2_ix (m_ix (x_ix (hu_of hr)) o2_ix (m_ix (x_ix (hu_of hr)) o2_ix (m_var 3) m_int (fun _ _ => rfl)) (m_var 5) (fun _ _ => rfl)) m_int (fun _ _ => rfl)) m_str (nomark _)) (mw_and1 (m_tcmp op_gt o2_cmp (m_callB c_len cm_len rfl U.z_len (by decide +kernel) (a_cons (m_var 4) a_nil)) m_int (nomark _))))) (b_one (s_sub (hu_of hr) (m_op o_add o2_add (m_ix (x_ix (hu_of hr)) o2_ix (m_var 3) m_int (fun _ _ => rfl)) (m_var 5)) (m_var 2) (m_metL0 PySem.F.slot_list_pop PySem.F.type_list_pop mt_pop ml_pop (m_var 4)))) b_nil)))))))
    (b_one (s_ret (m_var 2)))))
theorem ok__law_behind (U : Us K mg w) : FnOk P w K mg base CX0 1 U.a__law_behind U.d__law_behind ["marks", "begin", "i"] (spM ⟨K, mg, P, w⟩ 3 F__law_behind) :=
  fn_ok U.F__law_behind sc__law_behind fun cdv A outer s H E hr =>
    (b_one (s_ret (m_ifExp (m_tcmp (o_lt (hr.units)) o2_lt (m_op o_add o2_add (m_var 2) m_int) (m_callB c_len cm_len rfl U.z_len (by decide +kernel) (a_cons (m_var 0) a_nil)) (nomark _)) (m_op o_add o2_add (m_var 2) m_int) (m_callB c_len cm_len rfl U.z_len (by decide +kernel) (a_cons (m_var 1) a_nil)))))
theorem ok__law_across (U : Us K mg w) : FnOk P w K mg base CX0 2 U.a__law_across U.d__law_across ["marks", "begin", "matches_v", "i"] (spM ⟨K, mg, P, w⟩ 4 F__law_across) :=
  fn_ok U.F__law_across sc__law_across fun cdv A outer s H E hr =>
    (b_cons (s_if (m_tcmp (op_eqD (hr.units)) o2_eq (m_ix (x_ix (hu_of hr)) o2_ix (m_ix (x_ix (hu_of hr)) o2_ix (m_var 0) (m_var 3) (fun _ _ => rfl)) m_int (fun _ _ => rfl)) m_str (nomark _)) (b_one (s_ret (m_dget1 (hu_of hr) (m_var 2) (m_var 3) ⟨rfl, rfl, rfl, rfl⟩))) b_nil)
    (b_cons (s_set 4 sc__law_across.nd rfl (by first | exact Or.inl rfl | exact Or.inr rfl) (m_call (ok__law_behind U) (hr.mono (show 1 ≤ 1 by decide)) rfl U.m__law_behind U.F__law_behind.kp U.b__law_behind (a_cons (m_var 0) (a_cons (m_var 1) (a_cons (m_var 3) a_nil)))))
    (b_one (s_ret (m_ifExp (m_tcmp (op_eqD (hr.units)) o2_eq (m_ix (x_ix (hu_of hr)) o2_ix (m_ix (x_ix (hu_of hr)) o2_ix (m_var 0) (m_var 4) (fun _ _ => rfl)) m_int (fun _ _ => rfl)) m_str (nomark _)) m_non (m_var 4))))))
theorem ok__law_truths (U : Us K mg w) : ∀ n : Nat, FnOk P w K mg base CX0 (2 + n) U.a__law_truths U.d__law_truths ["promise", "begin", "around"] (spM ⟨K, mg, P, w⟩ 3 (F__law_truths n))
  | 0 => fn_none
  | n + 1 => by
    have ih := ok__law_truths U n
    exact fn_ok U.F__law_truths sc__law_truths fun cdv A outer s H E hr =>
    (b_cons (s_set 3 sc__law_truths.nd rfl (by first | exact Or.inl rfl | exact Or.inr rfl) (m_op op_cat o2_cat (m_new (l_list rfl rfl U.z_list (m_var 1))) (m_new (l_list rfl rfl U.z_list (m_var 2)))))
    (b_cons (s_set 4 sc__law_truths.nd rfl (by first | exact Or.inl rfl | exact Or.inr rfl) (m_call (ok__law_matches U) (hr.mono (Nat.le_trans (show 1 ≤ 2 by decide) (Nat.le_add_right 2 n))) rfl U.m__law_matches U.F__law_matches.kp U.b__law_matches (a_cons (m_var 1) (a_cons (m_var 2) a_nil))))
    (b_cons (s_if (m_tcmp (op_eqD (hr.units)) o2_eq (m_ix (x_ix (hu_of hr)) o2_ix (m_var 0) m_int (fun _ _ => rfl)) m_str (nomark _)) (b_one (s_ret (m_new (l_lc (own := [("mark", 12)]) (g := (nameG 12)) (tt := yesT) (el := (cM (.bl true))) rfl sc__law_truths.nd (i_val (m_var 3)) (blkOk_by (N := N__law_truths) (sc := defScope s__law_truths) (by decide +kernel)) (fun _ _ _ _ _ => (g_name 12 sc__law_truths.nd rfl (by first | exact Or.inl rfl | exact Or.inr rfl))) (fun _ _ _ _ _ => t_yes) (fun _ _ _ _ _ => m_bl))))) b_nil)
    (b_cons (s_if (m_tcmp (op_eqD (hr.units)) o2_eq (m_ix (x_ix (hu_of hr)) o2_ix (m_var 0) m_int (fun _ _ => rfl)) m_str (nomark _)) (b_one (s_ret (m_new (l_lc (own := [("mark", 12)]) (g := (nameG 12)) (tt := yesT) (el := (andV (op2M eqD (op2M ixD (gv 12) (cM (.int 0))) (op2M ixD (gv 0) (cM (.int 1)))) (op2M (inD false) (op2M ixD (gv 0) (cM (.int 2))) (newM (lstM (consA (cM (.str "")) (consA (op2M ixD (gv 12) (cM (.int 1))) nilA))))))) rfl sc__law_truths.nd (i_val (m_var 3)) (blkOk_by (N := N__law_truths) (sc := defScope s__law_truths) (by decide +kernel)) (fun _ _ _ _ _ => (g_name 12 sc__law_truths.nd rfl (by first | exact Or.inl rfl | exact Or.inr rfl))) (fun _ _ _ _ _ => t_yes) (fun _ _ _ _ _ => (m_and (m_cmp (op_eqD (hr.units)) o2_eq (m_ix (x_ix (hu_of hr)) o2_ix (m_var 12) m_int (fun _ _ => rfl)) (m_ix (x_ix (hu_of hr)) o2_ix (m_var 0) m_int (fun _ _ => rfl)) (nomark _)) (m_one (m_cmp (o_in (hu100 hr)) o2_inD (m_ix (x_ix (hu_of hr)) o2_ix (m_var 0) m_int (fun _ _ => rfl)) (m_new (l_lst (a_cons m_str (a_cons (m_ix (x_ix (hu_of hr)) o2_ix (m_var 12) m_int (fun _ _ => rfl)) a_nil)))) rfl)))))))) b_nil)
    (b_cons (s_set 5 sc__law_truths.nd rfl (by first | exact Or.inl rfl | exact Or.inr rfl) (m_new (l_lc (own := [("part", 13)]) (g := (nameG 13)) (tt := yesT) (el := (callM (F__law_truths n) 3 (consA (gv 13) (consA (gv 1) (consA (gv 2) nilA))))) rfl sc__law_truths.nd (i_val (m_slice sl_tupA sm_tup (m_var 0) (o_some m_int) o_none)) (blkOk_by (N := N__law_truths) (sc := defScope s__law_truths) (by decide +kernel)) (fun _ _ _ _ _ => (g_name 13 sc__law_truths.nd rfl (by first | exact Or.inl rfl | exact Or.inr rfl))) (fun _ _ _ _ _ => t_yes) (fun _ _ _ _ _ => (m_call ih hr rfl U.m__law_truths U.F__law_truths.kp U.b__law_truths (a_cons (m_var 13) (a_cons (m_var 1) (a_cons (m_var 2) a_nil))))))))
    (b_cons (s_if (m_tcmp (op_eqD (hr.units)) o2_eq (m_ix (x_ix (hu_of hr)) o2_ix (m_var 0) m_int (fun _ _ => rfl)) m_str (nomark _)) (b_one (s_ret (m_new (l_lc (own := [("i", 7)]) (g := (nameG 7)) (tt := yesT) (el := (notV (op2M ixD (op2M ixD (gv 5) (cM (.int 0))) (gv 7)))) rfl sc__law_truths.nd (i_rng1 rfl U.z_range (a_cons (m_callB c_len cm_len rfl U.z_len (by decide +kernel) (a_cons (m_var 3) a_nil)) a_nil)) (blkOk_by (N := N__law_truths) (sc := defScope s__law_truths) (by decide +kernel)) (fun _ _ _ _ _ => (g_name 7 sc__law_truths.nd rfl (by first | exact Or.inl rfl | exact Or.inr rfl))) (fun _ _ _ _ _ => t_yes) (fun _ _ _ _ _ => (m_not (m_ix (x_ix (hu_of hr)) o2_ix (m_ix (x_ix (hu_of hr)) o2_ix (m_var 5) m_int (fun _ _ => rfl)) (m_var 7) (fun _ _ => rfl)))))))) b_nil)
    (b_cons (s_if (m_tcmp (op_eqD (hr.units)) o2_eq (m_ix (x_ix (hu_of hr)) o2_ix (m_var 0) m_int (fun _ _ => rfl)) m_str (nomark _)) (b_one (s_ret (m_new (l_lc (own := [("i", 7)]) (g := (nameG 7)) (tt := yesT) (el := (andV (op2M ixD (op2M ixD (gv 5) (cM (.int 0))) (gv 7)) (op2M ixD (op2M ixD (gv 5) (cM (.int 1))) (gv 7)))) rfl sc__law_truths.nd (i_rng1 rfl U.z_range (a_cons (m_callB c_len cm_len rfl U.z_len (by decide +kernel) (a_cons (m_var 3) a_nil)) a_nil)) (blkOk_by (N := N__law_truths) (sc := defScope s__law_truths) (by decide +kernel)) (fun _ _ _ _ _ => (g_name 7 sc__law_truths.nd rfl (by first | exact Or.inl rfl | exact Or.inr rfl))) (fun _ _ _ _ _ => t_yes) (fun _ _ _ _ _ => (m_and (m_ix (x_ix (hu_of hr)) o2_ix (m_ix (x_ix (hu_of hr)) o2_ix (m_var 5) m_int (fun _ _ => rfl)) (m_var 7) (fun _ _ => rfl)) (m_one (m_ix (x_ix (hu_of hr)) o2_ix (m_ix (x_ix (hu_of hr)) o2_ix (m_var 5) m_int (fun _ _ => rfl)) (m_var 7) (fun _ _ => rfl))))))))) b_nil)
    (b_cons (s_if (m_tcmp (op_eqD (hr.units)) o2_eq (m_ix (x_ix (hu_of hr)) o2_ix (m_var 0) m_int (fun _ _ => rfl)) m_str (nomark _)) (b_one (s_ret (m_new (l_lc (own := [("i", 7)]) (g := (nameG 7)) (tt := yesT) (el := (orV (op2M ixD (op2M ixD (gv 5) (cM (.int 0))) (gv 7)) (op2M ixD (op2M ixD (gv 5) (cM (.int 1))) (gv 7)))) rfl sc__law_truths.nd (i_rng1 rfl U.z_range (a_cons (m_callB c_len cm_len rfl U.z_len (by decide +kernel) (a_cons (m_var 3) a_nil)) a_nil)) (blkOk_by (N := N__law_truths) (sc := defScope s__law_truths) (by decide +kernel)) (fun _ _ _ _ _ => (g_name 7 sc__law_truths.nd rfl (by first | exact Or.inl rfl | exact Or.inr rfl))) (fun _ _ _ _ _ => t_yes) (fun _ _ _ _ _ => (m_or (m_ix (x_ix (hu_of hr)) o2_ix (m_ix (x_ix (hu_of hr)) o2_ix (m_var 5) m_int (fun _ _ => rfl)) (m_var 7) (fun _ _ => rfl)) (m_one (m_ix (x_ix (hu_of hr)) o2_ix (m_ix (x_ix (hu_of hr)) o2_ix (m_var 5) m_int (fun _ _ => rfl)) (m_var 7) (fun _ _ => rfl))))))))) b_nil)
    (b_cons (s_set 6 sc__law_truths.nd rfl (by first | exact Or.inl rfl | exact Or.inr rfl) (m_new (l_lst a_nil)))
    (b_cons (s_for (vs := [7]) PassesOwn.never rfl (i_rng1 rfl U.z_range (a_cons (m_callB c_len cm_len rfl U.z_len (by decide +kernel) (a_cons (m_var 3) a_nil)) a_nil)) (g_name 7 sc__law_truths.nd rfl (by first | exact Or.inl rfl | exact Or.inr rfl)) (b_cons (s_set 8 sc__law_truths.nd rfl (by first | exact Or.inl rfl | exact Or.inr rfl) (m_var 7))
    (b_cons (s_set 9 sc__law_truths.nd rfl (by first | exact Or.inl rfl | exact Or.inr rfl) m_bl)
    (b_cons (s_for (vs := [10]) PassesOwn.never rfl (i_rng1 rfl U.z_range (a_cons (m_op o_add o2_add (m_callB c_len cm_len rfl U.z_len (by decide +kernel) (a_cons (m_var 3) a_nil)) m_int) a_nil)) (g_name 10 sc__law_truths.nd rfl (by first | exact Or.inl rfl | exact Or.inr rfl)) (b_cons (s_set 11 sc__law_truths.nd rfl (by first | exact Or.inl rfl | exact Or.inr rfl) (m_call (ok__law_behind U) (hr.mono (Nat.le_trans (show 1 ≤ 2 by decide) (Nat.le_add_right 2 n))) rfl U.m__law_behind U.F__law_behind.kp U.b__law_behind (a_cons (m_var 3) (a_cons (m_var 1) (a_cons (m_var 8) a_nil)))))
    (b_cons (s_if (m_tcmp (o_in (hu100 hr)) o2_inD (m_ix (x_ix (hu_of hr)) o2_ix (m_var 0) m_int (fun _ _ => rfl)) (m_new (l_lst (a_cons m_str (a_cons m_str a_nil)))) rfl) (b_one (s_set 11 sc__law_truths.nd rfl (by first | exact Or.inl rfl | exact Or.inr rfl) (m_call (ok__law_across U) (hr.mono (Nat.le_trans (show 2 ≤ 2 by decide) (Nat.le_add_right 2 n))) rfl U.m__law_across U.F__law_across.kp U.b__law_across (a_cons (m_var 3) (a_cons (m_var 1) (a_cons (m_var 4) (a_cons (m_var 8) a_nil))))))) b_nil)
    (b_cons (s_if (m_tcmp (o_in (hu100 hr)) o2_inD (m_ix (x_ix (hu_of hr)) o2_ix (m_var 0) m_int (fun _ _ => rfl)) (m_new (l_lst (a_cons m_str (a_cons m_str a_nil)))) rfl) (b_cons (s_set 9 sc__law_truths.nd rfl (by first | exact Or.inl rfl | exact Or.inr rfl) (m_and (m_cmp op_notN o2_notN (m_var 11) m_non (nomark _)) (m_one (m_ix (x_ix (hu_of hr)) o2_ix (m_ix (x_ix (hu_of hr)) o2_ix (m_var 5) m_int (fun _ _ => rfl)) (m_var 11) (fun _ _ => rfl)))))
    (b_one s_brk)) b_nil)
    (b_cons (s_if (m_tr (m_ix (x_ix (hu_of hr)) o2_ix (m_ix (x_ix (hu_of hr)) o2_ix (m_var 5) m_int (fun _ _ => rfl)) (m_var 8) (fun _ _ => rfl))) (b_cons (s_set 9 sc__law_truths.nd rfl (by first | exact Or.inl rfl | exact Or.inr rfl) m_bl)
    (b_one s_brk)) b_nil)
    (b_cons (s_if (PW.pt (mw_or (mt_not' (m_tr (m_ix (x_ix (hu_of hr)) o2_ix (m_ix (x_ix (hu_of hr)) o2_ix (m_var 5) m_int (fun _ _ => rfl)) (m_var 8) (fun _ _ => rfl)))) (mw_or1 (m_tcmp op_isN o2_isN (m_var 11) m_non (nomark _))))) (b_one s_brk) b_nil)
    (b_one (s_set 8 sc__law_truths.nd rfl (by first | exact Or.inl rfl | exact Or.inr rfl) (m_var 11)))))))))
    (b_one (s_expr (m_metL PySem.F.slot_list_append PySem.F.type_list_append mt_append ml_app (m_var 6) (a_cons (m_var 9) a_nil))))))))
    (b_one (s_ret (m_var 6)))))))))))))
theorem ok__law_is_name (U : Us K mg w) : FnOk P w K mg base CX0 1 U.a__law_is_name U.d__law_is_name ["word"] (spM ⟨K, mg, P, w⟩ 1 F__law_is_name) :=
  fn_ok U.F__law_is_name sc__law_is_name fun cdv A outer s H E hr =>
    (b_cons (s_set 1 sc__law_is_name.nd rfl (by first | exact Or.inl rfl | exact Or.inr rfl) (m_and (m_chain op_le o2_cmp op_le o2_cmp m_int (m_callB c_len cm_len rfl U.z_len (by decide +kernel) (a_cons (m_var 0) a_nil)) m_int) (m_one (m_callBL (cr_all rfl) cl_all rfl U.z_all (by decide +kernel) (l_lc (own := [("sign", 2)]) (g := (nameG 2)) (tt := yesT) (el := (op2M (inS false) (gv 2) (cM (.str "abcdefghijklmnopqrstuvwxyz")))) rfl sc__law_is_name.nd (i_str (m_var 0)) (blkOk_by (N := N__law_is_name) (sc := defScope s__law_is_name) (by decide +kernel)) (fun _ _ _ _ _ => (g_name 2 sc__law_is_name.nd rfl (by first | exact Or.inl rfl | exact Or.inr rfl))) (fun _ _ _ _ _ => t_yes) (fun _ _ _ _ _ => (m_cmp o_inS o2_inS (m_var 2) m_str rfl)))))))
    (b_one (s_ret (m_and (m_var 1) (m_one (m_cmp (o_notIn (hu100 hr)) o2_inD (m_var 0) (m_new (l_lst (a_cons m_str (a_cons m_str (a_cons m_str (a_cons m_str a_nil)))))) rfl))))))
theorem ok__law_good (U : Us K mg w) : ∀ n : Nat, FnOk P w K mg base CX0 (1 + n) U.a__law_good U.d__law_good ["thing", "deep"] (spM ⟨K, mg, P, w⟩ 2 (F__law_good n))
  | 0 => fn_none
  | n + 1 => by
    have ih := ok__law_good U n
    exact fn_ok U.F__law_good sc__law_good fun cdv A outer s H E hr =>
    (b_cons (s_if (PW.pt (mw_or (m_tcmp (op_eqD (hr.units)) o2_eq (m_var 1) m_int (nomark _)) (mw_or (mt_not' (m_tv (m_isi rfl U.z_isinstance (m_var 0) rfl U.z_tuple (by decide +kernel)))) (mw_or (m_tcmp (op_eqD (hr.units)) o2_eq (m_callB c_len cm_len rfl U.z_len (by decide +kernel) (a_cons (m_var 0) a_nil)) m_int (nomark _)) (mw_or1 (mt_not' (m_tv (m_isi rfl U.z_isinstance (m_ix (x_ix (hu_of hr)) o2_ix (m_var 0) m_int (fun _ _ => rfl)) rfl U.z_str (by decide +kernel))))))))) (b_one (s_ret m_bl)) b_nil)
    (b_cons (s_if (m_tcmp (op_eqD (hr.units)) o2_eq (m_ix (x_ix (hu_of hr)) o2_ix (m_var 0) m_int (fun _ _ => rfl)) m_str (nomark _)) (b_cons (s_if (PW.pt (mw_or (m_tcmp (op_neD (hr.units)) o2_ne (m_callB c_len cm_len rfl U.z_len (by decide +kernel) (a_cons (m_var 0) a_nil)) m_int (nomark _)) (mw_or (m_tcmp (o_notIn (hu100 hr)) o2_inD (m_ix (x_ix (hu_of hr)) o2_ix (m_var 0) m_int (fun _ _ => rfl)) (m_new (l_lst (a_cons m_str (a_cons m_str (a_cons m_str (a_cons m_str a_nil)))))) rfl) (mw_or1 (mt_not' (m_tv (m_isi rfl U.z_isinstance (m_ix (x_ix (hu_of hr)) o2_ix (m_var 0) m_int (fun _ _ => rfl)) rfl U.z_str (by decide +kernel)))))))) (b_one (s_ret m_bl)) b_nil)
    (b_one (s_ret (m_or (m_cmp (op_eqD (hr.units)) o2_eq (m_ix (x_ix (hu_of hr)) o2_ix (m_var 0) m_int (fun _ _ => rfl)) m_str (nomark _)) (m_one (m_call (ok__law_is_name U) (hr.mono (Nat.le_trans (show 1 ≤ 1 by decide) (Nat.le_add_right 1 n))) rfl U.m__law_is_name U.F__law_is_name.kp U.b__law_is_name (a_cons (m_ix (x_ix (hu_of hr)) o2_ix (m_var 0) m_int (fun _ _ => rfl)) a_nil))))))) b_nil)
    (b_cons (s_set 2 sc__law_good.nd rfl (by first | exact Or.inl rfl | exact Or.inr rfl) (m_disp (pps_cons m_str m_int (pps_cons m_str m_int (pps_cons m_str m_int (pps_cons m_str m_int (pps_cons m_str m_int (pps_cons m_str m_int (pps_cons m_str m_int (pps_cons m_str m_int pps_nil)))))))) rfl rfl (by simp) (by decide)))
    (b_cons (s_if (m_tcmp (op_neD (hr.units)) o2_ne (m_op op_sub o2_sub (m_callB c_len cm_len rfl U.z_len (by decide +kernel) (a_cons (m_var 0) a_nil)) m_int) (m_dget2 (hu_of hr) (m_var 2) (m_ix (x_ix (hu_of hr)) o2_ix (m_var 0) m_int (fun _ _ => rfl)) (m_un un_neg o1_neg m_int) ⟨rfl, rfl, rfl, rfl⟩) (nomark _)) (b_one (s_ret m_bl)) b_nil)
    (b_one (s_ret (m_callBL (cr_all rfl) cl_all rfl U.z_all (by decide +kernel) (l_lc (own := [("part", 3)]) (g := (nameG 3)) (tt := yesT) (el := (callM (F__law_good n) 2 (consA (gv 3) (consA (op2M subD (gv 1) (cM (.int 1))) nilA)))) rfl sc__law_good.nd (i_val (m_slice sl_tupA sm_tup (m_var 0) (o_some m_int) o_none)) (blkOk_by (N := N__law_good) (sc := defScope s__law_good) (by decide +kernel)) (fun _ _ _ _ _ => (g_name 3 sc__law_good.nd rfl (by first | exact Or.inl rfl | exact Or.inr rfl))) (fun _ _ _ _ _ => t_yes) (fun _ _ _ _ _ => (m_call ih hr rfl U.m__law_good U.F__law_good.kp U.b__law_good (a_cons (m_var 3) (a_cons (m_op op_sub o2_sub (m_var 1) m_int) a_nil))))))))))))
theorem ok__law_ahead (U : Us K mg w) : ∀ n : Nat, FnOk P w K mg base CX0 (1 + n) U.a__law_ahead U.d__law_ahead ["thing"] (spM ⟨K, mg, P, w⟩ 1 (F__law_ahead n))
  | 0 => fn_none
  | n + 1 => by
    have ih := ok__law_ahead U n
    exact fn_ok U.F__law_ahead sc__law_ahead fun cdv A outer s H E hr =>
    (b_cons (s_if (m_tcmp (o_in (hu100 hr)) o2_inD (m_ix (x_ix (hu_of hr)) o2_ix (m_var 0) m_int (fun _ _ => rfl)) (m_new (l_lst (a_cons m_str (a_cons m_str a_nil)))) rfl) (b_one (s_ret (m_new (l_lst a_nil)))) b_nil)
    (b_cons (s_set 1 sc__law_ahead.nd rfl (by first | exact Or.inl rfl | exact Or.inr rfl) (m_ifExp (m_tcmp (o_in (hu100 hr)) o2_inD (m_ix (x_ix (hu_of hr)) o2_ix (m_var 0) m_int (fun _ _ => rfl)) (m_new (l_lst (a_cons m_str (a_cons m_str (a_cons m_str (a_cons m_str a_nil)))))) rfl) (m_new (l_lst (a_cons (m_var 0) a_nil))) (m_new (l_lst a_nil))))
    (b_cons (s_for (vs := [2]) PassesOwn.never rfl (i_val (m_slice sl_tupA sm_tup (m_var 0) (o_some m_int) o_none)) (g_name 2 sc__law_ahead.nd rfl (by first | exact Or.inl rfl | exact Or.inr rfl)) (b_one (s_expr (m_metL PySem.F.slot_list_extend PySem.F.type_list_extend mt_exu ml_exu (m_var 1) (a_cons (m_call ih hr rfl U.m__law_ahead U.F__law_ahead.kp U.b__law_ahead (a_cons (m_var 2) a_nil)) a_nil)))))
    (b_one (s_ret (m_call (ok__law_once U) (hr.mono (Nat.le_trans (show 1 ≤ 1 by decide) (Nat.le_add_right 1 n))) rfl U.m__law_once U.F__law_once.kp U.b__law_once (a_cons (m_var 1) a_nil)))))))
theorem ok__law_odd (U : Us K mg w) : FnOk P w K mg base CX0 3 U.a__law_odd U.d__law_odd ["state", "promise"] (spM ⟨K, mg, P, w⟩ 2 F__law_odd) :=
  fn_ok U.F__law_odd sc__law_odd fun cdv A outer s H E hr =>
    (b_cons (s_set 2 sc__law_odd.nd rfl (by first | exact Or.inl rfl | exact Or.inr rfl) (m_call (ok__law_draw U) (hr.mono (show 1 ≤ 2 by decide)) rfl U.m__law_draw U.F__law_draw.kp U.b__law_draw (a_cons (m_var 0) (a_cons m_int a_nil))))
    (b_cons (s_if (m_tcmp (op_eqD (hr.units)) o2_eq (m_var 2) m_int (nomark _)) (b_one (s_ret (m_tup (a_cons (m_call (ok__law_pick U) (hr.mono (show 2 ≤ 2 by decide)) rfl U.m__law_pick U.F__law_pick.kp U.b__law_pick (a_cons (m_var 0) (a_cons (m_new (l_lst (a_cons m_str (a_cons m_str (a_cons m_str (a_cons m_str (a_cons m_str a_nil))))))) a_nil))) (a_cons (m_var 1) a_nil))))) b_nil)
    (b_cons (s_if (m_tcmp (op_eqD (hr.units)) o2_eq (m_var 2) m_int (nomark _)) (b_one (s_ret (m_tup (a_cons m_str (a_cons (m_var 1) (a_cons (m_tup (a_cons m_str (a_cons (m_call (ok__law_pick U) (hr.mono (show 2 ≤ 2 by decide)) rfl U.m__law_pick U.F__law_pick.kp U.b__law_pick (a_cons (m_var 0) (a_cons (m_new (l_lst (a_cons m_str (a_cons m_str a_nil)))) a_nil))) (a_cons (m_call (ok__law_pick U) (hr.mono (show 2 ≤ 2 by decide)) rfl U.m__law_pick U.F__law_pick.kp U.b__law_pick (a_cons (m_var 0) (a_cons (m_new (l_lst (a_cons m_str (a_cons m_str (a_cons m_str (a_cons m_str a_nil)))))) a_nil))) a_nil)))) a_nil)))))) b_nil)
    (b_cons (s_if (m_tcmp (op_eqD (hr.units)) o2_eq (m_var 2) m_int (nomark _)) (b_cons (s_for (vs := [3]) PassesOwn.never rfl (i_rng1 rfl U.z_range (a_cons (m_call (ok__law_pick U) (hr.mono (show 2 ≤ 2 by decide)) rfl U.m__law_pick U.F__law_pick.kp U.b__law_pick (a_cons (m_var 0) (a_cons (m_new (l_lst (a_cons m_int (a_cons m_int (a_cons m_int (a_cons m_int a_nil)))))) a_nil))) a_nil)) (g_name 3 sc__law_odd.nd rfl (by first | exact Or.inl rfl | exact Or.inr rfl)) (b_one (s_set 1 sc__law_odd.nd rfl (by first | exact Or.inl rfl | exact Or.inr rfl) (m_tup (a_cons m_str (a_cons (m_var 1) a_nil))))))
    (b_one (s_ret (m_var 1)))) b_nil)
    (b_cons (s_for (vs := [3]) PassesOwn.never rfl (i_rng1 rfl U.z_range (a_cons (m_call (ok__law_pick U) (hr.mono (show 2 ≤ 2 by decide)) rfl U.m__law_pick U.F__law_pick.kp U.b__law_pick (a_cons (m_var 0) (a_cons (m_new (l_lst (a_cons m_int (a_cons m_int (a_cons m_int a_nil))))) a_nil))) a_nil)) (g_name 3 sc__law_odd.nd rfl (by first | exact Or.inl rfl | exact Or.inr rfl)) (b_one (s_set 1 sc__law_odd.nd rfl (by first | exact Or.inl rfl | exact Or.inr rfl) (m_call (ok__law_pick U) (hr.mono (show 2 ≤ 2 by decide)) rfl U.m__law_pick U.F__law_pick.kp U.b__law_pick (a_cons (m_var 0) (a_cons (m_new (l_lst (a_cons (m_tup (a_cons m_str (a_cons (m_var 1) a_nil))) (a_cons (m_tup (a_cons m_str (a_cons (m_var 1) a_nil))) a_nil)))) a_nil))))))
    (b_one (s_ret (m_var 1))))))))
theorem ok_law (U : Us K mg w) : FnAt P w K mg base U.a_law U.d_law ["script"] (spLawM K) :=
  law_ok (k := 12) U.F_law sc_law rfl ⟨rfl, by decide, by decide⟩ (fun cdv A s H E hr0 hg0 eA => by
    subst eA
    have hr := hr0
    have hgd := hg0
    exact (b_cons (s_set 1 sc_law.nd rfl (by first | exact Or.inl rfl | exact Or.inr rfl) (m_call (ok__law_start U) (hr.mono (show 1 ≤ 12 by decide)) rfl U.m__law_start U.F__law_start.kp U.b__law_start (a_cons (m_var 0) a_nil)))
    (b_cons (s_set 2 sc_law.nd rfl (by first | exact Or.inl rfl | exact Or.inr rfl) (m_call (ok__law_promise U 6) (hr.mono (show 8 ≤ 12 by decide)) rfl U.m__law_promise U.F__law_promise.kp U.b__law_promise (a_cons (m_var 1) (a_cons (m_call (ok__law_draw U) (hr.mono (show 1 ≤ 12 by decide)) rfl U.m__law_draw U.F__law_draw.kp U.b__law_draw (a_cons (m_var 1) (a_cons m_int a_nil))) a_nil))))
    (b_cons (s_if (m_tcmp (op_eqD (hr.units)) o2_eq (m_call (ok__law_draw U) (hr.mono (show 1 ≤ 12 by decide)) rfl U.m__law_draw U.F__law_draw.kp U.b__law_draw (a_cons (m_var 1) (a_cons m_int a_nil))) m_int (nomark _)) (b_one (s_set 2 sc_law.nd rfl (by first | exact Or.inl rfl | exact Or.inr rfl) (m_call (ok__law_odd U) (hr.mono (show 3 ≤ 12 by decide)) rfl U.m__law_odd U.F__law_odd.kp U.b__law_odd (a_cons (m_var 1) (a_cons (m_var 2) a_nil))))) b_nil)
    (b_cons (s_set 3 sc_law.nd rfl (by first | exact Or.inl rfl | exact Or.inr rfl) (m_and (m_call (ok__law_good U 9) (hr.mono (show 10 ≤ 12 by decide)) rfl U.m__law_good U.F__law_good.kp U.b__law_good (a_cons (m_var 2) (a_cons m_int a_nil))) (m_one (m_cmp op_le o2_cmp (m_callB c_len cm_len rfl U.z_len (by decide +kernel) (a_cons (m_call (ok__law_ahead U 10) (hr.mono (show 11 ≤ 12 by decide)) rfl U.m__law_ahead U.F__law_ahead.kp U.b__law_ahead (a_cons (m_var 2) a_nil)) a_nil)) m_int (nomark _)))))
    (b_cons (s_if (mt_not' (m_tv (m_call (ok__law_is U) (hr.mono (show 1 ≤ 12 by decide)) rfl U.m__law_is U.F__law_is.kp U.b__law_is (a_cons (m_call (ok_is_promise U) (hr.mono (show 12 ≤ 12 by decide)) rfl U.m_is_promise U.F_is_promise.kp U.b_is_promise (a_cons (m_var 2) a_nil)) (a_cons (m_var 3) a_nil))))) (b_one (s_ret m_bl)) b_nil)
    (b_cons (s_if (mt_not' (m_tr (m_var 3))) (b_one (s_ret m_bl)) b_nil)
    (b_cons (s_set 4 sc_law.nd rfl (by first | exact Or.inl rfl | exact Or.inr rfl) (m_new (l_lst (a_cons (m_tup (a_cons m_str (a_cons m_str a_nil))) (a_cons (m_tup (a_cons m_str (a_cons m_str a_nil))) (a_cons (m_tup (a_cons m_str (a_cons m_str a_nil))) (a_cons (m_tup (a_cons m_str (a_cons m_str a_nil))) (a_cons (m_tup (a_cons m_str (a_cons m_str a_nil))) (a_cons (m_tup (a_cons m_str (a_cons m_str a_nil))) a_nil)))))))))
    (b_cons (s_set 5 sc_law.nd rfl (by first | exact Or.inl rfl | exact Or.inr rfl) (m_callTyL call_tuple_of cl_tup rfl U.z_tuple (by decide +kernel) (l_lc (own := [("k", 8)]) (g := (nameG 8)) (tt := yesT) (el := (callM F__law_pick 2 (consA (gv 1) (consA (gv 4) nilA)))) rfl sc_law.nd (i_rng1 rfl U.z_range (a_cons (m_call (ok__law_draw U) (hr.mono (show 1 ≤ 12 by decide)) rfl U.m__law_draw U.F__law_draw.kp U.b__law_draw (a_cons (m_var 1) (a_cons m_int a_nil))) a_nil)) (blkOk_by (N := N_law) (sc := defScope s_law) (by decide +kernel)) (fun _ _ _ _ _ => (g_name 8 sc_law.nd rfl (by first | exact Or.inl rfl | exact Or.inr rfl))) (fun _ _ _ _ _ => t_yes) (fun _ _ _ _ _ => (m_call (ok__law_pick U) (hr.mono (show 2 ≤ 12 by decide)) rfl U.m__law_pick U.F__law_pick.kp U.b__law_pick (a_cons (m_var 1) (a_cons (m_var 4) a_nil)))))))
    (b_cons (s_set 6 sc_law.nd rfl (by first | exact Or.inl rfl | exact Or.inr rfl) (m_callTyL call_tuple_of cl_tup rfl U.z_tuple (by decide +kernel) (l_lc (own := [("k", 8)]) (g := (nameG 8)) (tt := yesT) (el := (callM F__law_pick 2 (consA (gv 1) (consA (gv 4) nilA)))) rfl sc_law.nd (i_rng1 rfl U.z_range (a_cons (m_op o_add o2_add m_int (m_call (ok__law_draw U) (hr.mono (show 1 ≤ 12 by decide)) rfl U.m__law_draw U.F__law_draw.kp U.b__law_draw (a_cons (m_var 1) (a_cons m_int a_nil)))) a_nil)) (blkOk_by (N := N_law) (sc := defScope s_law) (by decide +kernel)) (fun _ _ _ _ _ => (g_name 8 sc_law.nd rfl (by first | exact Or.inl rfl | exact Or.inr rfl))) (fun _ _ _ _ _ => t_yes) (fun _ _ _ _ _ => (m_call (ok__law_pick U) (hr.mono (show 2 ≤ 12 by decide)) rfl U.m__law_pick U.F__law_pick.kp U.b__law_pick (a_cons (m_var 1) (a_cons (m_var 4) a_nil)))))))
    (b_cons (s_set 7 sc_law.nd rfl (by first | exact Or.inl rfl | exact Or.inr rfl) (m_call (ok__law_truths U 10) (hr.mono (show 12 ≤ 12 by decide)) rfl U.m__law_truths U.F__law_truths.kp U.b__law_truths (a_cons (m_var 2) (a_cons (m_var 5) (a_cons (m_var 6) a_nil)))))
    (b_cons (s_for (vs := [8]) PassesOwn.never rfl (i_rng1 rfl U.z_range (a_cons m_int a_nil)) (g_name 8 sc_law.nd rfl (by first | exact Or.inl rfl | exact Or.inr rfl)) (b_cons (s_set 9 sc_law.nd rfl (by first | exact Or.inl rfl | exact Or.inr rfl) (m_call (ok__law_draw U) (hr.mono (show 1 ≤ 12 by decide)) rfl U.m__law_draw U.F__law_draw.kp U.b__law_draw (a_cons (m_var 1) (a_cons (m_callB c_len cm_len rfl U.z_len (by decide +kernel) (a_cons (m_var 7) a_nil)) a_nil))))
    (b_one (s_if (mt_not' (m_tv (m_call (ok__law_is U) (hr.mono (show 1 ≤ 12 by decide)) rfl U.m__law_is U.F__law_is.kp U.b__law_is (a_cons (m_call (ok_holds U) (hr.mono (show 12 ≤ 12 by decide)) rfl U.m_holds U.F_holds.kp U.b_holds (a_cons (m_var 2) (a_cons (m_var 5) (a_cons (m_var 6) (a_cons (m_var 9) a_nil))))) (a_cons (m_ix (x_ix (hu_of hr)) o2_ix (m_var 7) (m_var 9) (fun _ _ => rfl)) a_nil))))) (b_one (s_ret m_bl)) b_nil))))
    (b_one (s_ret m_bl)))))))))))))) law_true
end
end K12

set_option Elab.async false
set_option linter.all false
set_option autoImplicit false
set_option maxRecDepth 100000
namespace K12
open PySem L2 ML
theorem all_mk {l : PySem.W.OpenLaw} {w : World} {K : PySem.W.Frag} {h : Heap} {mg : Str → Option Value} {fa : Addr} (X : K.In h) (G : h.Ns mainGlobals mg) (hfa : mg "law" = some (.ref fa))
    {C_RoundRun : Addr} (q_RoundRun : PySem.W.nsIn K mainGlobals "RoundRun" = some (some (.ref C_RoundRun)))
    {f0 : Addr} {od0 an0 : Option Addr} {sl0 : Array (Option Value)} {oc0 kV0 dc0 pm0 cd0 ct0 : Value}
    (a0 : PySem.W.nsIn K mainGlobals "is_name" = some (some (.ref f0)))
    (l0 : K.lookup f0 = some ⟨oc0, od0, .func (PySem.W.fnOf "is_name" "is_name" (defArgs s_is_name) (defBody s_is_name) (defScope s_is_name) .none kV0 dc0 pm0 an0 cd0 ct0), sl0⟩) (c0 : PySem.W.codeIn K cd0 "is_name" = true) (k0 : PySem.W.keepIn K (.ref f0) = true)
    {f1 : Addr} {od1 an1 : Option Addr} {sl1 : Array (Option Value)} {oc1 kV1 dc1 pm1 cd1 ct1 : Value}
    (a1 : PySem.W.nsIn K mainGlobals "has_form" = some (some (.ref f1)))
    (l1 : K.lookup f1 = some ⟨oc1, od1, .func (PySem.W.fnOf "has_form" "has_form" (defArgs s_has_form) (defBody s_has_form) (defScope s_has_form) .none kV1 dc1 pm1 an1 cd1 ct1), sl1⟩) (c1 : PySem.W.codeIn K cd1 "has_form" = true) (k1 : PySem.W.keepIn K (.ref f1) = true)
    {f2 : Addr} {od2 an2 : Option Addr} {sl2 : Array (Option Value)} {oc2 kV2 dc2 pm2 cd2 ct2 : Value}
    (a2 : PySem.W.nsIn K mainGlobals "parts_ahead" = some (some (.ref f2)))
    (l2 : K.lookup f2 = some ⟨oc2, od2, .func (PySem.W.fnOf "parts_ahead" "parts_ahead" (defArgs s_parts_ahead) (defBody s_parts_ahead) (defScope s_parts_ahead) .none kV2 dc2 pm2 an2 cd2 ct2), sl2⟩) (c2 : PySem.W.codeIn K cd2 "parts_ahead" = true) (k2 : PySem.W.keepIn K (.ref f2) = true)
    {f3 : Addr} {od3 an3 : Option Addr} {sl3 : Array (Option Value)} {oc3 kV3 dc3 pm3 cd3 ct3 : Value}
    (a3 : PySem.W.nsIn K mainGlobals "looks_too_far" = some (some (.ref f3)))
    (l3 : K.lookup f3 = some ⟨oc3, od3, .func (PySem.W.fnOf "looks_too_far" "looks_too_far" (defArgs s_looks_too_far) (defBody s_looks_too_far) (defScope s_looks_too_far) .none kV3 dc3 pm3 an3 cd3 ct3), sl3⟩) (c3 : PySem.W.codeIn K cd3 "looks_too_far" = true) (k3 : PySem.W.keepIn K (.ref f3) = true)
    {f4 : Addr} {od4 an4 : Option Addr} {sl4 : Array (Option Value)} {oc4 kV4 dc4 pm4 cd4 ct4 : Value}
    (a4 : PySem.W.nsIn K mainGlobals "is_promise" = some (some (.ref f4)))
    (l4 : K.lookup f4 = some ⟨oc4, od4, .func (PySem.W.fnOf "is_promise" "is_promise" (defArgs s_is_promise) (defBody s_is_promise) (defScope s_is_promise) .none kV4 dc4 pm4 an4 cd4 ct4), sl4⟩) (c4 : PySem.W.codeIn K cd4 "is_promise" = true) (k4 : PySem.W.keepIn K (.ref f4) = true)
    {f5 : Addr} {od5 an5 : Option Addr} {sl5 : Array (Option Value)} {oc5 kV5 dc5 pm5 cd5 ct5 : Value}
    (a5 : PySem.W.nsIn K mainGlobals "matches" = some (some (.ref f5)))
    (l5 : K.lookup f5 = some ⟨oc5, od5, .func (PySem.W.fnOf "matches" "matches" (defArgs s_matches) (defBody s_matches) (defScope s_matches) .none kV5 dc5 pm5 an5 cd5 ct5), sl5⟩) (c5 : PySem.W.codeIn K cd5 "matches" = true) (k5 : PySem.W.keepIn K (.ref f5) = true)
    {f6 : Addr} {od6 an6 : Option Addr} {sl6 : Array (Option Value)} {oc6 kV6 dc6 pm6 cd6 ct6 : Value}
    (a6 : PySem.W.nsIn K mainGlobals "come_true" = some (some (.ref f6)))
    (l6 : K.lookup f6 = some ⟨oc6, od6, .func (PySem.W.fnOf "come_true" "come_true" (defArgs s_come_true) (defBody s_come_true) (defScope s_come_true) .none kV6 dc6 pm6 an6 cd6 ct6), sl6⟩) (c6 : PySem.W.codeIn K cd6 "come_true" = true) (k6 : PySem.W.keepIn K (.ref f6) = true)
    {f7 : Addr} {od7 an7 : Option Addr} {sl7 : Array (Option Value)} {oc7 kV7 dc7 pm7 cd7 ct7 : Value}
    (a7 : PySem.W.findIn K (.ref C_RoundRun) "truths" = some (some (.ref f7))) (i7 : PySem.W.isFn K (.ref f7) = true)
    (l7 : K.lookup f7 = some ⟨oc7, od7, .func (PySem.W.fnOf "truths" "RoundRun.truths" (defArgs s_RoundRun_truths) (defBody s_RoundRun_truths) (defScope s_RoundRun_truths) .none kV7 dc7 pm7 an7 cd7 ct7), sl7⟩) (c7 : PySem.W.codeIn K cd7 "RoundRun.truths" = true) (k7 : PySem.W.keepIn K (.ref f7) = true)
    {f8 : Addr} {od8 an8 : Option Addr} {sl8 : Array (Option Value)} {oc8 kV8 dc8 pm8 cd8 ct8 : Value}
    (a8 : PySem.W.findIn K (.ref C_RoundRun) "match_calls" = some (some (.ref f8))) (i8 : PySem.W.isFn K (.ref f8) = true)
    (l8 : K.lookup f8 = some ⟨oc8, od8, .func (PySem.W.fnOf "match_calls" "RoundRun.match_calls" (defArgs s_RoundRun_match_calls) (defBody s_RoundRun_match_calls) (defScope s_RoundRun_match_calls) .none kV8 dc8 pm8 an8 cd8 ct8), sl8⟩) (c8 : PySem.W.codeIn K cd8 "RoundRun.match_calls" = true) (k8 : PySem.W.keepIn K (.ref f8) = true)
    {f9 : Addr} {od9 an9 : Option Addr} {sl9 : Array (Option Value)} {oc9 kV9 dc9 pm9 cd9 ct9 : Value}
    (a9 : PySem.W.findIn K (.ref C_RoundRun) "plain_beyond" = some (some (.ref f9))) (i9 : PySem.W.isFn K (.ref f9) = true)
    (l9 : K.lookup f9 = some ⟨oc9, od9, .func (PySem.W.fnOf "plain_beyond" "RoundRun.plain_beyond" (defArgs s_RoundRun_plain_beyond) (defBody s_RoundRun_plain_beyond) (defScope s_RoundRun_plain_beyond) .none kV9 dc9 pm9 an9 cd9 ct9), sl9⟩) (c9 : PySem.W.codeIn K cd9 "RoundRun.plain_beyond" = true) (k9 : PySem.W.keepIn K (.ref f9) = true)
    {f10 : Addr} {od10 an10 : Option Addr} {sl10 : Array (Option Value)} {oc10 kV10 dc10 pm10 cd10 ct10 : Value}
    (a10 : PySem.W.findIn K (.ref C_RoundRun) "__init__" = some (some (.ref f10))) (i10 : PySem.W.isFn K (.ref f10) = true)
    (l10 : K.lookup f10 = some ⟨oc10, od10, .func (PySem.W.fnOf "__init__" "RoundRun.__init__" (defArgs s_RoundRun___init__) (defBody s_RoundRun___init__) (defScope s_RoundRun___init__) .none kV10 dc10 pm10 an10 cd10 ct10), sl10⟩) (c10 : PySem.W.codeIn K cd10 "RoundRun.__init__" = true) (k10 : PySem.W.keepIn K (.ref f10) = true)
    {f11 : Addr} {od11 an11 : Option Addr} {sl11 : Array (Option Value)} {oc11 kV11 dc11 pm11 cd11 ct11 : Value}
    (a11 : PySem.W.nsIn K mainGlobals "holds" = some (some (.ref f11)))
    (l11 : K.lookup f11 = some ⟨oc11, od11, .func (PySem.W.fnOf "holds" "holds" (defArgs s_holds) (defBody s_holds) (defScope s_holds) .none kV11 dc11 pm11 an11 cd11 ct11), sl11⟩) (c11 : PySem.W.codeIn K cd11 "holds" = true) (k11 : PySem.W.keepIn K (.ref f11) = true)
    {f12 : Addr} {od12 an12 : Option Addr} {sl12 : Array (Option Value)} {oc12 kV12 dc12 pm12 cd12 ct12 : Value}
    (a12 : PySem.W.nsIn K mainGlobals "_law_start" = some (some (.ref f12)))
    (l12 : K.lookup f12 = some ⟨oc12, od12, .func (PySem.W.fnOf "_law_start" "_law_start" (defArgs s__law_start) (defBody s__law_start) (defScope s__law_start) .none kV12 dc12 pm12 an12 cd12 ct12), sl12⟩) (c12 : PySem.W.codeIn K cd12 "_law_start" = true) (k12 : PySem.W.keepIn K (.ref f12) = true)
    {f13 : Addr} {od13 an13 : Option Addr} {sl13 : Array (Option Value)} {oc13 kV13 dc13 pm13 cd13 ct13 : Value}
    (a13 : PySem.W.nsIn K mainGlobals "_law_draw" = some (some (.ref f13)))
    (l13 : K.lookup f13 = some ⟨oc13, od13, .func (PySem.W.fnOf "_law_draw" "_law_draw" (defArgs s__law_draw) (defBody s__law_draw) (defScope s__law_draw) .none kV13 dc13 pm13 an13 cd13 ct13), sl13⟩) (c13 : PySem.W.codeIn K cd13 "_law_draw" = true) (k13 : PySem.W.keepIn K (.ref f13) = true)
    {f14 : Addr} {od14 an14 : Option Addr} {sl14 : Array (Option Value)} {oc14 kV14 dc14 pm14 cd14 ct14 : Value}
    (a14 : PySem.W.nsIn K mainGlobals "_law_pick" = some (some (.ref f14)))
    (l14 : K.lookup f14 = some ⟨oc14, od14, .func (PySem.W.fnOf "_law_pick" "_law_pick" (defArgs s__law_pick) (defBody s__law_pick) (defScope s__law_pick) .none kV14 dc14 pm14 an14 cd14 ct14), sl14⟩) (c14 : PySem.W.codeIn K cd14 "_law_pick" = true) (k14 : PySem.W.keepIn K (.ref f14) = true)
    {f15 : Addr} {od15 an15 : Option Addr} {sl15 : Array (Option Value)} {oc15 kV15 dc15 pm15 cd15 ct15 : Value}
    (a15 : PySem.W.nsIn K mainGlobals "_law_is" = some (some (.ref f15)))
    (l15 : K.lookup f15 = some ⟨oc15, od15, .func (PySem.W.fnOf "_law_is" "_law_is" (defArgs s__law_is) (defBody s__law_is) (defScope s__law_is) .none kV15 dc15 pm15 an15 cd15 ct15), sl15⟩) (c15 : PySem.W.codeIn K cd15 "_law_is" = true) (k15 : PySem.W.keepIn K (.ref f15) = true)
    {f16 : Addr} {od16 an16 : Option Addr} {sl16 : Array (Option Value)} {oc16 kV16 dc16 pm16 cd16 ct16 : Value}
    (a16 : PySem.W.nsIn K mainGlobals "_law_once" = some (some (.ref f16)))
    (l16 : K.lookup f16 = some ⟨oc16, od16, .func (PySem.W.fnOf "_law_once" "_law_once" (defArgs s__law_once) (defBody s__law_once) (defScope s__law_once) .none kV16 dc16 pm16 an16 cd16 ct16), sl16⟩) (c16 : PySem.W.codeIn K cd16 "_law_once" = true) (k16 : PySem.W.keepIn K (.ref f16) = true)
    {f17 : Addr} {od17 an17 : Option Addr} {sl17 : Array (Option Value)} {oc17 kV17 dc17 pm17 cd17 ct17 : Value}
    (a17 : PySem.W.nsIn K mainGlobals "_law_promise" = some (some (.ref f17)))
    (l17 : K.lookup f17 = some ⟨oc17, od17, .func (PySem.W.fnOf "_law_promise" "_law_promise" (defArgs s__law_promise) (defBody s__law_promise) (defScope s__law_promise) .none kV17 dc17 pm17 an17 cd17 ct17), sl17⟩) (c17 : PySem.W.codeIn K cd17 "_law_promise" = true) (k17 : PySem.W.keepIn K (.ref f17) = true)
    {f18 : Addr} {od18 an18 : Option Addr} {sl18 : Array (Option Value)} {oc18 kV18 dc18 pm18 cd18 ct18 : Value}
    (a18 : PySem.W.nsIn K mainGlobals "_law_matches" = some (some (.ref f18)))
    (l18 : K.lookup f18 = some ⟨oc18, od18, .func (PySem.W.fnOf "_law_matches" "_law_matches" (defArgs s__law_matches) (defBody s__law_matches) (defScope s__law_matches) .none kV18 dc18 pm18 an18 cd18 ct18), sl18⟩) (c18 : PySem.W.codeIn K cd18 "_law_matches" = true) (k18 : PySem.W.keepIn K (.ref f18) = true)
    {f19 : Addr} {od19 an19 : Option Addr} {sl19 : Array (Option Value)} {oc19 kV19 dc19 pm19 cd19 ct19 : Value}
    (a19 : PySem.W.nsIn K mainGlobals "_law_behind" = some (some (.ref f19)))
    (l19 : K.lookup f19 = some ⟨oc19, od19, .func (PySem.W.fnOf "_law_behind" "_law_behind" (defArgs s__law_behind) (defBody s__law_behind) (defScope s__law_behind) .none kV19 dc19 pm19 an19 cd19 ct19), sl19⟩) (c19 : PySem.W.codeIn K cd19 "_law_behind" = true) (k19 : PySem.W.keepIn K (.ref f19) = true)
    {f20 : Addr} {od20 an20 : Option Addr} {sl20 : Array (Option Value)} {oc20 kV20 dc20 pm20 cd20 ct20 : Value}
    (a20 : PySem.W.nsIn K mainGlobals "_law_across" = some (some (.ref f20)))
    (l20 : K.lookup f20 = some ⟨oc20, od20, .func (PySem.W.fnOf "_law_across" "_law_across" (defArgs s__law_across) (defBody s__law_across) (defScope s__law_across) .none kV20 dc20 pm20 an20 cd20 ct20), sl20⟩) (c20 : PySem.W.codeIn K cd20 "_law_across" = true) (k20 : PySem.W.keepIn K (.ref f20) = true)
    {f21 : Addr} {od21 an21 : Option Addr} {sl21 : Array (Option Value)} {oc21 kV21 dc21 pm21 cd21 ct21 : Value}
    (a21 : PySem.W.nsIn K mainGlobals "_law_truths" = some (some (.ref f21)))
    (l21 : K.lookup f21 = some ⟨oc21, od21, .func (PySem.W.fnOf "_law_truths" "_law_truths" (defArgs s__law_truths) (defBody s__law_truths) (defScope s__law_truths) .none kV21 dc21 pm21 an21 cd21 ct21), sl21⟩) (c21 : PySem.W.codeIn K cd21 "_law_truths" = true) (k21 : PySem.W.keepIn K (.ref f21) = true)
    {f22 : Addr} {od22 an22 : Option Addr} {sl22 : Array (Option Value)} {oc22 kV22 dc22 pm22 cd22 ct22 : Value}
    (a22 : PySem.W.nsIn K mainGlobals "_law_is_name" = some (some (.ref f22)))
    (l22 : K.lookup f22 = some ⟨oc22, od22, .func (PySem.W.fnOf "_law_is_name" "_law_is_name" (defArgs s__law_is_name) (defBody s__law_is_name) (defScope s__law_is_name) .none kV22 dc22 pm22 an22 cd22 ct22), sl22⟩) (c22 : PySem.W.codeIn K cd22 "_law_is_name" = true) (k22 : PySem.W.keepIn K (.ref f22) = true)
    {f23 : Addr} {od23 an23 : Option Addr} {sl23 : Array (Option Value)} {oc23 kV23 dc23 pm23 cd23 ct23 : Value}
    (a23 : PySem.W.nsIn K mainGlobals "_law_good" = some (some (.ref f23)))
    (l23 : K.lookup f23 = some ⟨oc23, od23, .func (PySem.W.fnOf "_law_good" "_law_good" (defArgs s__law_good) (defBody s__law_good) (defScope s__law_good) .none kV23 dc23 pm23 an23 cd23 ct23), sl23⟩) (c23 : PySem.W.codeIn K cd23 "_law_good" = true) (k23 : PySem.W.keepIn K (.ref f23) = true)
    {f24 : Addr} {od24 an24 : Option Addr} {sl24 : Array (Option Value)} {oc24 kV24 dc24 pm24 cd24 ct24 : Value}
    (a24 : PySem.W.nsIn K mainGlobals "_law_ahead" = some (some (.ref f24)))
    (l24 : K.lookup f24 = some ⟨oc24, od24, .func (PySem.W.fnOf "_law_ahead" "_law_ahead" (defArgs s__law_ahead) (defBody s__law_ahead) (defScope s__law_ahead) .none kV24 dc24 pm24 an24 cd24 ct24), sl24⟩) (c24 : PySem.W.codeIn K cd24 "_law_ahead" = true) (k24 : PySem.W.keepIn K (.ref f24) = true)
    {f25 : Addr} {od25 an25 : Option Addr} {sl25 : Array (Option Value)} {oc25 kV25 dc25 pm25 cd25 ct25 : Value}
    (a25 : PySem.W.nsIn K mainGlobals "_law_odd" = some (some (.ref f25)))
    (l25 : K.lookup f25 = some ⟨oc25, od25, .func (PySem.W.fnOf "_law_odd" "_law_odd" (defArgs s__law_odd) (defBody s__law_odd) (defScope s__law_odd) .none kV25 dc25 pm25 an25 cd25 ct25), sl25⟩) (c25 : PySem.W.codeIn K cd25 "_law_odd" = true) (k25 : PySem.W.keepIn K (.ref f25) = true)
    {f26 : Addr} {od26 an26 : Option Addr} {sl26 : Array (Option Value)} {oc26 kV26 dc26 pm26 cd26 ct26 : Value}
    (a26 : PySem.W.nsIn K mainGlobals "law" = some (some (.ref f26)))
    (l26 : K.lookup f26 = some ⟨oc26, od26, .func (PySem.W.fnOf "law" "law" (defArgs s_law) (defBody s_law) (defScope s_law) .none kV26 dc26 pm26 an26 cd26 ct26), sl26⟩) (c26 : PySem.W.codeIn K cd26 "law" = true) (k26 : PySem.W.keepIn K (.ref f26) = true)
    (pg_RoundRun : PySem.W.plainGet K C_RoundRun Str.empty = true) (hd_RoundRun : PySem.W.hasDictIn K C_RoundRun = true) (po_RoundRun : PySem.W.plainOver K C_RoundRun = true) (sa_RoundRun : PySem.W.findIn K (.ref C_RoundRun) "__setattr__" = some (some (.builtin "object.__setattr__"))) (mk_RoundRun : PySem.W.makesIn K C_RoundRun = true) (kc_RoundRun : PySem.W.keepIn K (.ref C_RoundRun) = true)
    (n_RoundRun_marks : PySem.W.findIn K (.ref C_RoundRun) "marks" = some none)
    (n_RoundRun_behind : PySem.W.findIn K (.ref C_RoundRun) "behind" = some none)
    (n_RoundRun_across_from : PySem.W.findIn K (.ref C_RoundRun) "across_from" = some none)
    (z_isinstance : PySem.W.nsIn K mainGlobals "isinstance" = some none)
    (z_str : PySem.W.nsIn K mainGlobals "str" = some none)
    (z_all : PySem.W.nsIn K mainGlobals "all" = some none)
    (z_len : PySem.W.nsIn K mainGlobals "len" = some none)
    (z_tuple : PySem.W.nsIn K mainGlobals "tuple" = some none)
    (z_enumerate : PySem.W.nsIn K mainGlobals "enumerate" = some none)
    (z_list : PySem.W.nsIn K mainGlobals "list" = some none)
    (z_zip : PySem.W.nsIn K mainGlobals "zip" = some none)
    (z_range : PySem.W.nsIn K mainGlobals "range" = some none)
    (z_abs : PySem.W.nsIn K mainGlobals "abs" = some none)
    (z_int : PySem.W.nsIn K mainGlobals "int" = some none)
    (z_bool : PySem.W.nsIn K mainGlobals "bool" = some none)
    {t_NO_NAMES_0 t_NO_NAMES_1 t_NO_NAMES_2 t_NO_NAMES_3 : Nat}
    {o_NO_NAMES_0 : Addr} {n_NO_NAMES_0 : Nat} {sl_NO_NAMES_0 : Array (Option Value)}
    (qc_NO_NAMES : PySem.W.nsIn K mainGlobals "NO_NAMES" = some (some (.ref o_NO_NAMES_0)))
    (lc_NO_NAMES_0 : K.lookup o_NO_NAMES_0 = some ⟨.type "tuple", none, .seq #[(.str "and" t_NO_NAMES_0), (.str "or" t_NO_NAMES_1), (.str "not" t_NO_NAMES_2), (.str "same" t_NO_NAMES_3)] n_NO_NAMES_0, sl_NO_NAMES_0⟩)
    {t_LETTERS_0 : Nat}
    (qc_LETTERS : PySem.W.nsIn K mainGlobals "LETTERS" = some (some (.str "abcdefghijklmnopqrstuvwxyz" t_LETTERS_0)))
    {t_LONGEST_NAME_0 : Nat}
    (qc_LONGEST_NAME : PySem.W.nsIn K mainGlobals "LONGEST_NAME" = some (some (.int 8 t_LONGEST_NAME_0)))
    {t_DEEPEST_PROMISE_0 : Nat}
    (qc_DEEPEST_PROMISE : PySem.W.nsIn K mainGlobals "DEEPEST_PROMISE" = some (some (.int 8 t_DEEPEST_PROMISE_0)))
    {t_KINDS_0 t_KINDS_1 t_KINDS_2 t_KINDS_3 : Nat}
    {o_KINDS_0 : Addr} {n_KINDS_0 : Nat} {sl_KINDS_0 : Array (Option Value)}
    (qc_KINDS : PySem.W.nsIn K mainGlobals "KINDS" = some (some (.ref o_KINDS_0)))
    (lc_KINDS_0 : K.lookup o_KINDS_0 = some ⟨.type "tuple", none, .seq #[(.str "call" t_KINDS_0), (.str "back" t_KINDS_1), (.str "say" t_KINDS_2), (.str "quiet" t_KINDS_3)] n_KINDS_0, sl_KINDS_0⟩)
    {t_MOST_AHEAD_0 : Nat}
    (qc_MOST_AHEAD : PySem.W.nsIn K mainGlobals "MOST_AHEAD" = some (some (.int 6 t_MOST_AHEAD_0)))
    {t_AHEAD_0 t_AHEAD_1 t_AHEAD_2 t_AHEAD_3 : Nat}
    {o_AHEAD_0 : Addr} {n_AHEAD_0 : Nat} {sl_AHEAD_0 : Array (Option Value)}
    (qc_AHEAD : PySem.W.nsIn K mainGlobals "AHEAD" = some (some (.ref o_AHEAD_0)))
    (lc_AHEAD_0 : K.lookup o_AHEAD_0 = some ⟨.type "tuple", none, .seq #[(.str "next" t_AHEAD_0), (.str "until" t_AHEAD_1), (.str "over" t_AHEAD_2), (.str "across" t_AHEAD_3)] n_AHEAD_0, sl_AHEAD_0⟩)
    {o_PARTS : Addr} {n_PARTS : Nat} {h_PARTS_0 h_PARTS_1 h_PARTS_2 h_PARTS_3 h_PARTS_4 h_PARTS_5 h_PARTS_6 h_PARTS_7 : Int} {k_PARTS_0 k_PARTS_1 k_PARTS_2 k_PARTS_3 k_PARTS_4 k_PARTS_5 k_PARTS_6 k_PARTS_7 t_PARTS_0 t_PARTS_1 t_PARTS_2 t_PARTS_3 t_PARTS_4 t_PARTS_5 t_PARTS_6 t_PARTS_7 : Nat}
    (qc_PARTS : PySem.W.nsIn K mainGlobals "PARTS" = some (some (.ref o_PARTS)))
    (ld_PARTS : K.lookup o_PARTS = some ⟨.type "dict", none, .dict #[⟨h_PARTS_0, .str "yes" k_PARTS_0, (.int 0 t_PARTS_0)⟩, ⟨h_PARTS_1, .str "not" k_PARTS_1, (.int 1 t_PARTS_1)⟩, ⟨h_PARTS_2, .str "and" k_PARTS_2, (.int 2 t_PARTS_2)⟩, ⟨h_PARTS_3, .str "or" k_PARTS_3, (.int 2 t_PARTS_3)⟩, ⟨h_PARTS_4, .str "next" k_PARTS_4, (.int 1 t_PARTS_4)⟩, ⟨h_PARTS_5, .str "until" k_PARTS_5, (.int 2 t_PARTS_5)⟩, ⟨h_PARTS_6, .str "over" k_PARTS_6, (.int 1 t_PARTS_6)⟩, ⟨h_PARTS_7, .str "across" k_PARTS_7, (.int 2 t_PARTS_7)⟩] n_PARTS, #[]⟩)
    (kl_PARTS : PySem.W.KeysLit w.params (#[⟨h_PARTS_0, .str "yes" k_PARTS_0, (.int 0 t_PARTS_0)⟩, ⟨h_PARTS_1, .str "not" k_PARTS_1, (.int 1 t_PARTS_1)⟩, ⟨h_PARTS_2, .str "and" k_PARTS_2, (.int 2 t_PARTS_2)⟩, ⟨h_PARTS_3, .str "or" k_PARTS_3, (.int 2 t_PARTS_3)⟩, ⟨h_PARTS_4, .str "next" k_PARTS_4, (.int 1 t_PARTS_4)⟩, ⟨h_PARTS_5, .str "until" k_PARTS_5, (.int 2 t_PARTS_5)⟩, ⟨h_PARTS_6, .str "over" k_PARTS_6, (.int 1 t_PARTS_6)⟩, ⟨h_PARTS_7, .str "across" k_PARTS_7, (.int 2 t_PARTS_7)⟩] : Array DictEntry).toList) (lo_PARTS : (o_PARTS == sysModules) = false) :
    ∃ fd : FuncData, (∀ (s : Shared) (v : Value), BindsTo s fd ⟨[v], []⟩ [("script", v)]) ∧ ∀ base : Heap, K.In base → base.Ns mainGlobals mg → FnAt l.prog w K mg base fa fd ["script"] (spLawM K) := by
  have e := hfa.symm.trans (PySem.W.mg_of X G a26)
  cases e
  let U : Us K mg w := {
    u_NO_NAMES := _, g_NO_NAMES := PySem.W.mg_of X G qc_NO_NAMES, kv_NO_NAMES := (KV.tuple lc_NO_NAMES_0 rfl (Nat.le_of_ble_eq_true rfl) (KVs.cons KV.str (KVs.cons KV.str (KVs.cons KV.str (KVs.cons KV.str KVs.nil))))),
    u_LETTERS := _, g_LETTERS := PySem.W.mg_of X G qc_LETTERS, kv_LETTERS := KV.str,
    u_LONGEST_NAME := _, g_LONGEST_NAME := PySem.W.mg_of X G qc_LONGEST_NAME, kv_LONGEST_NAME := KV.int,
    u_DEEPEST_PROMISE := _, g_DEEPEST_PROMISE := PySem.W.mg_of X G qc_DEEPEST_PROMISE, kv_DEEPEST_PROMISE := KV.int,
    u_KINDS := _, g_KINDS := PySem.W.mg_of X G qc_KINDS, kv_KINDS := (KV.tuple lc_KINDS_0 rfl (Nat.le_of_ble_eq_true rfl) (KVs.cons KV.str (KVs.cons KV.str (KVs.cons KV.str (KVs.cons KV.str KVs.nil))))),
    u_MOST_AHEAD := _, g_MOST_AHEAD := PySem.W.mg_of X G qc_MOST_AHEAD, kv_MOST_AHEAD := KV.int,
    u_AHEAD := _, g_AHEAD := PySem.W.mg_of X G qc_AHEAD, kv_AHEAD := (KV.tuple lc_AHEAD_0 rfl (Nat.le_of_ble_eq_true rfl) (KVs.cons KV.str (KVs.cons KV.str (KVs.cons KV.str (KVs.cons KV.str KVs.nil))))),
    u_PARTS := _, g_PARTS := PySem.W.mg_of X G qc_PARTS, kd_PARTS := ⟨_, _, ⟨ld_PARTS, kl_PARTS, lo_PARTS⟩, ⟨_, _, _, rfl, rfl, KV.int, ⟨_, _, _, rfl, rfl, KV.int, ⟨_, _, _, rfl, rfl, KV.int, ⟨_, _, _, rfl, rfl, KV.int, ⟨_, _, _, rfl, rfl, KV.int, ⟨_, _, _, rfl, rfl, KV.int, ⟨_, _, _, rfl, rfl, KV.int, ⟨_, _, _, rfl, rfl, KV.int, rfl⟩⟩⟩⟩⟩⟩⟩⟩⟩,
    a_is_name := _, d_is_name := _, F_is_name := fun_mk (st := s_is_name) l0 c0 k0, b_is_name := (fun_mk (st := s_is_name) l0 c0 k0).binds (ps := ["text"]) fun _ _ _ _ _ _ us hl => match us, hl with | [_], _ => rfl,
    m_is_name := PySem.W.mg_of X G a0,
    a_has_form := _, d_has_form := _, F_has_form := fun_mk (st := s_has_form) l1 c1 k1, b_has_form := (fun_mk (st := s_has_form) l1 c1 k1).binds (ps := ["thing", "deepest"]) fun _ _ _ _ _ _ us hl => match us, hl with | [_, _], _ => rfl,
    m_has_form := PySem.W.mg_of X G a1,
    a_parts_ahead := _, d_parts_ahead := _, F_parts_ahead := fun_mk (st := s_parts_ahead) l2 c2 k2, b_parts_ahead := (fun_mk (st := s_parts_ahead) l2 c2 k2).binds (ps := ["promise"]) fun _ _ _ _ _ _ us hl => match us, hl with | [_], _ => rfl,
    m_parts_ahead := PySem.W.mg_of X G a2,
    a_looks_too_far := _, d_looks_too_far := _, F_looks_too_far := fun_mk (st := s_looks_too_far) l3 c3 k3, b_looks_too_far := (fun_mk (st := s_looks_too_far) l3 c3 k3).binds (ps := ["promise"]) fun _ _ _ _ _ _ us hl => match us, hl with | [_], _ => rfl,
    m_looks_too_far := PySem.W.mg_of X G a3,
    a_is_promise := _, d_is_promise := _, F_is_promise := fun_mk (st := s_is_promise) l4 c4 k4, b_is_promise := (fun_mk (st := s_is_promise) l4 c4 k4).binds (ps := ["thing"]) fun _ _ _ _ _ _ us hl => match us, hl with | [_], _ => rfl,
    m_is_promise := PySem.W.mg_of X G a4,
    a_matches := _, d_matches := _, F_matches := fun_mk (st := s_matches) l5 c5 k5, b_matches := (fun_mk (st := s_matches) l5 c5 k5).binds (ps := ["mark", "kind", "name"]) fun _ _ _ _ _ _ us hl => match us, hl with | [_, _, _], _ => rfl,
    m_matches := PySem.W.mg_of X G a5,
    a_come_true := _, d_come_true := _, F_come_true := fun_mk (st := s_come_true) l6 c6 k6, b_come_true := (fun_mk (st := s_come_true) l6 c6 k6).binds (ps := ["ahead", "first", "second"]) fun _ _ _ _ _ _ us hl => match us, hl with | [_, _, _], _ => rfl,
    m_come_true := PySem.W.mg_of X G a6,
    a_RoundRun_truths := _, d_RoundRun_truths := _, F_RoundRun_truths := fun_mk (st := s_RoundRun_truths) l7 c7 k7, b_RoundRun_truths := (fun_mk (st := s_RoundRun_truths) l7 c7 k7).binds (ps := ["self", "promise"]) fun _ _ _ _ _ _ us hl => match us, hl with | [_, _], _ => rfl,
    a_RoundRun_match_calls := _, d_RoundRun_match_calls := _, F_RoundRun_match_calls := fun_mk (st := s_RoundRun_match_calls) l8 c8 k8, b_RoundRun_match_calls := (fun_mk (st := s_RoundRun_match_calls) l8 c8 k8).binds (ps := ["self", "start", "end"]) fun _ _ _ _ _ _ us hl => match us, hl with | [_, _, _], _ => rfl,
    a_RoundRun_plain_beyond := _, d_RoundRun_plain_beyond := _, F_RoundRun_plain_beyond := fun_mk (st := s_RoundRun_plain_beyond) l9 c9 k9, b_RoundRun_plain_beyond := (fun_mk (st := s_RoundRun_plain_beyond) l9 c9 k9).binds (ps := ["self", "at"]) fun _ _ _ _ _ _ us hl => match us, hl with | [_, _], _ => rfl,
    a_RoundRun___init__ := _, d_RoundRun___init__ := _, F_RoundRun___init__ := fun_mk (st := s_RoundRun___init__) l10 c10 k10, b_RoundRun___init__ := (fun_mk (st := s_RoundRun___init__) l10 c10 k10).binds (ps := ["self", "begin", "loop"]) fun _ _ _ _ _ _ us hl => match us, hl with | [_, _, _], _ => rfl,
    a_holds := _, d_holds := _, F_holds := fun_mk (st := s_holds) l11 c11 k11, b_holds := (fun_mk (st := s_holds) l11 c11 k11).binds (ps := ["promise", "begin", "loop", "i"]) fun _ _ _ _ _ _ us hl => match us, hl with | [_, _, _, _], _ => rfl,
    m_holds := PySem.W.mg_of X G a11,
    a__law_start := _, d__law_start := _, F__law_start := fun_mk (st := s__law_start) l12 c12 k12, b__law_start := (fun_mk (st := s__law_start) l12 c12 k12).binds (ps := ["script"]) fun _ _ _ _ _ _ us hl => match us, hl with | [_], _ => rfl,
    m__law_start := PySem.W.mg_of X G a12,
    a__law_draw := _, d__law_draw := _, F__law_draw := fun_mk (st := s__law_draw) l13 c13 k13, b__law_draw := (fun_mk (st := s__law_draw) l13 c13 k13).binds (ps := ["state", "bound"]) fun _ _ _ _ _ _ us hl => match us, hl with | [_, _], _ => rfl,
    m__law_draw := PySem.W.mg_of X G a13,
    a__law_pick := _, d__law_pick := _, F__law_pick := fun_mk (st := s__law_pick) l14 c14 k14, b__law_pick := (fun_mk (st := s__law_pick) l14 c14 k14).binds (ps := ["state", "things"]) fun _ _ _ _ _ _ us hl => match us, hl with | [_, _], _ => rfl,
    m__law_pick := PySem.W.mg_of X G a14,
    a__law_is := _, d__law_is := _, F__law_is := fun_mk (st := s__law_is) l15 c15 k15, b__law_is := (fun_mk (st := s__law_is) l15 c15 k15).binds (ps := ["actual", "due"]) fun _ _ _ _ _ _ us hl => match us, hl with | [_, _], _ => rfl,
    m__law_is := PySem.W.mg_of X G a15,
    a__law_once := _, d__law_once := _, F__law_once := fun_mk (st := s__law_once) l16 c16 k16, b__law_once := (fun_mk (st := s__law_once) l16 c16 k16).binds (ps := ["things"]) fun _ _ _ _ _ _ us hl => match us, hl with | [_], _ => rfl,
    m__law_once := PySem.W.mg_of X G a16,
    a__law_promise := _, d__law_promise := _, F__law_promise := fun_mk (st := s__law_promise) l17 c17 k17, b__law_promise := (fun_mk (st := s__law_promise) l17 c17 k17).binds (ps := ["state", "deep"]) fun _ _ _ _ _ _ us hl => match us, hl with | [_, _], _ => rfl,
    m__law_promise := PySem.W.mg_of X G a17,
    a__law_matches := _, d__law_matches := _, F__law_matches := fun_mk (st := s__law_matches) l18 c18 k18, b__law_matches := (fun_mk (st := s__law_matches) l18 c18 k18).binds (ps := ["begin", "around"]) fun _ _ _ _ _ _ us hl => match us, hl with | [_, _], _ => rfl,
    m__law_matches := PySem.W.mg_of X G a18,
    a__law_behind := _, d__law_behind := _, F__law_behind := fun_mk (st := s__law_behind) l19 c19 k19, b__law_behind := (fun_mk (st := s__law_behind) l19 c19 k19).binds (ps := ["marks", "begin", "i"]) fun _ _ _ _ _ _ us hl => match us, hl with | [_, _, _], _ => rfl,
    m__law_behind := PySem.W.mg_of X G a19,
    a__law_across := _, d__law_across := _, F__law_across := fun_mk (st := s__law_across) l20 c20 k20, b__law_across := (fun_mk (st := s__law_across) l20 c20 k20).binds (ps := ["marks", "begin", "matches_v", "i"]) fun _ _ _ _ _ _ us hl => match us, hl with | [_, _, _, _], _ => rfl,
    m__law_across := PySem.W.mg_of X G a20,
    a__law_truths := _, d__law_truths := _, F__law_truths := fun_mk (st := s__law_truths) l21 c21 k21, b__law_truths := (fun_mk (st := s__law_truths) l21 c21 k21).binds (ps := ["promise", "begin", "around"]) fun _ _ _ _ _ _ us hl => match us, hl with | [_, _, _], _ => rfl,
    m__law_truths := PySem.W.mg_of X G a21,
    a__law_is_name := _, d__law_is_name := _, F__law_is_name := fun_mk (st := s__law_is_name) l22 c22 k22, b__law_is_name := (fun_mk (st := s__law_is_name) l22 c22 k22).binds (ps := ["word"]) fun _ _ _ _ _ _ us hl => match us, hl with | [_], _ => rfl,
    m__law_is_name := PySem.W.mg_of X G a22,
    a__law_good := _, d__law_good := _, F__law_good := fun_mk (st := s__law_good) l23 c23 k23, b__law_good := (fun_mk (st := s__law_good) l23 c23 k23).binds (ps := ["thing", "deep"]) fun _ _ _ _ _ _ us hl => match us, hl with | [_, _], _ => rfl,
    m__law_good := PySem.W.mg_of X G a23,
    a__law_ahead := _, d__law_ahead := _, F__law_ahead := fun_mk (st := s__law_ahead) l24 c24 k24, b__law_ahead := (fun_mk (st := s__law_ahead) l24 c24 k24).binds (ps := ["thing"]) fun _ _ _ _ _ _ us hl => match us, hl with | [_], _ => rfl,
    m__law_ahead := PySem.W.mg_of X G a24,
    a__law_odd := _, d__law_odd := _, F__law_odd := fun_mk (st := s__law_odd) l25 c25 k25, b__law_odd := (fun_mk (st := s__law_odd) l25 c25 k25).binds (ps := ["state", "promise"]) fun _ _ _ _ _ _ us hl => match us, hl with | [_, _], _ => rfl,
    m__law_odd := PySem.W.mg_of X G a25,
    a_law := _, d_law := _, F_law := fun_mk (st := s_law) l26 c26 k26, b_law := (fun_mk (st := s_law) l26 c26 k26).binds (ps := ["script"]) fun _ _ _ _ _ _ us hl => match us, hl with | [_], _ => rfl,
    m_law := PySem.W.mg_of X G a26,
    C_RoundRun := _, mg_RoundRun := PySem.W.mg_of X G q_RoundRun, cl_RoundRun := ⟨pg_RoundRun, hd_RoundRun, po_RoundRun, sa_RoundRun⟩, mk_RoundRun := ⟨mk_RoundRun, a10, i10, kc_RoundRun⟩,
    na_RoundRun_marks := n_RoundRun_marks,
    na_RoundRun_behind := n_RoundRun_behind,
    na_RoundRun_across_from := n_RoundRun_across_from,
    me_RoundRun_truths := ⟨a7, i7, k7⟩,
    me_RoundRun_match_calls := ⟨a8, i8, k8⟩,
    me_RoundRun_plain_beyond := ⟨a9, i9, k9⟩,
    z_isinstance := PySem.W.mg_none_of X G z_isinstance,
    z_str := PySem.W.mg_none_of X G z_str,
    z_all := PySem.W.mg_none_of X G z_all,
    z_len := PySem.W.mg_none_of X G z_len,
    z_tuple := PySem.W.mg_none_of X G z_tuple,
    z_enumerate := PySem.W.mg_none_of X G z_enumerate,
    z_list := PySem.W.mg_none_of X G z_list,
    z_zip := PySem.W.mg_none_of X G z_zip,
    z_range := PySem.W.mg_none_of X G z_range,
    z_abs := PySem.W.mg_none_of X G z_abs,
    z_int := PySem.W.mg_none_of X G z_int,
    z_bool := PySem.W.mg_none_of X G z_bool }
  refine ⟨PySem.W.fnOf "law" "law" (defArgs s_law) (defBody s_law) (defScope s_law) .none kV26 dc26 pm26 an26 cd26 ct26, fun s v => .of_eq rfl, fun base _ _ => ?_⟩
  exact ok_law (P := l.prog) (w := w) (base := base) U
end K12
open PySem PySem.W PyProof.Rows
set_option maxRecDepth 100000 in
set_option maxHeartbeats 0 in
theorem PySem.Challenge.cw_calltowers_k12_truth_on_round_runs_holds : PySem.Challenge.rw_calltowers_k12_truth_on_round_runs.Holds := by
  w_on; o_law; k_head; (case hw => w_witness2)
  k_fill
  refine ML.walk_at (l := PySem.Challenge.rw_calltowers_k12_truth_on_round_runs) (n := 63) (x := "script") rfl (by decide) rfl rfl (fun w h Y => PySem.W.kIn_of Y) ?F
  case F =>
    intro w mg fa h KX G hmg
    refine' K12.all_mk KX G hmg ?q_RoundRun ?a0 ?l0 ?c0 ?k0 ?a1 ?l1 ?c1 ?k1 ?a2 ?l2 ?c2 ?k2 ?a3 ?l3 ?c3 ?k3 ?a4 ?l4 ?c4 ?k4 ?a5 ?l5 ?c5 ?k5 ?a6 ?l6 ?c6 ?k6 ?a7 ?i7 ?l7 ?c7 ?k7 ?a8 ?i8 ?l8 ?c8 ?k8 ?a9 ?i9 ?l9 ?c9 ?k9 ?a10 ?i10 ?l10 ?c10 ?k10 ?a11 ?l11 ?c11 ?k11 ?a12 ?l12 ?c12 ?k12 ?a13 ?l13 ?c13 ?k13 ?a14 ?l14 ?c14 ?k14 ?a15 ?l15 ?c15 ?k15 ?a16 ?l16 ?c16 ?k16 ?a17 ?l17 ?c17 ?k17 ?a18 ?l18 ?c18 ?k18 ?a19 ?l19 ?c19 ?k19 ?a20 ?l20 ?c20 ?k20 ?a21 ?l21 ?c21 ?k21 ?a22 ?l22 ?c22 ?k22 ?a23 ?l23 ?c23 ?k23 ?a24 ?l24 ?c24 ?k24 ?a25 ?l25 ?c25 ?k25 ?a26 ?l26 ?c26 ?k26 ?pg_RoundRun ?hd_RoundRun ?po_RoundRun ?sa_RoundRun ?mk_RoundRun ?kc_RoundRun ?n_RoundRun_marks ?n_RoundRun_behind ?n_RoundRun_across_from ?z_isinstance ?z_str ?z_all ?z_len ?z_tuple ?z_enumerate ?z_list ?z_zip ?z_range ?z_abs ?z_int ?z_bool ?qc_NO_NAMES ?lc_NO_NAMES_0 ?qc_LETTERS ?qc_LONGEST_NAME ?qc_DEEPEST_PROMISE ?qc_KINDS ?lc_KINDS_0 ?qc_MOST_AHEAD ?qc_AHEAD ?lc_AHEAD_0 ?qc_PARTS ?ld_PARTS ?kl_PARTS ?lo_PARTS
    (case q_RoundRun => k_is)
    (case a0 => k_is)
    (case l0 => k_is)
    (case c0 => k_is)
    (case k0 => k_is)
    (case a1 => k_is)
    (case l1 => k_is)
    (case c1 => k_is)
    (case k1 => k_is)
    (case a2 => k_is)
    (case l2 => k_is)
    (case c2 => k_is)
    (case k2 => k_is)
    (case a3 => k_is)
    (case l3 => k_is)
    (case c3 => k_is)
    (case k3 => k_is)
    (case a4 => k_is)
    (case l4 => k_is)
    (case c4 => k_is)
    (case k4 => k_is)
    (case a5 => k_is)
    (case l5 => k_is)
    (case c5 => k_is)
    (case k5 => k_is)
    (case a6 => k_is)
    (case l6 => k_is)
    (case c6 => k_is)
    (case k6 => k_is)
    (case a7 => k_is)
    (case i7 => k_is)
    (case l7 => k_is)
    (case c7 => k_is)
    (case k7 => k_is)
    (case a8 => k_is)
    (case i8 => k_is)
    (case l8 => k_is)
    (case c8 => k_is)
    (case k8 => k_is)
    (case a9 => k_is)
    (case i9 => k_is)
    (case l9 => k_is)
    (case c9 => k_is)
    (case k9 => k_is)
    (case a10 => k_is)
    (case i10 => k_is)
    (case l10 => k_is)
    (case c10 => k_is)
    (case k10 => k_is)
    (case a11 => k_is)
    (case l11 => k_is)
    (case c11 => k_is)
    (case k11 => k_is)
    (case a12 => k_is)
    (case l12 => k_is)
    (case c12 => k_is)
    (case k12 => k_is)
    (case a13 => k_is)
    (case l13 => k_is)
    (case c13 => k_is)
    (case k13 => k_is)
    (case a14 => k_is)
    (case l14 => k_is)
    (case c14 => k_is)
    (case k14 => k_is)
    (case a15 => k_is)
    (case l15 => k_is)
    (case c15 => k_is)
    (case k15 => k_is)
    (case a16 => k_is)
    (case l16 => k_is)
    (case c16 => k_is)
    (case k16 => k_is)
    (case a17 => k_is)
    (case l17 => k_is)
    (case c17 => k_is)
    (case k17 => k_is)
    (case a18 => k_is)
    (case l18 => k_is)
    (case c18 => k_is)
    (case k18 => k_is)
    (case a19 => k_is)
    (case l19 => k_is)
    (case c19 => k_is)
    (case k19 => k_is)
    (case a20 => k_is)
    (case l20 => k_is)
    (case c20 => k_is)
    (case k20 => k_is)
    (case a21 => k_is)
    (case l21 => k_is)
    (case c21 => k_is)
    (case k21 => k_is)
    (case a22 => k_is)
    (case l22 => k_is)
    (case c22 => k_is)
    (case k22 => k_is)
    (case a23 => k_is)
    (case l23 => k_is)
    (case c23 => k_is)
    (case k23 => k_is)
    (case a24 => k_is)
    (case l24 => k_is)
    (case c24 => k_is)
    (case k24 => k_is)
    (case a25 => k_is)
    (case l25 => k_is)
    (case c25 => k_is)
    (case k25 => k_is)
    (case a26 => k_is)
    (case l26 => k_is)
    (case c26 => k_is)
    (case k26 => k_is)
    (case pg_RoundRun => k_is)
    (case hd_RoundRun => k_is)
    (case po_RoundRun => k_is)
    (case sa_RoundRun => k_is)
    (case mk_RoundRun => k_is)
    (case kc_RoundRun => k_is)
    (case n_RoundRun_marks => k_is)
    (case n_RoundRun_behind => k_is)
    (case n_RoundRun_across_from => k_is)
    (case z_isinstance => k_is)
    (case z_str => k_is)
    (case z_all => k_is)
    (case z_len => k_is)
    (case z_tuple => k_is)
    (case z_enumerate => k_is)
    (case z_list => k_is)
    (case z_zip => k_is)
    (case z_range => k_is)
    (case z_abs => k_is)
    (case z_int => k_is)
    (case z_bool => k_is)
    (case qc_NO_NAMES => k_is)
    (case lc_NO_NAMES_0 => k_is)
    (case qc_LETTERS => k_is)
    (case qc_LONGEST_NAME => k_is)
    (case qc_DEEPEST_PROMISE => k_is)
    (case qc_KINDS => k_is)
    (case lc_KINDS_0 => k_is)
    (case qc_MOST_AHEAD => k_is)
    (case qc_AHEAD => k_is)
    (case lc_AHEAD_0 => k_is)
    (case qc_PARTS => k_is)
    (case ld_PARTS => k_is)
    (case kl_PARTS => k_keys)
    (case lo_PARTS => decide)

