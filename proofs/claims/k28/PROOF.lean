import PyProof.Rows.All
import Wide.All
import OpenK.AllK
import Wide.FinOn
import HandS.ForMost
import HandS.IsInst
import KE.LtData
import HandS.TupAny
import HandS.Flow
import KE.SortKeyHeap
import HandS.SortKw
import PySem.Challenge.RW_calltowers_k28_order_of_things
set_option Elab.async false
set_option linter.all false
set_option maxRecDepth 100000
namespace ML
open PySem L2

/-! ### data, heap of mutable things, the monad -/
inductive D where
  | non | bl (b : Bool) | int (i : Int) | str (x : Str) | tup (xs : List D) | ref (i : Nat) | glob (x : Str) | fro (xs : List D)
inductive O where
  | lst (xs : List D)
  | dic (kvs : List (D × D))
  | ins (c : Str) (fs : List (Str × D))
mutual
def D.beq : D → D → Bool
  | .non, .non => true
  | .bl a, .bl b => a == b
  | .int a, .int b => a == b
  | .str a, .str b => decide (a = b)
  | .tup a, .tup b => D.beqs a b
  | .ref a, .ref b => a == b
  | .glob a, .glob b => decide (a = b)
  | .fro a, .fro b => D.beqs a b
  | _, _ => false
def D.beqs : List D → List D → Bool
  | [], [] => true
  | a :: r, b :: s => D.beq a b && D.beqs r s
  | _, _ => false
end
mutual
theorem D.beq_iff : ∀ (a b : D), D.beq a b = true ↔ a = b
  | .non, b => by cases b <;> simp [D.beq]
  | .bl _, b => by cases b <;> simp [D.beq]
  | .int _, b => by cases b <;> simp [D.beq]
  | .str _, b => by cases b <;> simp [D.beq]
  | .tup xs, b => by
    cases b with
    | tup ys => rw [D.beq, D.beqs_iff xs ys]; simp
    | _ => simp [D.beq]
  | .ref _, b => by cases b <;> simp [D.beq]
  | .glob _, b => by cases b <;> simp [D.beq]
  | .fro xs, b => by
    cases b with
    | fro ys => rw [D.beq, D.beqs_iff xs ys]; simp
    | _ => simp [D.beq]
theorem D.beqs_iff : ∀ (a b : List D), D.beqs a b = true ↔ a = b
  | [], b => by cases b <;> simp [D.beqs]
  | x :: r, b => by
    cases b with
    | nil => simp [D.beqs]
    | cons y s => rw [D.beqs, Bool.and_eq_true, D.beq_iff x y, D.beqs_iff r s]; simp
end
instance : DecidableEq D := fun a b => if h : D.beq a b = true then .isTrue ((D.beq_iff a b).mp h) else .isFalse fun e => h ((D.beq_iff a b).mpr e)
abbrev Hm := List O
def M (α : Type) : Type := Hm → Option (α × Hm)
@[inline] def M.ret {α : Type} (a : α) : M α := fun h => some (a, h)
def M.bnd {α β : Type} (m : M α) (f : α → M β) : M β := fun h => match m h with
  | none => none
  | some (a, h1) => f a h1
instance : Monad M where
  pure := M.ret
  bind := M.bnd
def M.bad {α : Type} : M α := fun _ => none
theorem pure_app {α : Type} (a : α) (h : Hm) : (pure a : M α) h = some (a, h) := rfl
theorem bind_app {α β : Type} (m : M α) (f : α → M β) (h : Hm) : (m >>= f) h = (match m h with | none => none | some (a, h1) => f a h1) := rfl
theorem bind_some {α β : Type} {m : M α} {f : α → M β} {h h2 : Hm} {b : β} (e : (m >>= f) h = some (b, h2)) : ∃ a h1, m h = some (a, h1) ∧ f a h1 = some (b, h2) := by
  rw [bind_app] at e
  cases q : m h with
  | none => rw [q] at e; cases e
  | some p => obtain ⟨a, h1⟩ := p; rw [q] at e; exact ⟨a, h1, rfl, e⟩
theorem bind_of {α β : Type} {m : M α} {f : α → M β} {h h1 : Hm} {a : α} (e : m h = some (a, h1)) : (m >>= f) h = f a h1 := by rw [bind_app, e]
theorem pure_some {α : Type} {a b : α} {h h1 : Hm} (e : (pure a : M α) h = some (b, h1)) : a = b ∧ h = h1 := by
  have e' : some (a, h) = some (b, h1) := e
  injection e' with e'
  injection e' with e1 e2
  exact ⟨e1, e2⟩
abbrev Sm := List (Option D)
inductive Fl where | nx (σ : Sm) | rt (d : D) | bk (σ : Sm) | ct (σ : Sm)

/-- a list that nobody writes -/
def FzL (K : PySem.W.Frag) (H : Hp) (a : Addr) (xs : List V) : Prop :=
  (∃ o, H a = some (.frz o (.lst xs))) ∨ ∃ (o : Obj) (its : Array Value) (n : Nat), K.lookup a = some o ∧ o.cls = .type "list" ∧ o.dict = none ∧ o.data = .seq its n ∧ its.size ≤ sizeLine ∧ Vals xs its.toList
theorem FzL.sq {K : PySem.W.Frag} {H : Hp} {a : Addr} {xs : List V} (h : FzL K H a xs) : SqL K H a xs := by
  rcases h with ⟨o, h⟩ | h
  · exact .inl (.inr ⟨o, h⟩)
  · exact .inr h
/-! ### what stands for what -/
structure Tx where
  K : PySem.W.Frag
  mg : Str → Option Value
abbrev tx (X : Cx) : Tx := ⟨X.K, X.mg⟩
mutual
def RV (T : Tx) (ι : List Addr) (H : Hp) : D → V → Prop
  | .non, v => v = .non
  | .bl b, v => v = .bl b
  | .int i, v => v = .int i
  | .str x, v => v = .str x
  | .tup ds, v => ∃ a xs, v = .ref a ∧ SqT T.K H a xs ∧ RVs T ι H ds xs
  | .ref i, v => ∃ a, ι[i]? = some a ∧ v = .ref a
  | .glob x, v => ∃ u, T.mg x = some u ∧ RelV v u
  | .fro ds, v => ∃ a xs, v = .ref a ∧ FzL T.K H a xs ∧ RVs T ι H ds xs
def RVs (T : Tx) (ι : List Addr) (H : Hp) : List D → List V → Prop
  | [], xs => xs = []
  | d :: ds, xs => ∃ x r, xs = x :: r ∧ RV T ι H d x ∧ RVs T ι H ds r
end
def kD : D → Option Key
  | .int i => some (.inl i)
  | .str x => some (.inr x)
  | _ => none
def KRs (T : Tx) (ι : List Addr) (H : Hp) : List (D × D) → List (Key × V) → Prop
  | [], ks => ks = []
  | p :: r, ks => ∃ k v s, ks = (k, v) :: s ∧ kD p.1 = some k ∧ RV T ι H p.2 v ∧ KRs T ι H r s
def FRs (T : Tx) (ι : List Addr) (H : Hp) : List (Str × D) → List (Str × V) → Prop
  | [], fs => fs = []
  | p :: r, fs => ∃ v s, fs = (p.1, v) :: s ∧ RV T ι H p.2 v ∧ FRs T ι H r s
def OR (T : Tx) (ι : List Addr) (H : Hp) (a : Addr) : O → Prop
  | .lst ds => ∃ xs, H a = some (.lst xs) ∧ RVs T ι H ds xs
  | .dic kvs => ∃ ks, H a = some (.dK ks) ∧ KRs T ι H kvs ks
  | .ins c fs => ∃ C dx fs', T.mg c = some (.ref C) ∧ H a = some (.ins C dx fs') ∧ FRs T ι H fs fs'
/-- not a tuple -/
def NoT : HO → Prop
  | .tup _ => False
  | .own _ => False
  | .frz _ _ => False
  | _ => True
structure Rl (T : Tx) (ι : List Addr) (H : Hp) (h : Hm) : Prop where
  len : ι.length = h.length
  nd : ι.Nodup
  obj : ∀ (i : Nat) (a : Addr) (o : O), ι[i]? = some a → h[i]? = some o → OR T ι H a o
structure Ex (ι : List Addr) (H : Hp) (ι1 : List Addr) (H1 : Hp) : Prop where
  pre : ∃ r, ι1 = ι ++ r ∧ ∀ a ∈ r, H a = none
  fr : ∀ b o, H b = some o → b ∉ ι → H1 b = some o
/-- readings that stay -/
structure Up (T : Tx) (ι : List Addr) (H : Hp) (ι1 : List Addr) (H1 : Hp) : Prop where
  ix : ∀ (i : Nat) (a : Addr), ι[i]? = some a → ι1[i]? = some a
  tp : ∀ a xs, SqT T.K H a xs → SqT T.K H1 a xs
  fz : ∀ a xs, FzL T.K H a xs → FzL T.K H1 a xs
theorem OR.at {T : Tx} {ι : List Addr} {H : Hp} {a : Addr} {o : O} (x : OR T ι H a o) : ∃ u, H a = some u ∧ NoT u := by
  cases o with
  | lst ds => obtain ⟨xs, e, _⟩ := x; exact ⟨_, e, trivial⟩
  | dic kvs => obtain ⟨xs, e, _⟩ := x; exact ⟨_, e, trivial⟩
  | ins c fs => obtain ⟨C, dx, fs', _, e, _⟩ := x; exact ⟨_, e, trivial⟩
theorem Rl.at {T : Tx} {ι : List Addr} {H : Hp} {h : Hm} (x : Rl T ι H h) {a : Addr} (m : a ∈ ι) : ∃ u, H a = some u ∧ NoT u := by
  obtain ⟨i, hi, e⟩ := List.getElem_of_mem m
  have e1 : ι[i]? = some a := by rw [List.getElem?_eq_getElem hi, e]
  have hj : i < h.length := by rw [← x.len]; exact hi
  exact (x.obj i a h[i] e1 (List.getElem?_eq_getElem hj)).at
theorem Ex.up {T : Tx} {ι ι1 : List Addr} {H H1 : Hp} {h : Hm} (x : Ex ι H ι1 H1) (r : Rl T ι H h) : Up T ι H ι1 H1 := by
  have na : ∀ a u, H a = some u → ¬ NoT u → a ∉ ι := fun a u e n m => by
    obtain ⟨u', e', n'⟩ := r.at m
    rw [e] at e'; cases e'
    exact n n'
  refine ⟨fun i a e => ?_, fun a xs s => ?_, fun a xs s => ?_⟩
  · obtain ⟨s, e1, _⟩ := x.pre
    rw [e1, List.getElem?_append_left (List.getElem?_eq_some_iff.mp e).1]
    exact e
  · rcases s with (s | ⟨o, s⟩) | s
    · exact .inl (.inl (x.fr _ _ s (na _ _ s fun z => z)))
    · exact .inl (.inr ⟨o, x.fr _ _ s (na _ _ s fun z => z)⟩)
    · exact .inr s
  · rcases s with ⟨o, s⟩ | s
    · exact .inl ⟨o, x.fr _ _ s (na _ _ s fun z => z)⟩
    · exact .inr s
theorem Ex.refl (ι : List Addr) (H : Hp) : Ex ι H ι H := ⟨⟨[], by simp, fun _ z => by simp at z⟩, fun _ _ e _ => e⟩
theorem Ex.trans {T : Tx} {ι ι1 ι2 : List Addr} {H H1 H2 : Hp} {h1 : Hm} (x : Ex ι H ι1 H1) (r : Rl T ι1 H1 h1) (y : Ex ι1 H1 ι2 H2) : Ex ι H ι2 H2 := by
  obtain ⟨s, e, n⟩ := x.pre
  obtain ⟨s', e', n'⟩ := y.pre
  refine ⟨⟨s ++ s', by rw [e', e, List.append_assoc], fun a m => ?_⟩, fun b o q m => ?_⟩
  · rcases List.mem_append.mp m with m | m
    · exact n a m
    · cases q : H a with
      | none => rfl
      | some o =>
        by_cases hi : a ∈ ι
        · obtain ⟨u, e2, _⟩ := r.at (a := a) (by rw [e]; exact List.mem_append_left _ hi)
          rw [n' a m] at e2; cases e2
        · have := x.fr a o q hi
          rw [n' a m] at this; cases this
  · refine y.fr b o (x.fr b o q m) fun z => ?_
    rw [e] at z
    rcases List.mem_append.mp z with z | z
    · exact m z
    · rw [n b z] at q; cases q
mutual
theorem RV.up {T : Tx} {ι ι1 : List Addr} {H H1 : Hp} (u : Up T ι H ι1 H1) : ∀ (d : D) (v : V), RV T ι H d v → RV T ι1 H1 d v
  | .non, v, r => r
  | .bl b, v, r => r
  | .int i, v, r => r
  | .str x, v, r => r
  | .tup ds, v, r => by
    rw [RV] at r ⊢
    obtain ⟨a, xs, e, s, q⟩ := r
    exact ⟨a, xs, e, u.tp a xs s, RVs.up u ds xs q⟩
  | .ref i, v, r => by
    rw [RV] at r ⊢
    obtain ⟨a, e, q⟩ := r
    exact ⟨a, u.ix i a e, q⟩
  | .glob x, v, r => by
    rw [RV] at r ⊢
    exact r
  | .fro ds, v, r => by
    rw [RV] at r ⊢
    obtain ⟨a, xs, e, s, q⟩ := r
    exact ⟨a, xs, e, u.fz a xs s, RVs.up u ds xs q⟩
theorem RVs.up {T : Tx} {ι ι1 : List Addr} {H H1 : Hp} (u : Up T ι H ι1 H1) : ∀ (ds : List D) (xs : List V), RVs T ι H ds xs → RVs T ι1 H1 ds xs
  | [], xs, r => r
  | d :: ds, xs, r => by
    rw [RVs] at r ⊢
    obtain ⟨x, s, e, q, p⟩ := r
    exact ⟨x, s, e, RV.up u d x q, RVs.up u ds s p⟩
end
theorem KRs.up {T : Tx} {ι ι1 : List Addr} {H H1 : Hp} (u : Up T ι H ι1 H1) : ∀ (ds : List (D × D)) (ks : List (Key × V)), KRs T ι H ds ks → KRs T ι1 H1 ds ks
  | [], _, r => r
  | p :: ds, ks, r => by
    obtain ⟨k, v, s, e, ek, q, t⟩ := r
    exact ⟨k, v, s, e, ek, RV.up u _ _ q, KRs.up u ds s t⟩
theorem FRs.up {T : Tx} {ι ι1 : List Addr} {H H1 : Hp} (u : Up T ι H ι1 H1) : ∀ (ds : List (Str × D)) (ks : List (Str × V)), FRs T ι H ds ks → FRs T ι1 H1 ds ks
  | [], _, r => r
  | p :: ds, ks, r => by
    obtain ⟨v, s, e, q, t⟩ := r
    exact ⟨v, s, e, RV.up u _ _ q, FRs.up u ds s t⟩
theorem OR.up {T : Tx} {ι ι1 : List Addr} {H H1 : Hp} (u : Up T ι H ι1 H1) {a : Addr} (e : H1 a = H a) : ∀ {o : O}, OR T ι H a o → OR T ι1 H1 a o
  | .lst ds, r => by obtain ⟨xs, e1, q⟩ := r; exact ⟨xs, e.trans e1, RVs.up u _ _ q⟩
  | .dic kvs, r => by obtain ⟨xs, e1, q⟩ := r; exact ⟨xs, e.trans e1, KRs.up u _ _ q⟩
  | .ins c fs, r => by obtain ⟨C, dx, fs', e0, e1, q⟩ := r; exact ⟨C, dx, fs', e0, e.trans e1, FRs.up u _ _ q⟩
/-! ### the state, the slots -/
structure RS (T : Tx) (ι : List Addr) (H : Hp) (σm : Sm) (σ : St) : Prop where
  len : σm.length = σ.length
  at_ : ∀ (i : Nat) (d : D), σm[i]? = some (some d) → ∃ v, σ[i]? = some (some v) ∧ RV T ι H d v
theorem RS.up {T : Tx} {ι ι1 : List Addr} {H H1 : Hp} (u : Up T ι H ι1 H1) {σm : Sm} {σ : St} (r : RS T ι H σm σ) : RS T ι1 H1 σm σ :=
  ⟨r.len, fun i d e => let ⟨v, e1, q⟩ := r.at_ i d e; ⟨v, e1, RV.up u d v q⟩⟩
theorem RS.set {T : Tx} {ι : List Addr} {H : Hp} {σm : Sm} {σ : St} (r : RS T ι H σm σ) (i : Nat) {d : D} {v : V} (q : RV T ι H d v) : RS T ι H (σm.set i (some d)) (σ.set i (some v)) := by
  refine ⟨by rw [List.length_set, List.length_set, r.len], fun j e h => ?_⟩
  by_cases hj : i = j
  · subst hj
    by_cases hl : i < σm.length
    · rw [List.getElem?_set_self hl] at h
      cases h
      exact ⟨v, List.getElem?_set_self (by rw [← r.len]; exact hl), q⟩
    · rw [List.getElem?_eq_none (by rw [List.length_set]; omega)] at h; cases h
  · rw [List.getElem?_set_ne hj] at h ⊢
    exact r.at_ j e h
/-- a new object of ours -/
theorem Rl.new {T : Tx} {ι : List Addr} {H : Hp} {h : Hm} {p : Addr} {u : HO} {o : O} (r : Rl T ι H h) (hp : H p = none) (q : Up T ι H (ι ++ [p]) (upd H p u) → OR T (ι ++ [p]) (upd H p u) p o) : Ex ι H (ι ++ [p]) (upd H p u) ∧ Rl T (ι ++ [p]) (upd H p u) (h ++ [o]) := by
  have x : Ex ι H (ι ++ [p]) (upd H p u) := ⟨⟨[p], rfl, fun a m => by rw [List.mem_singleton.mp m]; exact hp⟩, fun b o' e _ => by rw [upd_ne (ne_of_none e hp)]; exact e⟩
  have up := x.up r
  have np : p ∉ ι := fun m => by
    obtain ⟨u', e, _⟩ := r.at m
    rw [hp] at e; cases e
  refine ⟨x, ⟨by rw [List.length_append, List.length_append, r.len]; rfl, ?_, fun i a o' e1 e2 => ?_⟩⟩
  · rw [List.nodup_append]
    exact ⟨r.nd, by simp, fun a m b m' => by rw [List.mem_singleton.mp m']; exact fun z => np (z ▸ m)⟩
  · by_cases hi : i < ι.length
    · rw [List.getElem?_append_left hi] at e1
      rw [List.getElem?_append_left (by rw [← r.len]; exact hi)] at e2
      have ne : a ≠ p := fun z => np (z ▸ List.mem_of_getElem? e1)
      exact (r.obj i a o' e1 e2).up up (upd_ne ne)
    · have hl := (List.getElem?_eq_some_iff.mp e1).1
      rw [List.length_append, List.length_singleton] at hl
      have ei : i = ι.length := by omega
      subst ei
      rw [List.getElem?_append_right (Nat.le_refl _), Nat.sub_self] at e1
      rw [r.len, List.getElem?_append_right (Nat.le_refl _), Nat.sub_self] at e2
      cases e1; cases e2
      exact q up
/-- an object of ours written -/
theorem Rl.put {T : Tx} {ι : List Addr} {H : Hp} {h : Hm} {i : Nat} {a : Addr} {u : HO} {o : O} (r : Rl T ι H h) (ha : ι[i]? = some a) (q : Up T ι H ι (upd H a u) → OR T ι (upd H a u) a o) : Ex ι H ι (upd H a u) ∧ Rl T ι (upd H a u) (h.set i o) := by
  have m : a ∈ ι := List.mem_of_getElem? ha
  have x : Ex ι H ι (upd H a u) := ⟨⟨[], by simp, fun _ z => by simp at z⟩, fun b o' e n => by rw [upd_ne (fun z => n (by rw [z]; exact m))]; exact e⟩
  have up := x.up r
  refine ⟨x, ⟨by rw [List.length_set, r.len], r.nd, fun j b o' e1 e2 => ?_⟩⟩
  by_cases hj : i = j
  · subst hj
    rw [ha] at e1; cases e1
    have hl : i < h.length := by rw [← r.len]; exact (List.getElem?_eq_some_iff.mp ha).1
    rw [List.getElem?_set_self hl] at e2
    cases e2
    exact q up
  · rw [List.getElem?_set_ne hj] at e2
    have ne : b ≠ a := fun z => by
      subst z
      exact hj (nd_ix r.nd ha e1)
    exact (r.obj j b o' e1 e2).up up (upd_ne ne)
/-- an object that is none of ours -/
theorem Rl.other {T : Tx} {ι : List Addr} {H : Hp} {h : Hm} {p : Addr} {u : HO} (r : Rl T ι H h) (hp : H p = none) : Ex ι H ι (upd H p u) ∧ Rl T ι (upd H p u) h := by
  have x : Ex ι H ι (upd H p u) := ⟨⟨[], by simp, fun _ z => by simp at z⟩, fun b o' e _ => by rw [upd_ne (ne_of_none e hp)]; exact e⟩
  have up := x.up r
  refine ⟨x, ⟨r.len, r.nd, fun i a o e1 e2 => ?_⟩⟩
  have ne : a ≠ p := fun z => by
    obtain ⟨u', e, _⟩ := r.at (List.mem_of_getElem? e1)
    rw [z, hp] at e; cases e
  exact (r.obj i a o e1 e2).up up (upd_ne ne)
end ML

set_option Elab.async false
set_option linter.all false
set_option maxRecDepth 100000
namespace ML
open PySem L2

/-! ### readings by functions -/
def lf (T : Tx) (m : Sm → M D) : TE := fun σ H Q => ∃ ι σm h d h1, Rl T ι H h ∧ RS T ι H σm σ ∧ m σm h = some (d, h1) ∧
  ∀ ι1 H1 v, Ex ι H ι1 H1 → Rl T ι1 H1 h1 → RV T ι1 H1 d v → Q v H1
def lfT (T : Tx) (m : Sm → M Bool) : TT := fun σ H Q => ∃ ι σm h b h1, Rl T ι H h ∧ RS T ι H σm σ ∧ m σm h = some (b, h1) ∧
  ∀ ι1 H1, Ex ι H ι1 H1 → Rl T ι1 H1 h1 → Q b H1
def lfA (T : Tx) (m : Sm → M (List D)) : TA := fun σ H Q => ∃ ι σm h ds h1, Rl T ι H h ∧ RS T ι H σm σ ∧ m σm h = some (ds, h1) ∧
  ∀ ι1 H1 vs, Ex ι H ι1 H1 → Rl T ι1 H1 h1 → RVs T ι1 H1 ds vs → Q vs H1
/-- a new list that is none of ours yet -/
def lfL (T : Tx) (m : Sm → M (List D)) : TE := fun σ H Q => ∃ ι σm h ds h1, Rl T ι H h ∧ RS T ι H σm σ ∧ m σm h = some (ds, h1) ∧
  ∀ ι1 H1 a xs, Ex ι H ι1 H1 → Rl T ι1 H1 h1 → H a = none → a ∉ ι1 → H1 a = some (.lst xs) → RVs T ι1 H1 ds xs → Q (.ref a) H1
def EndF (T : Tx) (ι : List Addr) (H : Hp) (D : Ends) : Fl → Prop
  | .nx σm => ∀ σ, RS T ι H σm σ → D.nx σ H
  | .rt d => ∀ v, RV T ι H d v → D.rt v H
  | .bk σm => ∀ σ, RS T ι H σm σ → D.bk σ H
  | .ct σm => ∀ σ, RS T ι H σm σ → D.ct σ H
def lfS (T : Tx) (m : Sm → M Fl) : TS := fun D σ H => ∃ ι σm h f h1, Rl T ι H h ∧ RS T ι H σm σ ∧ m σm h = some (f, h1) ∧
  ∀ ι1 H1, Ex ι H ι1 H1 → Rl T ι1 H1 h1 → EndF T ι1 H1 D f

theorem _root_.L2.PE.imp {X : Cx} {e : Expr} {t t' : TE} (h : PE X e t) (i : ∀ σ H Q, t' σ H Q → t σ H Q) : PE X e t' := ⟨fun pins s σ H Q I q => h.run pins s σ H Q I (i _ _ _ q)⟩
theorem _root_.L2.PT.imp {X : Cx} {e : Expr} {t t' : TT} (h : PT X e t) (i : ∀ σ H Q, t' σ H Q → t σ H Q) : PT X e t' := ⟨fun pins s σ H Q I q => h.run pins s σ H Q I (i _ _ _ q)⟩
theorem _root_.L2.PW.imp {X : Cx} {e : Expr} {t t' : TT} (h : PW X e t) (i : ∀ σ H Q, t' σ H Q → t σ H Q) : PW X e t' := ⟨fun wh pins s σ H Q I q => h.run wh pins s σ H Q I (i _ _ _ q)⟩
theorem _root_.L2.PA.imp {X : Cx} {e : List Expr} {t t' : TA} (h : PA X e t) (i : ∀ σ H Q, t' σ H Q → t σ H Q) : PA X e t' := ⟨fun pos pins s σ H Q I q => h.run pos pins s σ H Q I (i _ _ _ q)⟩
theorem _root_.L2.PS.imp {X : Cx} {e : Stmt} {t t' : TS} (h : PS X e t) (i : ∀ D σ H, t' D σ H → t D σ H) : PS X e t' := ⟨fun pins s σ H D I q => h.run pins s σ H D I (i _ _ _ q)⟩
theorem _root_.L2.PSs.imp {X : Cx} {e : List Stmt} {t t' : TS} (h : PSs X e t) (i : ∀ D σ H, t' D σ H → t D σ H) : PSs X e t' := ⟨fun pins s σ H D I q => h.run pins s σ H D I (i _ _ _ q)⟩

section
variable {T : Tx} {ι : List Addr} {H : Hp} {h h1 : Hm} {σm : Sm} {σ : St} {β : Type} {b : β} {P : List Addr → Hp → Prop}
/-- one expression, then the rest -/
theorem lf_then {ma : Sm → M D} {k : D → M β} {R : VK} (r : Rl T ι H h) (rs : RS T ι H σm σ) (e : (ma σm >>= k) h = some (b, h1)) (fin : ∀ ι2 H2, Ex ι H ι2 H2 → P ι2 H2)
    (next : ∀ ι1 H1 x d h', Ex ι H ι1 H1 → Rl T ι1 H1 h' → RS T ι1 H1 σm σ → RV T ι1 H1 d x → k d h' = some (b, h1) → (∀ ι2 H2, Ex ι1 H1 ι2 H2 → P ι2 H2) → R x H1) : lf T ma σ H R := by
  obtain ⟨d, h', e1, e2⟩ := bind_some e
  exact ⟨ι, σm, h, d, h', r, rs, e1, fun ι1 H1 v x r1 q => next ι1 H1 v d h' x r1 (rs.up (x.up r)) q e2 fun ι2 H2 y => fin ι2 H2 (x.trans r1 y)⟩
theorem lfT_then {ma : Sm → M Bool} {k : Bool → M β} {R : Bool → Hp → Prop} (r : Rl T ι H h) (rs : RS T ι H σm σ) (e : (ma σm >>= k) h = some (b, h1)) (fin : ∀ ι2 H2, Ex ι H ι2 H2 → P ι2 H2)
    (next : ∀ ι1 H1 d h', Ex ι H ι1 H1 → Rl T ι1 H1 h' → RS T ι1 H1 σm σ → k d h' = some (b, h1) → (∀ ι2 H2, Ex ι1 H1 ι2 H2 → P ι2 H2) → R d H1) : lfT T ma σ H R := by
  obtain ⟨d, h', e1, e2⟩ := bind_some e
  exact ⟨ι, σm, h, d, h', r, rs, e1, fun ι1 H1 x r1 => next ι1 H1 d h' x r1 (rs.up (x.up r)) e2 fun ι2 H2 y => fin ι2 H2 (x.trans r1 y)⟩
theorem lfA_then {ma : Sm → M (List D)} {k : List D → M β} {R : List V → Hp → Prop} (r : Rl T ι H h) (rs : RS T ι H σm σ) (e : (ma σm >>= k) h = some (b, h1)) (fin : ∀ ι2 H2, Ex ι H ι2 H2 → P ι2 H2)
    (next : ∀ ι1 H1 x d h', Ex ι H ι1 H1 → Rl T ι1 H1 h' → RS T ι1 H1 σm σ → RVs T ι1 H1 d x → k d h' = some (b, h1) → (∀ ι2 H2, Ex ι1 H1 ι2 H2 → P ι2 H2) → R x H1) : lfA T ma σ H R := by
  obtain ⟨d, h', e1, e2⟩ := bind_some e
  exact ⟨ι, σm, h, d, h', r, rs, e1, fun ι1 H1 v x r1 q => next ι1 H1 v d h' x r1 (rs.up (x.up r)) q e2 fun ι2 H2 y => fin ι2 H2 (x.trans r1 y)⟩
theorem lfL_then {ma : Sm → M (List D)} {k : List D → M β} {R : VK} (r : Rl T ι H h) (rs : RS T ι H σm σ) (e : (ma σm >>= k) h = some (b, h1)) (fin : ∀ ι2 H2, Ex ι H ι2 H2 → P ι2 H2)
    (next : ∀ ι1 H1 a xs d h', Ex ι H ι1 H1 → Rl T ι1 H1 h' → RS T ι1 H1 σm σ → H a = none → a ∉ ι1 → H1 a = some (.lst xs) → RVs T ι1 H1 d xs → k d h' = some (b, h1) → (∀ ι2 H2, Ex ι1 H1 ι2 H2 → P ι2 H2) → R (.ref a) H1) : lfL T ma σ H R := by
  obtain ⟨d, h', e1, e2⟩ := bind_some e
  exact ⟨ι, σm, h, d, h', r, rs, e1, fun ι1 H1 a xs x r1 ha na ea q => next ι1 H1 a xs d h' x r1 (rs.up (x.up r)) ha na ea q e2 fun ι2 H2 y => fin ι2 H2 (x.trans r1 y)⟩
end
theorem fin_of {T : Tx} {ι : List Addr} {H : Hp} {h1 : Hm} {d : D} {Q : VK} {ι1 : List Addr} {H1 : Hp} {v : V} (k : ∀ ι2 H2, Ex ι H ι2 H2 → ∀ v, Rl T ι2 H2 h1 → RV T ι2 H2 d v → Q v H2) (x : Ex ι H ι1 H1) (r : Rl T ι1 H1 h1) (q : RV T ι1 H1 d v) : Q v H1 := k _ _ x v r q

/-! ### names and constants -/
def gv (i : Nat) : Sm → M D := fun σ => match σ[i]? with
  | some (some d) => pure d
  | _ => M.bad
def cM (d : D) : Sm → M D := fun _ => pure d
section
variable {X : Cx}
theorem m_var (i : Nat) {x : Str} {pos : Pos} (hN : X.N[i]? = some x := by rfl) (hv : Vis X.env.scope x := by first | exact Or.inl rfl | exact Or.inr (Or.inl rfl) | exact Or.inr (Or.inr rfl)) (hd : (x == ("__debug__" : Str)) = false := by decide)
    (hcd : (x == ("__classdict__" : Str)) = false := by decide) : PE X (.Name x pos) (lf (tx X) (gv i)) := (pe_var hN hv hd hcd).imp fun σ H Q q => by
  obtain ⟨ι, σm, h, d, h1, r, rs, e, k⟩ := q
  unfold gv at e
  cases q1 : σm[i]? with
  | none => rw [q1] at e; cases e
  | some o =>
    cases o with
    | none => rw [q1] at e; cases e
    | some d' =>
      rw [q1] at e
      obtain ⟨e1, e2⟩ := pure_some e
      subst e1 e2
      obtain ⟨v, e3, q3⟩ := rs.at_ i d' q1
      exact ⟨v, e3, k ι H v (Ex.refl ι H) r q3⟩
theorem m_c {e : Expr} {v : V} {d : D} (p : PE X e (tC v)) (hd : ∀ ι H, RV (tx X) ι H d v) : PE X e (lf (tx X) (cM d)) := p.imp fun σ H Q q => by
  obtain ⟨ι, σm, h, d, h1, r, rs, e, k⟩ := q
  obtain ⟨e1, e2⟩ := pure_some e
  subst e1 e2
  exact k ι H v (Ex.refl ι H) r (hd ι H)
theorem m_int {i j pos} : PE X (.Constant (.int i) j pos) (lf (tx X) (cM (.int i))) := m_c pe_int fun _ _ => by rw [RV]
theorem m_bl {b j pos} : PE X (.Constant (.bool b) j pos) (lf (tx X) (cM (.bl b))) := m_c pe_bl fun _ _ => by rw [RV]
theorem m_non {j pos} : PE X (.Constant .none j pos) (lf (tx X) (cM .non)) := m_c pe_non fun _ _ => by rw [RV]
theorem m_str {x j pos} : PE X (.Constant (.str x) j pos) (lf (tx X) (cM (.str x))) := m_c pe_str fun _ _ => by rw [RV]

/-! ### operators -/
def Op2 (T : Tx) (r : R2) (g : D → D → M D) : Prop := ∀ (ι : List Addr) (H : Hp) (h : Hm) (x y : V) (a b d : D) (h1 : Hm) (Q : VK), Rl T ι H h → RV T ι H a x → RV T ι H b y → g a b h = some (d, h1) →
  (∀ ι1 H1 v, Ex ι H ι1 H1 → Rl T ι1 H1 h1 → RV T ι1 H1 d v → Q v H1) → r x y H Q
def op2M (g : D → D → M D) (ma mb : Sm → M D) : Sm → M D := fun σ => ma σ >>= fun a => mb σ >>= fun b => g a b
variable {a b : Expr} {ma mb : Sm → M D} {pos : Pos}
theorem op2_of {r : R2} {g : D → D → M D} (hg : Op2 (tx X) r g) {σ : St} {H : Hp} {Q : VK} (q : lf (tx X) (op2M g ma mb) σ H Q) : tOp r (lf (tx X) ma) (lf (tx X) mb) σ H Q := by
  obtain ⟨ι, σm, h, d, h1, r, rs, e, k⟩ := q
  refine lf_then r rs e (P := fun ι2 H2 => ∀ v, Rl (tx X) ι2 H2 h1 → RV (tx X) ι2 H2 d v → Q v H2) (fun ι2 H2 y v => k ι2 H2 v y) fun ι1 H1 x da h' x1 r1 rs1 q1 e1 k1 => ?_
  refine lf_then r1 rs1 e1 k1 fun ι2 H2 y db h'' x2 r2 rs2 q2 e2 k2 => ?_
  exact hg ι2 H2 h'' x y da db d h1 Q r2 (q1.up (x2.up r1) da x) q2 e2 fun ι3 H3 v x3 r3 q3 => k2 ι3 H3 x3 v r3 q3
theorem m_op {op : Operator} {r : R2} {g : D → D → M D} (ho : OpR X (binaryOp op) r) (hg : Op2 (tx X) r g) (ha : PE X a (lf (tx X) ma)) (hb : PE X b (lf (tx X) mb)) : PE X (.BinOp a op b pos) (lf (tx X) (op2M g ma mb)) :=
  (pe_op ho ha hb).imp fun _ _ _ q => op2_of hg q
theorem m_cmp {op : CmpOp} {r : R2} {g : D → D → M D} (ho : OpR X (compareOp op) r) (hg : Op2 (tx X) r g) (ha : PE X a (lf (tx X) ma)) (hb : PE X b (lf (tx X) mb)) (hm : behindInMarks op b = false) : PE X (.Compare a [op] [b] pos) (lf (tx X) (op2M g ma mb)) :=
  (pe_cmpR ho ha hb hm).imp fun _ _ _ q => op2_of hg q
theorem m_ix {r : R2} {g : D → D → M D} (hr : IxR X r) (hg : Op2 (tx X) r g) (ha : PE X a (lf (tx X) ma)) (hb : PE X b (lf (tx X) mb)) (hs : PlainIx b) : PE X (.Subscript a b pos) (lf (tx X) (op2M g ma mb)) :=
  (pe_ix hr ha hb hs).imp fun _ _ _ q => op2_of hg q
def Op1 (T : Tx) (r : V → Hp → VK → Prop) (g : D → M D) : Prop := ∀ (ι : List Addr) (H : Hp) (h : Hm) (x : V) (a d : D) (h1 : Hm) (Q : VK), Rl T ι H h → RV T ι H a x → g a h = some (d, h1) →
  (∀ ι1 H1 v, Ex ι H ι1 H1 → Rl T ι1 H1 h1 → RV T ι1 H1 d v → Q v H1) → r x H Q
def op1M (g : D → M D) (ma : Sm → M D) : Sm → M D := fun σ => ma σ >>= g
theorem m_un {op : UnaryOp} {r : V → Hp → VK → Prop} {g : D → M D} (ho : UnR X (unaryOp op) r) (hg : Op1 (tx X) r g) (ha : PE X a (lf (tx X) ma)) : PE X (.UnaryOp op a pos) (lf (tx X) (op1M g ma)) := (pe_un ho ha).imp fun σ H Q q => by
  obtain ⟨ι, σm, h, d, h1, r, rs, e, k⟩ := q
  refine lf_then r rs e (P := fun ι2 H2 => ∀ v, Rl (tx X) ι2 H2 h1 → RV (tx X) ι2 H2 d v → Q v H2) (fun ι2 H2 y v => k ι2 H2 v y) fun ι1 H1 x da h' x1 r1 rs1 q1 e1 k1 => ?_
  exact hg ι1 H1 h' x da d h1 Q r1 q1 e1 fun ι3 H3 v x3 r3 q3 => k1 ι3 H3 x3 v r3 q3

/-! ### tests -/
def tvM (ma : Sm → M D) : Sm → M Bool := fun σ => ma σ >>= fun d => match d with
  | .bl c => pure c
  | _ => M.bad
theorem tv_of {σ : St} {H : Hp} {Q : Bool → Hp → Prop} {T : Tx} (q : lfT T (tvM ma) σ H Q) : lf T ma σ H fun x H' => ∃ k, x = .bl k ∧ Q k H' := by
  obtain ⟨ι, σm, h, d, h1, r, rs, e, k⟩ := q
  refine lf_then r rs e (P := fun ι2 H2 => Rl T ι2 H2 h1 → Q d H2) (fun ι2 H2 y => k ι2 H2 y) fun ι1 H1 x da h' x1 r1 rs1 q1 e1 k1 => ?_
  cases da with
  | bl c =>
    obtain ⟨e2, e3⟩ := pure_some e1
    subst e2 e3
    rw [RV] at q1
    exact ⟨c, q1, k1 _ _ (Ex.refl _ _) r1⟩
  | _ => cases e1
theorem m_tv (h : PE X a (lf (tx X) ma)) (he : ∀ whole, isTrue a X.env whole = (do let v ← whole; standAt a.pos; holding [v] (truthy v)) := by intro _; rfl) : PT X a (lfT (tx X) (tvM ma)) :=
  (pt_val h he).imp fun _ _ _ q => tv_of q
theorem m_tcmp {op : CmpOp} {r : R2} {g : D → D → M D} (ho : OpR X (compareOp op) r) (hg : Op2 (tx X) r g) (ha : PE X a (lf (tx X) ma)) (hb : PE X b (lf (tx X) mb)) (hm : behindInMarks op b = false) : PT X (.Compare a [op] [b] pos) (lfT (tx X) (tvM (op2M g ma mb))) :=
  (pt_cmpR ho ha hb hm).imp fun σ H Q q => op2_of hg (tv_of q)
def andT (ma mb : Sm → M Bool) : Sm → M Bool := fun σ => ma σ >>= fun c => if c = true then mb σ else pure false
def orT (ma mb : Sm → M Bool) : Sm → M Bool := fun σ => ma σ >>= fun c => if c = true then pure true else mb σ
def notT (ma : Sm → M Bool) : Sm → M Bool := fun σ => ma σ >>= fun c => pure (!c)
variable {ta tb : Sm → M Bool} {rest : List Expr}
theorem lfT_up {T : Tx} {ι : List Addr} {σm : Sm} {σ : St} {H : Hp} {h h1 : Hm} {m : Sm → M Bool} {d : Bool} {Q : Bool → Hp → Prop} (r : Rl T ι H h) (rs : RS T ι H σm σ) (e : m σm h = some (d, h1)) (k : ∀ ι2 H2, Ex ι H ι2 H2 → Rl T ι2 H2 h1 → Q d H2) : lfT T m σ H Q :=
  ⟨ι, σm, h, d, h1, r, rs, e, k⟩
theorem mw_and1 (ha : PT X a (lfT (tx X) ta)) : PW X (.BoolOp .And [a] pos) (lfT (tx X) ta) := pw_and1 ha
theorem mw_or1 (ha : PT X a (lfT (tx X) ta)) : PW X (.BoolOp .Or [a] pos) (lfT (tx X) ta) := pw_or1 ha
theorem mw_and (ha : PT X a (lfT (tx X) ta)) (hb : PW X (.BoolOp .And (b :: rest) pos) (lfT (tx X) tb)) : PW X (.BoolOp .And (a :: b :: rest) pos) (lfT (tx X) (andT ta tb)) := (pw_and ha hb).imp fun σ H Q q => by
  obtain ⟨ι, σm, h, d, h1, r, rs, e, k⟩ := q
  refine lfT_then r rs e (P := fun ι2 H2 => Rl (tx X) ι2 H2 h1 → Q d H2) k fun ι1 H1 c h' x1 r1 rs1 e1 k1 => ?_
  cases c with
  | true => rw [if_pos rfl] at e1 ⊢; exact lfT_up r1 rs1 e1 k1
  | false =>
    rw [if_neg Bool.false_ne_true] at e1 ⊢
    obtain ⟨e2, e3⟩ := pure_some e1
    subst e2 e3
    exact k1 _ _ (Ex.refl _ _) r1
theorem mw_or (ha : PT X a (lfT (tx X) ta)) (hb : PW X (.BoolOp .Or (b :: rest) pos) (lfT (tx X) tb)) : PW X (.BoolOp .Or (a :: b :: rest) pos) (lfT (tx X) (orT ta tb)) := (pw_or ha hb).imp fun σ H Q q => by
  obtain ⟨ι, σm, h, d, h1, r, rs, e, k⟩ := q
  refine lfT_then r rs e (P := fun ι2 H2 => Rl (tx X) ι2 H2 h1 → Q d H2) k fun ι1 H1 c h' x1 r1 rs1 e1 k1 => ?_
  cases c with
  | false => rw [if_neg Bool.false_ne_true] at e1 ⊢; exact lfT_up r1 rs1 e1 k1
  | true =>
    rw [if_pos rfl] at e1 ⊢
    obtain ⟨e2, e3⟩ := pure_some e1
    subst e2 e3
    exact k1 _ _ (Ex.refl _ _) r1
theorem mt_not' (ha : PT X a (lfT (tx X) ta)) : PT X (.UnaryOp .Not a pos) (lfT (tx X) (notT ta)) := (pt_not ha).imp fun σ H Q q => by
  obtain ⟨ι, σm, h, d, h1, r, rs, e, k⟩ := q
  refine lfT_then r rs e (P := fun ι2 H2 => Rl (tx X) ι2 H2 h1 → Q d H2) k fun ι1 H1 c h' x1 r1 rs1 e1 k1 => ?_
  obtain ⟨e2, e3⟩ := pure_some e1
  subst e2 e3
  exact k1 _ _ (Ex.refl _ _) r1
/-- as values: all but the last bools -/
def andV (ma mb : Sm → M D) : Sm → M D := fun σ => tvM ma σ >>= fun c => if c = true then mb σ else pure (.bl false)
def orV (ma mb : Sm → M D) : Sm → M D := fun σ => tvM ma σ >>= fun c => if c = true then pure (.bl true) else mb σ
def notV (ma : Sm → M D) : Sm → M D := fun σ => tvM ma σ >>= fun c => pure (.bl (!c))
theorem lf_up {T : Tx} {ι : List Addr} {σm : Sm} {σ : St} {H : Hp} {h h1 : Hm} {m : Sm → M D} {d : D} {Q : VK} (r : Rl T ι H h) (rs : RS T ι H σm σ) (e : m σm h = some (d, h1)) (k : ∀ ι2 H2, Ex ι H ι2 H2 → ∀ v, Rl T ι2 H2 h1 → RV T ι2 H2 d v → Q v H2) : lf T m σ H Q :=
  ⟨ι, σm, h, d, h1, r, rs, e, fun ι1 H1 v x => k ι1 H1 x v⟩
/-- a bool value, then the rest -/
theorem tv_then {T : Tx} {ι : List Addr} {H : Hp} {h h1 : Hm} {σm : Sm} {σ : St} {d : D} {P : List Addr → Hp → Prop} {k : Bool → M D} {R : Bool → Hp → Prop} (r : Rl T ι H h) (rs : RS T ι H σm σ) (e : (tvM ma σm >>= k) h = some (d, h1)) (fin : ∀ ι2 H2, Ex ι H ι2 H2 → P ι2 H2)
    (next : ∀ ι1 H1 c h', Ex ι H ι1 H1 → Rl T ι1 H1 h' → RS T ι1 H1 σm σ → k c h' = some (d, h1) → (∀ ι2 H2, Ex ι1 H1 ι2 H2 → P ι2 H2) → R c H1) : lf T ma σ H fun x H1 => ∃ c, x = .bl c ∧ R c H1 := by
  obtain ⟨c, h', e1, e2⟩ := bind_some e
  exact tv_of ⟨ι, σm, h, c, h', r, rs, e1, fun ι1 H1 x r1 => next ι1 H1 c h' x r1 (rs.up (x.up r)) e2 fun ι2 H2 y => fin ι2 H2 (x.trans r1 y)⟩
theorem m_one {op} (h : PE X a (lf (tx X) ma)) : PE X (.BoolOp op [a] pos) (lf (tx X) ma) := pe_one h
theorem m_and (ha : PE X a (lf (tx X) ma)) (hb : PE X (.BoolOp .And (b :: rest) pos) (lf (tx X) mb)) : PE X (.BoolOp .And (a :: b :: rest) pos) (lf (tx X) (andV ma mb)) := (pe_and ha hb).imp fun σ H Q q => by
  obtain ⟨ι, σm, h, d, h1, r, rs, e, k⟩ := q
  refine tv_then r rs e (P := fun ι2 H2 => ∀ v, Rl (tx X) ι2 H2 h1 → RV (tx X) ι2 H2 d v → Q v H2) (fun ι2 H2 y v => k ι2 H2 v y) fun ι1 H1 c h' x1 r1 rs1 e1 k1 => ?_
  cases c with
  | true => rw [if_pos rfl] at e1 ⊢; exact lf_up r1 rs1 e1 k1
  | false =>
    rw [if_neg Bool.false_ne_true] at e1 ⊢
    obtain ⟨e2, e3⟩ := pure_some e1
    subst e2 e3
    exact k1 _ _ (Ex.refl _ _) _ r1 (by rw [RV])
theorem m_or (ha : PE X a (lf (tx X) ma)) (hb : PE X (.BoolOp .Or (b :: rest) pos) (lf (tx X) mb)) : PE X (.BoolOp .Or (a :: b :: rest) pos) (lf (tx X) (orV ma mb)) := (pe_or ha hb).imp fun σ H Q q => by
  obtain ⟨ι, σm, h, d, h1, r, rs, e, k⟩ := q
  refine tv_then r rs e (P := fun ι2 H2 => ∀ v, Rl (tx X) ι2 H2 h1 → RV (tx X) ι2 H2 d v → Q v H2) (fun ι2 H2 y v => k ι2 H2 v y) fun ι1 H1 c h' x1 r1 rs1 e1 k1 => ?_
  cases c with
  | false => rw [if_neg Bool.false_ne_true] at e1 ⊢; exact lf_up r1 rs1 e1 k1
  | true =>
    rw [if_pos rfl] at e1 ⊢
    obtain ⟨e2, e3⟩ := pure_some e1
    subst e2 e3
    exact k1 _ _ (Ex.refl _ _) _ r1 (by rw [RV])
theorem m_not (ha : PE X a (lf (tx X) ma)) : PE X (.UnaryOp .Not a pos) (lf (tx X) (notV ma)) := (pe_not ha).imp fun σ H Q q => by
  obtain ⟨ι, σm, h, d, h1, r, rs, e, k⟩ := q
  refine tv_then r rs e (P := fun ι2 H2 => ∀ v, Rl (tx X) ι2 H2 h1 → RV (tx X) ι2 H2 d v → Q v H2) (fun ι2 H2 y v => k ι2 H2 v y) fun ι1 H1 c h' x1 r1 rs1 e1 k1 => ?_
  obtain ⟨e2, e3⟩ := pure_some e1
  subst e2 e3
  exact k1 _ _ (Ex.refl _ _) _ r1 (by rw [RV])
def ifE (t : Sm → M Bool) (ma mb : Sm → M D) : Sm → M D := fun σ => t σ >>= fun c => if c = true then ma σ else mb σ
theorem m_ifExp {c : Expr} (hc : PT X c (lfT (tx X) ta)) (ha : PE X a (lf (tx X) ma)) (hb : PE X b (lf (tx X) mb)) : PE X (.IfExp c a b pos) (lf (tx X) (ifE ta ma mb)) := (pe_ifExp hc ha hb).imp fun σ H Q q => by
  obtain ⟨ι, σm, h, d, h1, r, rs, e, k⟩ := q
  refine lfT_then r rs e (P := fun ι2 H2 => ∀ v, Rl (tx X) ι2 H2 h1 → RV (tx X) ι2 H2 d v → Q v H2) (fun ι2 H2 y v => k ι2 H2 v y) fun ι1 H1 c h' x1 r1 rs1 e1 k1 => ?_
  cases c with
  | true => rw [if_pos rfl] at e1 ⊢; exact lf_up r1 rs1 e1 k1
  | false => rw [if_neg Bool.false_ne_true] at e1 ⊢; exact lf_up r1 rs1 e1 k1
end
end ML

set_option Elab.async false
set_option linter.all false
set_option maxRecDepth 100000
namespace ML
open PySem L2
section
variable {X : Cx}
/-! ### arguments and displays -/
def nilA : Sm → M (List D) := fun _ => pure []
def consA (m : Sm → M D) (ms : Sm → M (List D)) : Sm → M (List D) := fun σ => m σ >>= fun d => ms σ >>= fun ds => pure (d :: ds)
theorem a_nil : PA X [] (lfA (tx X) nilA) := pa_nil.imp fun σ H Q q => by
  obtain ⟨ι, σm, h, ds, h1, r, rs, e, k⟩ := q
  obtain ⟨e1, e2⟩ := pure_some e
  subst e1 e2
  exact k ι H [] (Ex.refl _ _) r (by rw [RVs])
variable {e : Expr} {es : List Expr} {m ma mb : Sm → M D} {ms : Sm → M (List D)} {pos : Pos}
theorem a_cons (he : PE X e (lf (tx X) m)) (hr : PA X es (lfA (tx X) ms)) (hs : starEach (e :: es) X.env = (false, eval e X.env) :: starEach es X.env := by rfl) : PA X (e :: es) (lfA (tx X) (consA m ms)) := (pa_cons he hr hs).imp fun σ H Q q => by
  obtain ⟨ι, σm, h, ds, h1, r, rs, e, k⟩ := q
  refine lf_then r rs e (P := fun ι2 H2 => ∀ v, Rl (tx X) ι2 H2 h1 → RVs (tx X) ι2 H2 ds v → Q v H2) (fun ι2 H2 y v => k ι2 H2 v y) fun ι1 H1 x d h' x1 r1 rs1 q1 e1 k1 => ?_
  refine lfA_then r1 rs1 e1 k1 fun ι2 H2 xs ds' h'' x2 r2 rs2 q2 e2 k2 => ?_
  obtain ⟨e3, e4⟩ := pure_some e2
  subst e3 e4
  exact k2 _ _ (Ex.refl _ _) _ r2 (by rw [RVs]; exact ⟨x, xs, rfl, q1.up (x2.up r1) d x, q2⟩)
theorem RVs.length {T : Tx} {ι : List Addr} {H : Hp} : ∀ {ds : List D} {xs : List V}, RVs T ι H ds xs → xs.length = ds.length
  | [], xs, r => by rw [RVs] at r; rw [r]; rfl
  | d :: ds, xs, r => by
    rw [RVs] at r
    obtain ⟨x, s, e, _, q⟩ := r
    rw [e, List.length_cons, List.length_cons, RVs.length q]
def tupM (ms : Sm → M (List D)) : Sm → M D := fun σ => ms σ >>= fun ds => if ds.length ≤ sizeLine then pure (.tup ds) else M.bad
theorem m_tup {x1} (hs : PA X es (lfA (tx X) ms)) : PE X (.Tuple es x1 pos) (lf (tx X) (tupM ms)) := (pe_tup hs).imp fun σ H Q q => by
  obtain ⟨ι, σm, h, d, h1, r, rs, e, k⟩ := q
  refine lfA_then r rs e (P := fun ι2 H2 => ∀ v, Rl (tx X) ι2 H2 h1 → RV (tx X) ι2 H2 d v → Q v H2) (fun ι2 H2 y v => k ι2 H2 v y) fun ι1 H1 xs ds h' x1 r1 rs1 q1 e1 k1 => ?_
  by_cases hl : ds.length ≤ sizeLine
  · rw [if_pos hl] at e1
    obtain ⟨e2, e3⟩ := pure_some e1
    subst e2 e3
    refine ⟨by rw [q1.length]; exact hl, fun p hp => ?_⟩
    obtain ⟨x2, r2⟩ := r1.other (u := .tup xs) hp
    exact k1 _ _ x2 _ r2 (by rw [RV]; exact ⟨p, xs, rfl, SqT.of upd_same, RVs.up (x2.up r1) ds xs q1⟩)
  · rw [if_neg hl] at e1; cases e1
/-- a display of a list: a new list that is none of ours -/
def lstM (ms : Sm → M (List D)) : Sm → M (List D) := fun σ => ms σ >>= fun ds => if ds.length ≤ sizeLine then pure ds else M.bad
theorem l_lst (hs : PA X es (lfA (tx X) ms)) : PE X (.List es pos) (lfL (tx X) (lstM ms)) := (pe_lst hs).imp fun σ H Q q => by
  obtain ⟨ι, σm, h, d, h1, r, rs, e, k⟩ := q
  refine lfA_then r rs e (P := fun ι2 H2 => ∀ a xs, Rl (tx X) ι2 H2 h1 → H a = none → a ∉ ι2 → H2 a = some (.lst xs) → RVs (tx X) ι2 H2 d xs → Q (.ref a) H2) (fun ι2 H2 y a xs => k ι2 H2 a xs y) fun ι1 H1 xs ds h' x1 r1 rs1 q1 e1 k1 => ?_
  by_cases hl : ds.length ≤ sizeLine
  · rw [if_pos hl] at e1
    obtain ⟨e2, e3⟩ := pure_some e1
    subst e2 e3
    refine ⟨by rw [q1.length]; exact hl, fun p hp => ?_⟩
    obtain ⟨x2, r2⟩ := r1.other (u := .lst xs) hp
    have np : p ∉ ι1 := fun mm => by
      obtain ⟨u', e', _⟩ := r1.at mm
      rw [hp] at e'; cases e'
    have hH : H p = none := by
      cases q5 : H p with
      | none => rfl
      | some o =>
        by_cases hi : p ∈ ι
        · obtain ⟨s, es', _⟩ := x1.pre
          exact absurd (by rw [es']; exact List.mem_append_left _ hi) np
        · have := x1.fr p o q5 hi
          rw [hp] at this; cases this
    exact k1 _ _ x2 _ _ r2 hH np upd_same (RVs.up (x2.up r1) ds xs q1)
  · rw [if_neg hl] at e1; cases e1
/-- a new list becomes ours -/
def newM (ms : Sm → M (List D)) : Sm → M D := fun σ => ms σ >>= fun ds => fun h => some (.ref h.length, h ++ [.lst ds])
theorem Rl.own {T : Tx} {ι : List Addr} {H : Hp} {h : Hm} {a : Addr} {o : O} (r : Rl T ι H h) (ha : a ∉ ι) (u : HO) (hu : H a = some u) (hn : NoT u) (q : Up T ι H (ι ++ [a]) H → OR T (ι ++ [a]) H a o) : Rl T (ι ++ [a]) H (h ++ [o]) := by
  have up : Up T ι H (ι ++ [a]) H := ⟨fun i b e => by rw [List.getElem?_append_left (List.getElem?_eq_some_iff.mp e).1]; exact e, fun _ _ s => s, fun _ _ s => s⟩
  refine ⟨by rw [List.length_append, List.length_append, r.len]; rfl, ?_, fun i b o' e1 e2 => ?_⟩
  · rw [List.nodup_append]
    exact ⟨r.nd, by simp, fun b m b' m' => by rw [List.mem_singleton.mp m']; exact fun z => ha (z ▸ m)⟩
  · by_cases hi : i < ι.length
    · rw [List.getElem?_append_left hi] at e1
      rw [List.getElem?_append_left (by rw [← r.len]; exact hi)] at e2
      exact (r.obj i b o' e1 e2).up up rfl
    · have hl := (List.getElem?_eq_some_iff.mp e1).1
      rw [List.length_append, List.length_singleton] at hl
      have ei : i = ι.length := by omega
      subst ei
      rw [List.getElem?_append_right (Nat.le_refl _), Nat.sub_self] at e1
      rw [r.len, List.getElem?_append_right (Nat.le_refl _), Nat.sub_self] at e2
      cases e1; cases e2
      exact q up
theorem Ex.own {ι ι1 : List Addr} {H H1 : Hp} {a : Addr} (x : Ex ι H ι1 H1) (ha : H a = none) : Ex ι H (ι1 ++ [a]) H1 := by
  obtain ⟨s, e, n⟩ := x.pre
  exact ⟨⟨s ++ [a], by rw [e, List.append_assoc], fun b m => (List.mem_append.mp m).elim (n b) fun z => by rw [List.mem_singleton.mp z]; exact ha⟩, x.fr⟩
theorem m_new (hs : PE X e (lfL (tx X) ms)) : PE X e (lf (tx X) (newM ms)) := hs.imp fun σ H Q q => by
  obtain ⟨ι, σm, h, d, h1, r, rs, e, k⟩ := q
  obtain ⟨ds, h', e1, e2⟩ := bind_some e
  have e3 : some (D.ref h'.length, h' ++ [O.lst ds]) = some (d, h1) := e2
  injection e3 with e3
  injection e3 with e4 e5
  subst e4 e5
  refine ⟨ι, σm, h, ds, h', r, rs, e1, fun ι1 H1 a xs x1 r1 ha na ea q1 => ?_⟩
  have r2 := r1.own na _ ea trivial (o := .lst ds) fun up => ⟨xs, ea, RVs.up up ds xs q1⟩
  refine k (ι1 ++ [a]) H1 (.ref a) (x1.own ha) r2 ?_
  rw [RV]
  exact ⟨a, by rw [← r1.len, List.getElem?_append_right (Nat.le_refl _), Nat.sub_self]; rfl, rfl⟩

/-! ### calls of own functions -/
/-- what a function keeps -/
def spM (T : Tx) (n : Nat) (F : List D → M D) : Sp := fun vs H Q _ => ∃ ι h ds d h1, vs.length = n ∧ Rl T ι H h ∧ RVs T ι H ds vs ∧ F ds h = some (d, h1) ∧
  ∀ ι1 H1 v, Ex ι H ι1 H1 → Rl T ι1 H1 h1 → RV T ι1 H1 d v → Q v H1
theorem spM_len {T : Tx} {n : Nat} {F : List D → M D} : ∀ vs H Q E, spM T n F vs H Q E → vs.length = n := fun vs H Q E h => by
  obtain ⟨_, _, _, _, _, e, _⟩ := h
  exact e
def callM (F : List D → M D) (n : Nat) (ms : Sm → M (List D)) : Sm → M D := fun σ => ms σ >>= fun ds => if ds.length = n then F ds else M.bad
variable {k : Nat} {f : Addr} {fd : FuncData} {ps : List Str} {F : List D → M D} {x : Str} {p : Pos}
theorem call_of {n : Nat} {σ : St} {H : Hp} {Q : VK} {T : Tx} {E : XK} (q : lf T (callM F n ms) σ H Q) : tCall (spM T n F) [] E (lfA T ms) σ H Q := by
  obtain ⟨ι, σm, h, d, h1, r, rs, e, k⟩ := q
  refine lfA_then r rs e (P := fun ι2 H2 => ∀ v, Rl T ι2 H2 h1 → RV T ι2 H2 d v → Q v H2) (fun ι2 H2 y v => k ι2 H2 v y) fun ι1 H1 xs ds h' x1 r1 rs1 q1 e1 k1 => ?_
  by_cases hl : ds.length = n
  · rw [if_pos hl] at e1
    rw [List.append_nil]
    exact ⟨ι1, h', ds, d, h1, by rw [q1.length, hl], r1, q1, e1, fun ι2 H2 v y => k1 ι2 H2 y v⟩
  · rw [if_neg hl] at e1; cases e1
theorem m_call {n : Nat} (G : FnOk X.prog X.w X.K X.mg X.base CX0 k f fd ps (spM (tx X) n F)) (hr : Room k X.A) (hg : Gl X x) (hm : X.mg x = some (.ref f)) (hk : PySem.W.keepIn X.K (.ref f) = true) (hb : Binds X.K fd ps [])
    (ha : PA X (e :: es) (lfA (tx X) ms)) (hdb : (x == ("__debug__" : Str)) = false := by decide) (he : starEach (e :: es) X.env = (false, eval e X.env) :: starEach es X.env := by rfl) (hpl : (backTo pos (starEach es X.env)).any (·.1) = false := by rfl) :
    PE X (.Call (.Name x p) (e :: es) [] pos) (lf (tx X) (callM F n ms)) := (pe_call G hr hg hm hk hb .nil pass0 ha hdb he hpl).imp fun _ _ _ q => call_of q
theorem m_call0 {n : Nat} (G : FnOk X.prog X.w X.K X.mg X.base CX0 k f fd ps (spM (tx X) n F)) (hr : Room k X.A) (hg : Gl X x) (hm : X.mg x = some (.ref f)) (hk : PySem.W.keepIn X.K (.ref f) = true) (hb : Binds X.K fd ps [])
    (hdb : (x == ("__debug__" : Str)) = false := by decide) : PE X (.Call (.Name x p) [] [] pos) (lf (tx X) (callM F n nilA)) := (pe_call0 G hr hg hm hk hb .nil pass0 hdb).imp fun σ H Q q => by
  obtain ⟨ι, σm, h, d, h1, r, rs, e, k⟩ := q
  obtain ⟨ds, h', e1, e2⟩ := bind_some e
  obtain ⟨e3, e4⟩ := pure_some e1
  subst e3 e4
  by_cases hl : ([] : List D).length = n
  · rw [if_pos hl] at e2
    exact ⟨ι, h, [], d, h1, hl, r, by rw [RVs]; rfl, e2, k⟩
  · rw [if_neg hl] at e2; cases e2

/-! ### blocks and statements -/
def skipS : Sm → M Fl := fun σ => pure (.nx σ)
def seqS (s t : Sm → M Fl) : Sm → M Fl := fun σ => s σ >>= fun f => match f with
  | .nx σ1 => t σ1
  | f => pure f
def brkS : Sm → M Fl := fun σ => pure (.bk σ)
def ctS : Sm → M Fl := fun σ => pure (.ct σ)
def retS (m : Sm → M D) : Sm → M Fl := fun σ => m σ >>= fun d => pure (.rt d)
def retN : Sm → M Fl := fun _ => pure (.rt .non)
def exprS (m : Sm → M D) : Sm → M Fl := fun σ => m σ >>= fun _ => pure (.nx σ)
def ifS (t : Sm → M Bool) (a b : Sm → M Fl) : Sm → M Fl := fun σ => t σ >>= fun c => if c = true then a σ else b σ
def setS (i : Nat) (m : Sm → M D) : Sm → M Fl := fun σ => m σ >>= fun d => pure (.nx (σ.set i (some d)))
theorem lfS_up {T : Tx} {ι : List Addr} {σm : Sm} {σ : St} {H : Hp} {h h1 : Hm} {m : Sm → M Fl} {f : Fl} {D : Ends} (r : Rl T ι H h) (rs : RS T ι H σm σ) (e : m σm h = some (f, h1)) (k : ∀ ι2 H2, Ex ι H ι2 H2 → Rl T ι2 H2 h1 → EndF T ι2 H2 D f) : lfS T m D σ H :=
  ⟨ι, σm, h, f, h1, r, rs, e, k⟩
variable {st : Stmt} {rest : List Stmt} {s t : Sm → M Fl}
theorem s_skip {st : Stmt} (h0 : PS X st tNext) : PS X st (lfS (tx X) skipS) := h0.imp fun D σ H q => by
  obtain ⟨ι, σm, h, f, h1, r, rs, e, k⟩ := q
  obtain ⟨e1, e2⟩ := pure_some e
  subst e1 e2
  exact k ι H (Ex.refl _ _) r σ rs
theorem s_pass : PS X (.Pass pos) (lfS (tx X) skipS) := s_skip ps_pass
theorem s_doc {x j pos pos'} : PS X (.Expr (.Constant (.str x) j pos) pos') (lfS (tx X) skipS) := s_skip ps_doc
theorem b_nil : PSs X [] (lfS (tx X) skipS) := pss_nil.imp fun D σ H q => by
  obtain ⟨ι, σm, h, f, h1, r, rs, e, k⟩ := q
  obtain ⟨e1, e2⟩ := pure_some e
  subst e1 e2
  exact k ι H (Ex.refl _ _) r σ rs
theorem b_one (hs : PS X st (lfS (tx X) s)) : PSs X [st] (lfS (tx X) s) := pss_one hs
theorem b_cons (hs : PS X st (lfS (tx X) s)) (ht : PSs X rest (lfS (tx X) t)) : PSs X (st :: rest) (lfS (tx X) (seqS s t)) := (pss_cons hs ht).imp fun D σ H q => by
  obtain ⟨ι, σm, h, f, h1, r, rs, e, k⟩ := q
  obtain ⟨f', h', e1, e2⟩ := bind_some e
  refine ⟨ι, σm, h, f', h', r, rs, e1, fun ι1 H1 x1 r1 => ?_⟩
  cases f' with
  | nx σ1 => exact fun σ' rs' => lfS_up r1 rs' e2 fun ι2 H2 y r2 => k ι2 H2 (x1.trans r1 y) r2
  | rt d =>
    obtain ⟨e3, e4⟩ := pure_some e2
    subst e3 e4
    exact k ι1 H1 x1 r1
  | bk σ1 =>
    obtain ⟨e3, e4⟩ := pure_some e2
    subst e3 e4
    exact k ι1 H1 x1 r1
  | ct σ1 =>
    obtain ⟨e3, e4⟩ := pure_some e2
    subst e3 e4
    exact k ι1 H1 x1 r1
theorem s_brk : PS X (.Break pos) (lfS (tx X) brkS) := ps_break.imp fun D σ H q => by
  obtain ⟨ι, σm, h, f, h1, r, rs, e, k⟩ := q
  obtain ⟨e1, e2⟩ := pure_some e
  subst e1 e2
  exact k ι H (Ex.refl _ _) r σ rs
theorem s_ct : PS X (.Continue pos) (lfS (tx X) ctS) := ps_continue.imp fun D σ H q => by
  obtain ⟨ι, σm, h, f, h1, r, rs, e, k⟩ := q
  obtain ⟨e1, e2⟩ := pure_some e
  subst e1 e2
  exact k ι H (Ex.refl _ _) r σ rs
theorem s_expr (he : PE X e (lf (tx X) m)) (hs : swapsWith e none pos.line X.env = pure false := by rfl) : PS X (.Expr e pos) (lfS (tx X) (exprS m)) := (ps_expr he hs).imp fun D σ H q => by
  obtain ⟨ι, σm, h, f, h1, r, rs, e, k⟩ := q
  refine lf_then r rs e (P := fun ι2 H2 => Rl (tx X) ι2 H2 h1 → EndF (tx X) ι2 H2 D f) k fun ι1 H1 x d h' x1 r1 rs1 q1 e1 k1 => ?_
  obtain ⟨e2, e3⟩ := pure_some e1
  subst e2 e3
  exact k1 _ _ (Ex.refl _ _) r1 σ rs1
theorem s_ret (he : PE X e (lf (tx X) m)) : PS X (.Return (some e) pos) (lfS (tx X) (retS m)) := (ps_ret he).imp fun D σ H q => by
  obtain ⟨ι, σm, h, f, h1, r, rs, e, k⟩ := q
  refine lf_then r rs e (P := fun ι2 H2 => Rl (tx X) ι2 H2 h1 → EndF (tx X) ι2 H2 D f) k fun ι1 H1 x d h' x1 r1 rs1 q1 e1 k1 => ?_
  obtain ⟨e2, e3⟩ := pure_some e1
  subst e2 e3
  exact k1 _ _ (Ex.refl _ _) r1 x q1
theorem s_retN : PS X (.Return none pos) (lfS (tx X) retN) := ps_retN.imp fun D σ H q => by
  obtain ⟨ι, σm, h, f, h1, r, rs, e, k⟩ := q
  obtain ⟨e1, e2⟩ := pure_some e
  subst e1 e2
  exact k ι H (Ex.refl _ _) r .non (by rw [RV])
theorem s_if {c : Expr} {a b : List Stmt} {tc : Sm → M Bool} (hc : PT X c (lfT (tx X) tc)) (ha : PSs X a (lfS (tx X) s)) (hb : PSs X b (lfS (tx X) t)) : PS X (.If c a b pos) (lfS (tx X) (ifS tc s t)) := (ps_if hc ha hb).imp fun D σ H q => by
  obtain ⟨ι, σm, h, f, h1, r, rs, e, k⟩ := q
  refine lfT_then r rs e (P := fun ι2 H2 => Rl (tx X) ι2 H2 h1 → EndF (tx X) ι2 H2 D f) k fun ι1 H1 c h' x1 r1 rs1 e1 k1 => ?_
  cases c with
  | true => rw [if_pos rfl] at e1 ⊢; exact lfS_up r1 rs1 e1 k1
  | false => rw [if_neg Bool.false_ne_true] at e1 ⊢; exact lfS_up r1 rs1 e1 k1
theorem s_set (i : Nat) {x : Str} {pos' : Pos} (hN : X.N.Nodup) (hi : X.N[i]? = some x) (hx : Loc X.env.scope x) (he : PE X e (lf (tx X) m)) (hs : swapsWith e (some (.Name x pos')) pos.line X.env = pure false := by rfl) (hf : X.fn x = true ∨ X.env.scope.names.lookup x = some .local := by first | exact .inl rfl | exact .inr rfl | assumption) :
    PS X (.Assign [.Name x pos'] e pos) (lfS (tx X) (setS i m)) := (ps_set hN hi hx he hs hf).imp fun D σ H q => by
  obtain ⟨ι, σm, h, f, h1, r, rs, e, k⟩ := q
  refine lf_then r rs e (P := fun ι2 H2 => Rl (tx X) ι2 H2 h1 → EndF (tx X) ι2 H2 D f) k fun ι1 H1 x d h' x1 r1 rs1 q1 e1 k1 => ?_
  obtain ⟨e2, e3⟩ := pure_some e1
  subst e2 e3
  exact k1 _ _ (Ex.refl _ _) r1 _ (rs1.set i q1)
end

/-! ### a def by its body -/
def startM (n : Nat) (ds : List D) : Sm := ds.map some ++ List.replicate (n - ds.length) none
/-- what the body's end is worth -/
def runB (n : Nat) (b : Sm → M Fl) : List D → M D := fun ds => b (startM n ds) >>= fun f => match f with
  | .nx _ => pure .non
  | .rt d => pure d
  | _ => M.bad
theorem RVs.get {T : Tx} {ι : List Addr} {H : Hp} : ∀ {ds : List D} {xs : List V} {i : Nat} {d : D}, RVs T ι H ds xs → ds[i]? = some d → ∃ x, xs[i]? = some x ∧ RV T ι H d x
  | [], _, _, _, _, h => by simp at h
  | a :: ds, xs, 0, d, r, h => by
    rw [RVs] at r
    obtain ⟨x, s, e, q, _⟩ := r
    simp only [List.getElem?_cons_zero, Option.some.injEq] at h
    subst h e
    exact ⟨x, rfl, q⟩
  | a :: ds, xs, i + 1, d, r, h => by
    rw [RVs] at r
    obtain ⟨x, s, e, _, q⟩ := r
    subst e
    exact RVs.get (i := i) q h
theorem start_RS {T : Tx} {ι : List Addr} {H : Hp} {N : List Str} {ds : List D} {vs : List V} (r : RVs T ι H ds vs) : RS T ι H (startM N.length ds) (start N vs) := by
  have hl := r.length
  refine ⟨?_, fun i d e => ?_⟩
  · unfold startM L2.start
    rw [List.length_append, List.length_append, List.length_map, List.length_map, List.length_replicate, List.length_replicate, hl]
  · unfold startM at e
    by_cases hi : i < ds.length
    · rw [List.getElem?_append_left (by rw [List.length_map]; exact hi), List.getElem?_map] at e
      cases q : ds[i]? with
      | none => rw [q] at e; cases e
      | some d' =>
        rw [q] at e
        cases e
        obtain ⟨x, e1, q1⟩ := r.get q
        refine ⟨x, ?_, q1⟩
        unfold L2.start
        rw [List.getElem?_append_left (by rw [List.length_map, hl]; exact hi), List.getElem?_map, e1]
        rfl
    · rw [List.getElem?_append_right (by rw [List.length_map]; omega), List.getElem?_replicate] at e
      split at e <;> cases e
theorem fn_ok {P : Program} {w : World} {K : PySem.W.Frag} {mg : Str → Option Value} {base : Heap} {x qual : Str} {st : Stmt} {f : Addr} {fd : FuncData} {N ps : List Str} {k : Nat} {b : Sm → M Fl} (F : Fun K x qual st f fd) (S : FnScope N ps (defScope st))
    (hbody : ∀ (cdv : Value) (A : Around) (outer : List Env) (s : Shared) (H : Hp) (E : XK), Room k (A.deeper (PyProof.Rows.envOfC qual (defScope st) s.heap.objs.size f cdv)) →
      PSs (cxOf CX0 P w K mg base N qual (defScope st) f cdv A outer s H E).nox (defBody st) (lfS ⟨K, mg⟩ b)) : FnOk P w K mg base CX0 (k + 1) f fd ps (spM ⟨K, mg⟩ ps.length (runB N.length b)) := by
  refine F.ok S (fun vs H Q E h => spM_len _ _ _ _ h) (fun cdv A outer s H vs Q E hr h => ⟨_, hbody cdv A outer s H E hr, ?_⟩)
  obtain ⟨ι, h, ds, d, h1, hn, r, rv, e, kk⟩ := h
  obtain ⟨fl, h', e1, e2⟩ := bind_some e
  refine ⟨ι, _, h, fl, h', r, start_RS rv, e1, fun ι1 H1 x1 r1 => ?_⟩
  cases fl with
  | nx σ1 =>
    obtain ⟨e3, e4⟩ := pure_some e2
    subst e3 e4
    exact fun σ' _ => kk ι1 H1 .non x1 r1 (by rw [RV])
  | rt d' =>
    obtain ⟨e3, e4⟩ := pure_some e2
    subst e3 e4
    exact fun v q => kk ι1 H1 v x1 r1 q
  | bk σ1 => cases e2
  | ct σ1 => cases e2
end ML

set_option Elab.async false
set_option linter.all false
set_option maxRecDepth 100000
namespace ML
open PySem L2
/-! ### targets -/
/-- vs: the places that it sets -/
def lfG (T : Tx) (vs : List Nat) (g : D → Sm → Option Sm) : TG := fun v σ H Q => ∃ ι σm h d σm1, Rl T ι H h ∧ RS T ι H σm σ ∧ RV T ι H d v ∧ g d σm = some σm1 ∧
  ∀ σ1, RS T ι H σm1 σ1 → σ1.length = σ.length → (∀ j, j ∉ vs → σ1[j]? = σ[j]?) → Q σ1 H
def lfGs (T : Tx) (vs : List Nat) (g : List D → Sm → Option Sm) : TGs := fun xs σ H Q => ∃ ι σm h ds σm1, Rl T ι H h ∧ RS T ι H σm σ ∧ RVs T ι H ds xs ∧ g ds σm = some σm1 ∧
  ∀ σ1, RS T ι H σm1 σ1 → σ1.length = σ.length → (∀ j, j ∉ vs → σ1[j]? = σ[j]?) → Q σ1 H
theorem _root_.L2.PG.imp {X : Cx} {e : Expr} {t t' : TG} (h : PG X e t) (i : ∀ v σ H Q, t' v σ H Q → t v σ H Q) : PG X e t' := ⟨fun pins s σ H v u Q I r q => h.run pins s σ H v u Q I r (i _ _ _ _ q)⟩
theorem _root_.L2.PGs.imp {X : Cx} {e : List Expr} {t t' : TGs} (h : PGs X e t) (i : ∀ v σ H Q, t' v σ H Q → t v σ H Q) : PGs X e t' := ⟨fun pins s σ H v u Q I r q => h.run pins s σ H v u Q I r (i _ _ _ _ q)⟩
theorem _root_.L2.PI.imp {X : Cx} {tg e : Expr} {t t' : TI} (h : PI X tg e t) (i : ∀ σ H R, t' σ H R → t σ H R) : PI X tg e t' := ⟨fun pins s σ H R I q => h.run pins s σ H R I (i _ _ _ q)⟩
def nameG (i : Nat) : D → Sm → Option Sm := fun d σ => some (σ.set i (some d))
def nilG : List D → Sm → Option Sm := fun ds σ => match ds with
  | [] => some σ
  | _ => none
def consG (g : D → Sm → Option Sm) (gs : List D → Sm → Option Sm) : List D → Sm → Option Sm := fun ds σ => match ds with
  | [] => none
  | d :: r => (g d σ).bind (gs r)
def tupG (n : Nat) (gs : List D → Sm → Option Sm) : D → Sm → Option Sm := fun d σ => match d with
  | .tup ds => if ds.length = n then gs ds σ else none
  | _ => none
section
variable {X : Cx} {pos : Pos}
theorem g_name (i : Nat) {x : Str} (hN : X.N.Nodup) (hi : X.N[i]? = some x) (hx : Loc X.env.scope x) (hf : X.fn x = true ∨ X.env.scope.names.lookup x = some .local := by first | exact .inl rfl | exact .inr rfl | assumption) : PG X (.Name x pos) (lfG (tx X) [i] (nameG i)) := (pg_name hN hi hx hf).imp fun v σ H Q q => by
  obtain ⟨ι, σm, h, d, σm1, r, rs, rv, e, k⟩ := q
  have e' : σm.set i (some d) = σm1 := Option.some.inj e
  subst e'
  exact k _ (rs.set i rv) (by rw [List.length_set]) fun j hj => by rw [List.getElem?_set_ne (fun z => hj (by rw [z]; exact List.mem_singleton_self _))]
theorem gs_nil : PGs X [] (lfGs (tx X) [] nilG) := pgs_nil.imp fun vs σ H Q q => by
  obtain ⟨ι, σm, h, ds, σm1, r, rs, rv, e, k⟩ := q
  cases ds with
  | nil =>
    have e' : σm = σm1 := Option.some.inj e
    subst e'
    rw [RVs] at rv
    exact ⟨rv, k σ rs rfl fun _ _ => rfl⟩
  | cons d r => cases e
theorem gs_cons {e : Expr} {es : List Expr} {v1 v2 : List Nat} {g : D → Sm → Option Sm} {gs : List D → Sm → Option Sm} (h1 : PG X e (lfG (tx X) v1 g)) (h2 : PGs X es (lfGs (tx X) v2 gs))
    (hs : (assignEach (e :: es) X.env).map (·.2) = assign e X.env :: (assignEach es X.env).map (·.2) := by rfl) : PGs X (e :: es) (lfGs (tx X) (v1 ++ v2) (consG g gs)) := (pgs_cons h1 h2 hs).imp fun vs σ H Q q => by
  obtain ⟨ι, σm, h, ds, σm1, r, rs, rv, e, k⟩ := q
  cases ds with
  | nil => cases e
  | cons d ds =>
    rw [RVs] at rv
    obtain ⟨x, s, ex, q1, q2⟩ := rv
    obtain ⟨σ2, e1, e2⟩ := Option.bind_eq_some_iff.mp e
    refine ⟨x, s, ex, ι, σm, h, d, σ2, r, rs, q1, e1, fun σ1 rs1 l1 o1 => ⟨ι, σ2, h, ds, σm1, r, rs1, q2, e2, fun σ3 rs3 l3 o3 => k σ3 rs3 (l3.trans l1) fun j hj => ?_⟩⟩
    rw [o3 j (fun z => hj (List.mem_append_right _ z)), o1 j (fun z => hj (List.mem_append_left _ z))]
theorem sqT_len {K : PySem.W.Frag} {T : Tx} {ι : List Addr} {H : Hp} {ds : List D} {xs : List V} (r : RVs T ι H ds xs) : xs.length = ds.length := r.length
theorem g_tup {es : List Expr} {kk : Nat} {n : Nat} {vs : List Nat} {gs : List D → Sm → Option Sm} (hc : X.calm = true) (h : PGs X es (lfGs (tx X) vs gs))
    (hn : (assignEach es X.env).length = n := by rfl) (hst : (assignEach es X.env).findIdx? (·.1) = none := by rfl) : PG X (.Tuple es kk pos) (lfG (tx X) vs (tupG n gs)) := (pg_tup hc h hn hst).imp fun v σ H Q q => by
  obtain ⟨ι, σm, h, d, σm1, r, rs, rv, e, k⟩ := q
  cases d with
  | tup ds =>
    rw [RV] at rv
    obtain ⟨a, xs, e1, sq, q1⟩ := rv
    have e : (if ds.length = n then gs ds σm else none) = some σm1 := e
    by_cases hl : ds.length = n
    · rw [if_pos hl] at e
      exact ⟨a, xs, e1, sq, by rw [q1.length, hl], ι, σm, h, ds, σm1, r, rs, q1, e, k⟩
    · rw [if_neg hl] at e; cases e
  | _ => cases e
end

/-! ### what is walked -/
def Chk (items : List D) (src : Option Nat) (h : Hm) : Prop := ∀ k, src = some k → h[k]? = some (.lst items)
structure Wk (T : Tx) (ι : List Addr) (H : Hp) (J : It) (items : List D) (src : Option Nat) : Prop where
  go : ∀ (ι1 : List Addr) (H1 : Hp) (h1 : Hm) (i : Nat), Ex ι H ι1 H1 → Rl T ι1 H1 h1 → Chk items src h1 → i < items.length → J.go i H1 ∧ ∀ x H', J.yld i H1 x H' → Ex ι1 H1 ι1 H' ∧ Rl T ι1 H' h1 ∧ ∃ d, items[i]? = some d ∧ RV T ι1 H' d x
  stop : ∀ (ι1 : List Addr) (H1 : Hp) (h1 : Hm), Ex ι H ι1 H1 → Rl T ι1 H1 h1 → Chk items src h1 → J.stop items.length H1
def lfI (T : Tx) (m : Sm → M (List D × Option Nat)) : TI := fun σ H R => ∃ ι σm h p h1, Rl T ι H h ∧ RS T ι H σm σ ∧ m σm h = some (p, h1) ∧
  ∀ ι1 H1 J, Ex ι H ι1 H1 → Rl T ι1 H1 h1 → Wk T ι1 H1 J p.1 p.2 → R J H1
theorem Up.of {T : Tx} {ι : List Addr} {H H' : Hp} (t : ∀ a xs, SqT T.K H a xs → SqT T.K H' a xs) (f : ∀ a xs, FzL T.K H a xs → FzL T.K H' a xs) : Up T ι H ι H' := ⟨fun _ _ e => e, t, f⟩
/-- a list whose reading stands whatever else happens -/
theorem wk_list {T : Tx} {ι : List Addr} {H : Hp} {a : Addr} {ds : List D} {xs : List V} {src : Option Nat} (q : RVs T ι H ds xs) (r0 : ∃ h, Rl T ι H h)
    (st : ∀ ι1 H1 h1, Ex ι H ι1 H1 → Rl T ι1 H1 h1 → Chk ds src h1 → SqL T.K H1 a xs) (one : ∀ H1 ys, SqL T.K H1 a xs → SqL T.K H1 a ys → (∃ ι1 h1, Ex ι H ι1 H1 ∧ Rl T ι1 H1 h1 ∧ Chk ds src h1) → True) : Wk T ι H (Itl T.K a) ds src := by
  obtain ⟨h0, r0⟩ := r0
  refine ⟨fun ι1 H1 h1 i x1 r1 c hi => ?_, fun ι1 H1 h1 x1 r1 c => ⟨xs, st ι1 H1 h1 x1 r1 c, by rw [q.length]; exact Nat.le_refl _⟩⟩
  have hs := st ι1 H1 h1 x1 r1 c
  obtain ⟨x, ex, qx⟩ := q.get (List.getElem?_eq_getElem hi)
  refine ⟨⟨xs, x, hs, ex⟩, fun y H' hy => ?_⟩
  obtain ⟨e, f⟩ := hy
  subst e
  refine ⟨Ex.refl _ _, r1, ds[i], List.getElem?_eq_getElem hi, ?_⟩
  have e2 := (f xs hs).symm.trans ex
  cases e2
  exact qx.up (x1.up r0) _ _
theorem wk_tup {T : Tx} {ι : List Addr} {H : Hp} {a : Addr} {ds : List D} {xs : List V} (q : RVs T ι H ds xs) (r0 : ∃ h, Rl T ι H h) (sq : SqT T.K H a xs) : Wk T ι H (Itt T.K a) ds none := by
  obtain ⟨h0, r0⟩ := r0
  refine ⟨fun ι1 H1 h1 i x1 r1 c hi => ?_, fun ι1 H1 h1 x1 r1 c => ⟨xs, (x1.up r0).tp a xs sq, by rw [q.length]; exact Nat.le_refl _⟩⟩
  have hs := (x1.up r0).tp a xs sq
  obtain ⟨x, ex, qx⟩ := q.get (List.getElem?_eq_getElem hi)
  refine ⟨⟨xs, x, hs, ex⟩, fun y H' hy => ?_⟩
  obtain ⟨e, f⟩ := hy
  subst e
  refine ⟨Ex.refl _ _, r1, ds[i], List.getElem?_eq_getElem hi, ?_⟩
  have e2 := (f xs hs).symm.trans ex
  cases e2
  exact qx.up (x1.up r0) _ _
theorem wk_rng {T : Tx} {ι : List Addr} {H : Hp} {lo : Int} {n : Nat} : Wk T ι H (Itr lo n) ((List.range n).map fun (i : Nat) => D.int (lo + i)) none := by
  refine ⟨fun ι1 H1 h1 i x1 r1 c hi => ?_, fun ι1 H1 h1 x1 r1 c => by rw [List.length_map, List.length_range]; exact Nat.le_refl _⟩
  rw [List.length_map, List.length_range] at hi
  refine ⟨hi, fun y H' hy => ?_⟩
  obtain ⟨e, f⟩ := hy
  subst e f
  exact ⟨Ex.refl _ _, r1, .int (lo + i), by rw [List.getElem?_map, List.getElem?_range hi]; rfl, by rw [RV]⟩
/-- a value that is walked: a tuple, a list of ours, a list that nobody writes -/
def walkD (d : D) : M (List D × Option Nat) := fun h => match d with
  | .tup ds => some ((ds, none), h)
  | .fro ds => some ((ds, none), h)
  | .ref k => match h[k]? with
    | some (.lst ds) => some ((ds, some k), h)
    | _ => none
  | _ => none
def itV (m : Sm → M D) : Sm → M (List D × Option Nat) := fun σ => m σ >>= walkD
def itL (m : Sm → M (List D)) : Sm → M (List D × Option Nat) := fun σ => m σ >>= fun ds => pure (ds, none)
def rngD (lo : Int) (hi : Int) : M (List D × Option Nat) := if -(2 ^ 62) ≤ lo ∧ lo < 2 ^ 62 ∧ -(2 ^ 62) ≤ hi ∧ hi < 2 ^ 62 then pure (((List.range (hi - lo).toNat).map fun (i : Nat) => D.int (lo + i)), none) else M.bad
def itR1 (ms : Sm → M (List D)) : Sm → M (List D × Option Nat) := fun σ => ms σ >>= fun ds => match ds with
  | [.int j] => rngD 0 j
  | _ => M.bad
def itR2 (ms : Sm → M (List D)) : Sm → M (List D × Option Nat) := fun σ => ms σ >>= fun ds => match ds with
  | [.int i, .int j] => rngD i j
  | _ => M.bad
section
variable {X : Cx} {tg : Expr} {pos : Pos}
def iAny (K : PySem.W.Frag) (tl : TE) : TI := fun σ H R => tl σ H fun x H1 => ∃ a, x = .ref a ∧ (((∃ xs, SqL K H1 a xs) ∧ R (Itl K a) H1) ∨ ((∃ xs, SqT K H1 a xs) ∧ R (Itt K a) H1))
theorem pi_any {l : Expr} {tl : TE} (hl : PE X l tl) : PI X tg l (iAny X.K tl) := by
  refine ⟨fun pins s σ H R I h => ?_⟩
  refine thn (hl.run pins s σ H _ I h) fun v s1 ⟨x, H1, I1, r1, q1⟩ => ?_
  obtain ⟨a, e, q⟩ := q1
  subst e
  cases r1
  rcases q with ⟨⟨xs, hq⟩, q⟩ | ⟨⟨xs, hq⟩, q⟩
  · obtain ⟨its, rv, p, hz⟩ := I1.list hq
    refine wpAny_pyIter_list p.isList ?_
    refine ⟨s1.heap.objs.size, [s1.heap.objs.size], _, _, H1, rfl, I1.kept (t' := s1.toks) fun b o e => Heap.get?_push_of_some _ e, turn_list a _, ⟨_, Heap.get?_push_size _ rfl, rfl, rfl⟩, fun b hb => ?_, q⟩
    have e : b = s1.heap.objs.size := by simpa using hb
    subst e
    exact I1.fpOk (Nat.le_refl _) (I1.hok.fresh (Nat.le_refl _))
  · obtain ⟨its, rv, p, hz⟩ := I1.tuple hq
    refine wpAny_pyIter_tuple (show s1.heap.IsTuple a its.toArray from p) ?_
    refine ⟨s1.heap.objs.size, [s1.heap.objs.size], _, _, H1, rfl, I1.kept (t' := s1.toks) fun b o e => Heap.get?_push_of_some _ e, turn_tuple a _, ⟨_, Heap.get?_push_size _ rfl, rfl, rfl⟩, fun b hb => ?_, q⟩
    have e : b = s1.heap.objs.size := by simpa using hb
    subst e
    exact I1.fpOk (Nat.le_refl _) (I1.hok.fresh (Nat.le_refl _))
variable {l : Expr} {m : Sm → M D} {ms : Sm → M (List D)}
theorem i_val (hl : PE X l (lf (tx X) m)) : PI X tg l (lfI (tx X) (itV m)) := (pi_any hl).imp fun σ H R q => by
  obtain ⟨ι, σm, h, p, h1, r, rs, e, k⟩ := q
  refine lf_then r rs e (P := fun ι2 H2 => ∀ J, Rl (tx X) ι2 H2 h1 → Wk (tx X) ι2 H2 J p.1 p.2 → R J H2) (fun ι2 H2 y J => k ι2 H2 J y) fun ι1 H1 x d h' x1 r1 rs1 q1 e1 k1 => ?_
  cases d with
  | tup ds =>
    have e2 : some ((ds, none), h') = some (p, h1) := e1
    injection e2 with e2
    injection e2 with e3 e4
    subst e3 e4
    rw [RV] at q1
    obtain ⟨a, xs, ea, sq, qs⟩ := q1
    exact ⟨a, ea, .inr ⟨⟨xs, sq⟩, k1 _ _ (Ex.refl _ _) _ r1 (wk_tup qs ⟨_, r1⟩ sq)⟩⟩
  | fro ds =>
    have e2 : some ((ds, none), h') = some (p, h1) := e1
    injection e2 with e2
    injection e2 with e3 e4
    subst e3 e4
    rw [RV] at q1
    obtain ⟨a, xs, ea, sq, qs⟩ := q1
    exact ⟨a, ea, .inl ⟨⟨xs, sq.sq⟩, k1 _ _ (Ex.refl _ _) _ r1 (wk_list qs ⟨_, r1⟩ (fun ι2 H2 h2 x2 r2 _ => ((x2.up r1).fz a xs sq).sq) fun _ _ _ _ _ => trivial)⟩⟩
  | ref kk =>
    have e2 : (match h'[kk]? with | some (.lst ds) => some ((ds, some kk), h') | _ => none) = some (p, h1) := e1
    cases q2 : h'[kk]? with
    | none => rw [q2] at e2; cases e2
    | some o =>
      cases o with
      | lst ds =>
        rw [q2] at e2
        injection e2 with e2
        injection e2 with e3 e4
        subst e3 e4
        rw [RV] at q1
        obtain ⟨a, ha, ea⟩ := q1
        obtain ⟨xs, hx, qs⟩ := r1.obj kk a _ ha q2
        refine ⟨a, ea, .inl ⟨⟨xs, SqL.of hx⟩, k1 _ _ (Ex.refl _ _) _ r1 ?_⟩⟩
        refine ⟨fun ι2 H2 h2 i x2 r2 c hi => ?_, fun ι2 H2 h2 x2 r2 c => ?_⟩
        · obtain ⟨ys, hy, qy⟩ := r2.obj kk a _ ((x2.up r1).ix kk a ha) (c kk rfl)
          obtain ⟨z, ez, qz⟩ := qy.get (List.getElem?_eq_getElem hi)
          refine ⟨⟨ys, z, SqL.of hy, ez⟩, fun y H' hyl => ?_⟩
          obtain ⟨e5, f⟩ := hyl
          subst e5
          have e6 := (f ys (SqL.of hy)).symm.trans ez
          cases e6
          exact ⟨Ex.refl _ _, r2, ds[i], List.getElem?_eq_getElem hi, qz⟩
        · obtain ⟨ys, hy, qy⟩ := r2.obj kk a _ ((x2.up r1).ix kk a ha) (c kk rfl)
          exact ⟨ys, SqL.of hy, by rw [qy.length]; exact Nat.le_refl _⟩
      | _ => rw [q2] at e2; cases e2
  | _ => cases e1
theorem i_lst (hl : PE X l (lfL (tx X) ms)) : PI X tg l (lfI (tx X) (itL ms)) := (pi_list hl).imp fun σ H R q => by
  obtain ⟨ι, σm, h, p, h1, r, rs, e, k⟩ := q
  refine lfL_then r rs e (P := fun ι2 H2 => ∀ J, Rl (tx X) ι2 H2 h1 → Wk (tx X) ι2 H2 J p.1 p.2 → R J H2) (fun ι2 H2 y J => k ι2 H2 J y) fun ι1 H1 a xs ds h' x1 r1 rs1 ha na ea q1 e1 k1 => ?_
  obtain ⟨e2, e3⟩ := pure_some e1
  subst e2 e3
  exact ⟨a, rfl, ⟨xs, SqL.of ea⟩, k1 _ _ (Ex.refl _ _) _ r1 (wk_list q1 ⟨_, r1⟩ (fun ι2 H2 h2 x2 r2 _ => SqL.of (x2.fr a _ ea na)) fun _ _ _ _ _ => trivial)⟩
theorem i_rng1 {a : Expr} {p pos : Pos} (hg : Gl X "range") (hm : X.mg "range" = none) (ha : PA X [a] (lfA (tx X) ms)) (hs : starEach [a] X.env = [(false, eval a X.env)] := by rfl) : PI X tg (.Call (.Name "range" p) [a] [] pos) (lfI (tx X) (itR1 ms)) := (pi_range1 hg hm ha hs).imp fun σ H R q => by
  obtain ⟨ι, σm, h, p, h1, r, rs, e, k⟩ := q
  refine lfA_then r rs e (P := fun ι2 H2 => ∀ J, Rl (tx X) ι2 H2 h1 → Wk (tx X) ι2 H2 J p.1 p.2 → R J H2) (fun ι2 H2 y J => k ι2 H2 J y) fun ι1 H1 xs ds h' x1 r1 rs1 q1 e1 k1 => ?_
  split at e1
  · rename_i j
    unfold rngD at e1
    split at e1
    · rename_i hc
      obtain ⟨e2, e3⟩ := pure_some e1
      subst e2 e3
      rw [RVs] at q1
      obtain ⟨y, s, ey, q2, q3⟩ := q1
      rw [RVs] at q3
      rw [RV] at q2
      subst q2 q3 ey
      refine ⟨j, rfl, hc.2.2.1, hc.2.2.2, k1 _ _ (Ex.refl _ _) _ r1 ?_⟩
      rw [show (j - 0).toNat = j.toNat by rw [Int.sub_zero]]
      exact wk_rng
    · cases e1
  · cases e1
theorem i_rng2 {a b : Expr} {p pos : Pos} (hg : Gl X "range") (hm : X.mg "range" = none) (ha : PA X [a, b] (lfA (tx X) ms)) (hs : starEach [a, b] X.env = [(false, eval a X.env), (false, eval b X.env)] := by rfl) (hs2 : starEach [b] X.env = [(false, eval b X.env)] := by rfl) :
    PI X tg (.Call (.Name "range" p) [a, b] [] pos) (lfI (tx X) (itR2 ms)) := (pi_range2 hg hm ha hs hs2).imp fun σ H R q => by
  obtain ⟨ι, σm, h, p, h1, r, rs, e, k⟩ := q
  refine lfA_then r rs e (P := fun ι2 H2 => ∀ J, Rl (tx X) ι2 H2 h1 → Wk (tx X) ι2 H2 J p.1 p.2 → R J H2) (fun ι2 H2 y J => k ι2 H2 J y) fun ι1 H1 xs ds h' x1 r1 rs1 q1 e1 k1 => ?_
  split at e1
  · rename_i i j
    unfold rngD at e1
    split at e1
    · rename_i hc
      obtain ⟨e2, e3⟩ := pure_some e1
      subst e2 e3
      rw [RVs] at q1
      obtain ⟨y, s, ey, q2, q3⟩ := q1
      rw [RVs] at q3
      obtain ⟨y', s', ey', q2', q3'⟩ := q3
      rw [RVs] at q3'
      rw [RV] at q2 q2'
      subst q2 q2' q3' ey' ey
      exact ⟨i, j, rfl, hc, k1 _ _ (Ex.refl _ _) _ r1 wk_rng⟩
    · cases e1
  · cases e1
end

/-! ### for -/
open Classical in
noncomputable def forR (items : List D) (src : Option Nat) (tg : D → Sm → Option Sm) (body : Sm → M Fl) : List D → Sm → M Fl
  | [], σ => fun h => if Chk items src h then some (.nx σ, h) else none
  | d :: r, σ => fun h => if Chk items src h then (match tg d σ with
    | none => none
    | some σ1 => match body σ1 h with
      | none => none
      | some (.nx σ2, h2) => forR items src tg body r σ2 h2
      | some (.ct σ2, h2) => forR items src tg body r σ2 h2
      | some (.bk σ2, h2) => some (.nx σ2, h2)
      | some (.rt d, h2) => some (.rt d, h2)) else none
noncomputable def forS (it : Sm → M (List D × Option Nat)) (tg : D → Sm → Option Sm) (body : Sm → M Fl) : Sm → M Fl := fun σ => it σ >>= fun p => forR p.1 p.2 tg body p.1 σ
section
variable {X : Cx}
theorem s_for {tg iter : Expr} {body : List Stmt} {it : Sm → M (List D × Option Nat)} {g : D → Sm → Option Sm} {tb : Sm → M Fl} {vs : List Nat} {pos : Pos} (hp : PassesOwn (model X.prog X.w) X.A X.env X.xe) (hc : X.calm = true) (hi : PI X tg iter (lfI (tx X) it)) (hg : PG X tg (lfG (tx X) vs g))
    (hb : PSs X body (lfS (tx X) tb)) (hs : ∀ x, foldedSetIterable iter X.env x = pure x := by intro _; rfl) : PS X (.For tg iter body [] pos) (lfS (tx X) (forS it g tb)) := (ps_for hp hc hi hg hb hs).imp fun D σ H q => by
  obtain ⟨ι, σm, h, f, h1, r, rs, e, k⟩ := q
  obtain ⟨p, h', e1, e2⟩ := bind_some e
  refine ⟨ι, σm, h, p, h', r, rs, e1, fun ι0 H0 J x0 r0 wk => ?_⟩
  refine ⟨fun i m σ1 H1 => m = p.1.length - i ∧ i ≤ p.1.length ∧ ∃ ι1 σm1 h2, Ex ι0 H0 ι1 H1 ∧ Rl (tx X) ι1 H1 h2 ∧ RS (tx X) ι1 H1 σm1 σ1 ∧ forR p.1 p.2 g tb (p.1.drop i) σm1 h2 = some (f, h1),
    ⟨p.1.length, by simp, Nat.zero_le _, ι0, σm, h', Ex.refl _ _, r0, rs.up (x0.up r), by simpa using e2⟩, ?_⟩
  rintro i m σ1 H1 ⟨rfl, hi, ι1, σm1, h2, x1, r1, rs1, e3⟩
  by_cases hlt : i < p.1.length
  · rw [List.drop_eq_getElem_cons hlt] at e3
    unfold forR at e3
    by_cases hk : Chk p.1 p.2 h2
    · rw [if_pos hk] at e3
      obtain ⟨go, yl⟩ := wk.go ι1 H1 h2 i x1 r1 hk hlt
      refine .inr ⟨go, fun σ' H' => ∃ ι1 σm1 h2, Ex ι0 H0 ι1 H' ∧ Rl (tx X) ι1 H' h2 ∧ RS (tx X) ι1 H' σm1 σ' ∧ forR p.1 p.2 g tb (p.1.drop (i + 1)) σm1 h2 = some (f, h1),
        fun σ' H' hN => ⟨p.1.length - (i + 1), by omega, rfl, hlt, hN⟩, fun x H' y => ?_⟩
      obtain ⟨x2, r2, d, ed, qd⟩ := yl x H' y
      rw [List.getElem?_eq_getElem hlt] at ed
      cases ed
      cases q5 : g p.1[i] σm1 with
      | none => rw [q5] at e3; cases e3
      | some σm2 =>
        rw [q5] at e3
        refine ⟨ι1, σm1, h2, p.1[i], σm2, r2, rs1.up (x2.up r1), qd, q5, fun σ2 rs2 _ _ => ?_⟩
        cases q6 : tb σm2 h2 with
        | none =>
          have e4 : (match tb σm2 h2 with | none => none | some (.nx σ2, h2) => forR p.1 p.2 g tb (p.1.drop (i + 1)) σ2 h2 | some (.ct σ2, h2) => forR p.1 p.2 g tb (p.1.drop (i + 1)) σ2 h2 | some (.bk σ2, h2) => some (Fl.nx σ2, h2) | some (.rt d, h2) => some (Fl.rt d, h2)) = some (f, h1) := e3
          rw [q6] at e4; cases e4
        | some fp =>
          obtain ⟨f2, h3⟩ := fp
          have e4 : (match tb σm2 h2 with | none => none | some (.nx σ2, h2) => forR p.1 p.2 g tb (p.1.drop (i + 1)) σ2 h2 | some (.ct σ2, h2) => forR p.1 p.2 g tb (p.1.drop (i + 1)) σ2 h2 | some (.bk σ2, h2) => some (Fl.nx σ2, h2) | some (.rt d, h2) => some (Fl.rt d, h2)) = some (f, h1) := e3
          rw [q6] at e4
          refine ⟨ι1, σm2, h2, f2, h3, r2, rs2, q6, fun ι3 H3 x3 r3 => ?_⟩
          have x13 : Ex ι0 H0 ι3 H3 := (x1.trans r1 x2).trans r2 x3
          cases f2 with
          | nx σ5 => exact fun σ6 rs6 => ⟨ι3, σ5, h3, x13, r3, rs6, e4⟩
          | ct σ5 => exact fun σ6 rs6 => ⟨ι3, σ5, h3, x13, r3, rs6, e4⟩
          | bk σ5 =>
            have e5 : some (Fl.nx σ5, h3) = some (f, h1) := e4
            injection e5 with e5
            injection e5 with e6 e7
            subst e6 e7
            exact fun σ6 rs6 => k ι3 H3 (x0.trans r0 x13) r3 σ6 rs6
          | rt d5 =>
            have e5 : some (Fl.rt d5, h3) = some (f, h1) := e4
            injection e5 with e5
            injection e5 with e6 e7
            subst e6 e7
            exact fun v rv => k ι3 H3 (x0.trans r0 x13) r3 v rv
    · rw [if_neg hk] at e3; cases e3
  · have ei : i = p.1.length := by omega
    subst ei
    rw [List.drop_length] at e3
    unfold forR at e3
    by_cases hk : Chk p.1 p.2 h2
    · rw [if_pos hk] at e3
      injection e3 with e3
      injection e3 with e6 e7
      subst e6 e7
      exact .inl ⟨wk.stop ι1 H1 h2 x1 r1 hk, k ι1 H1 (x0.trans r0 x1) r1 σ1 rs1⟩
    · rw [if_neg hk] at e3; cases e3
end
end ML

set_option Elab.async false
set_option linter.all false
set_option maxRecDepth 100000
namespace ML
open PySem L2
/-! ### comprehensions -/
def wipeM (σ : Sm) : List Nat → Sm
  | [] => σ
  | v :: vs => (wipeM σ vs).set v none
theorem wipeM_length (σ : Sm) : ∀ vs : List Nat, (wipeM σ vs).length = σ.length
  | [] => rfl
  | v :: vs => by unfold wipeM; rw [List.length_set, wipeM_length σ vs]
theorem wipeM_some {σ : Sm} {i : Nat} {x : D} : ∀ {vs : List Nat}, (wipeM σ vs)[i]? = some (some x) → σ[i]? = some (some x) ∧ i ∉ vs
  | [], h => ⟨h, by simp⟩
  | v :: vs, h => by
    unfold wipeM at h
    by_cases hi : v = i
    · subst hi
      by_cases hv : v < (wipeM σ vs).length
      · rw [List.getElem?_set_self hv] at h; cases h
      · rw [List.getElem?_eq_none (by simpa using hv)] at h; cases h
    · rw [List.getElem?_set_ne hi] at h
      obtain ⟨h1, h2⟩ := wipeM_some h
      exact ⟨h1, by simp only [List.mem_cons, not_or]; exact ⟨fun e => hi e.symm, h2⟩⟩
theorem RS.wipe {T : Tx} {ι : List Addr} {H : Hp} {σm : Sm} {σ : St} (r : RS T ι H σm σ) (vs : List Nat) : RS T ι H (wipeM σm vs) (wipe σ vs) :=
  ⟨by rw [wipeM_length, wipe_length, r.len], fun i d e => by
    obtain ⟨e1, hn⟩ := wipeM_some e
    obtain ⟨v, e2, q⟩ := r.at_ i d e1
    exact ⟨v, by rw [wipe_out hn]; exact e2, q⟩⟩
theorem wipe_in {i : Nat} : ∀ {vs : List Nat} {σ : St}, i ∈ vs → i < σ.length → (wipe σ vs)[i]? = some none
  | [], _, h, _ => by cases h
  | v :: vs, σ, h, hl => by
    unfold wipe
    by_cases e : v = i
    · subst e
      exact List.getElem?_set_self (by rw [wipe_length]; exact hl)
    · rw [List.getElem?_set_ne e]
      rcases List.mem_cons.mp h with z | z
      · exact absurd z.symm e
      · exact wipe_in z hl
theorem wipe_same {σ σ1 : St} {vs : List Nat} (hl : σ1.length = σ.length) (ho : ∀ j, j ∉ vs → σ1[j]? = σ[j]?) : wipe σ1 vs = wipe σ vs := by
  apply List.ext_getElem?
  intro i
  by_cases hi : i ∈ vs
  · by_cases hl2 : i < σ.length
    · rw [wipe_in hi hl2, wipe_in hi (by rw [hl]; exact hl2)]
    · rw [List.getElem?_eq_none (by rw [wipe_length]; omega), List.getElem?_eq_none (by rw [wipe_length]; omega)]
  · rw [wipe_out hi, wipe_out hi, ho i hi]
theorem wipe_wipe {σ : St} {vs : List Nat} : wipe (wipe σ vs) vs = wipe σ vs := wipe_same (wipe_length σ vs) fun j hj => wipe_out hj
open Classical in
noncomputable def lcR (items : List D) (src : Option Nat) (tg : D → Sm → Option Sm) (tt : Sm → M Bool) (el : Sm → M D) : List D → Sm → M (List D)
  | [], _ => fun h => if Chk items src h then some ([], h) else none
  | d :: r, σ => fun h => if Chk items src h then (match tg d σ with
    | none => none
    | some σ1 => match tt σ1 h with
      | none => none
      | some (false, h2) => lcR items src tg tt el r σ h2
      | some (true, h2) => match el σ1 h2 with
        | none => none
        | some (y, h3) => match lcR items src tg tt el r σ h3 with
          | none => none
          | some (ys, h4) => some (y :: ys, h4)) else none
noncomputable def lcM (it : Sm → M (List D × Option Nat)) (tg : D → Sm → Option Sm) (tt : Sm → M Bool) (el : Sm → M D) (vs : List Nat) : Sm → M (List D) := fun σ => it σ >>= fun p => lcR p.1 p.2 tg tt el p.1 (wipeM σ vs) >>= fun ds =>
  if ds.length ≤ sizeLine then pure ds else M.bad
def yesT : Sm → M Bool := fun _ => pure true
structure PTsM (X : Cx) (ifs : List Expr) (tt : Sm → M Bool) : Prop where
  ok : PTs X ifs (lfT (tx X) tt)
section
variable {X : Cx}
theorem t_yes : PTs X [] (lfT (tx X) yesT) := ⟨fun pins s σ H Q I q => pts_nil.run pins s σ H Q I (by
  obtain ⟨ι, σm, h, b, h1, r, rs, e, k⟩ := q
  obtain ⟨e1, e2⟩ := pure_some e
  subst e1 e2
  exact k ι H (Ex.refl _ _) r)⟩
theorem t_one {c : Expr} {t : Sm → M Bool} (h : PT X c (lfT (tx X) t)) : PTs X [c] (lfT (tx X) t) := pts_one h
/-- an object beside ours is changed -/
theorem Rl.side {T : Tx} {ι : List Addr} {H : Hp} {h : Hm} {p : Addr} {xs : List V} {u : HO} (r : Rl T ι H h) (np : p ∉ ι) (e : H p = some (.lst xs)) : Rl T ι (upd H p u) h ∧ Up T ι H ι (upd H p u) := by
  have up : Up T ι H ι (upd H p u) := by
    refine ⟨fun _ _ z => z, fun a ys s => ?_, fun a ys s => ?_⟩
    · rcases s with (s | ⟨o, s⟩) | s
      · exact .inl (.inl (by rw [upd_ne (fun z => by rw [z, e] at s; cases s)]; exact s))
      · exact .inl (.inr ⟨o, by rw [upd_ne (fun z => by rw [z, e] at s; cases s)]; exact s⟩)
      · exact .inr s
    · rcases s with ⟨o, s⟩ | s
      · exact .inl ⟨o, by rw [upd_ne (fun z => by rw [z, e] at s; cases s)]; exact s⟩
      · exact .inr s
  refine ⟨⟨r.len, r.nd, fun i a o e1 e2 => ?_⟩, up⟩
  have ne : a ≠ p := fun z => np (z ▸ List.mem_of_getElem? e1)
  exact (r.obj i a o e1 e2).up up (upd_ne ne)
theorem Ex.side {ι ι1 : List Addr} {H H1 : Hp} {p : Addr} {u : HO} (x : Ex ι H ι1 H1) (hp : H p = none) : Ex ι H ι1 (upd H1 p u) :=
  ⟨x.pre, fun b o e n => by rw [upd_ne (ne_of_none e hp)]; exact x.fr b o e n⟩
theorem Ex.not_new {ι ι1 : List Addr} {H H1 : Hp} {p : Addr} {u : HO} (x : Ex ι H ι1 H1) (hp : H p = some u) (n : p ∉ ι) : p ∉ ι1 := fun m => by
  obtain ⟨s, e, ns⟩ := x.pre
  rw [e] at m
  rcases List.mem_append.mp m with m | m
  · exact n m
  · rw [ns p m] at hp; cases hp
theorem RVs.append {T : Tx} {ι : List Addr} {H : Hp} {es : List D} {ys : List V} : ∀ {ds : List D} {xs : List V}, RVs T ι H ds xs → RVs T ι H es ys → RVs T ι H (ds ++ es) (xs ++ ys)
  | [], xs, r, q => by rw [RVs] at r; rw [r]; exact q
  | d :: ds, xs, r, q => by
    rw [RVs] at r
    obtain ⟨x, s, e, q1, q2⟩ := r
    rw [e]
    show RVs T ι H (d :: (ds ++ es)) (x :: (s ++ ys))
    rw [RVs]
    exact ⟨x, s ++ ys, rfl, q1, RVs.append q2 q⟩
theorem l_lc {elt tg iter : Expr} {ifs : List Expr} {scope : Scope} {own : List (Str × Nat)} {pos : Pos} {it : Sm → M (List D × Option Nat)} {g : D → Sm → Option Sm} {tt : Sm → M Bool} {el : Sm → M D} (hc : X.calm = true) (hN : X.N.Nodup) (hi : PI X tg iter (lfI (tx X) it)) (ok : BlkOk X.N X.env.scope scope own)
    (hg : ∀ (s : Shared) (H : Hp) (C : Addr) (cl : List (Str × Addr)) (fp : List Addr), PG (X.blk s H scope (compEnvC scope cl C X.env) fp) tg (lfG (tx X) (own.map (·.2)) g)) (ht : ∀ (s : Shared) (H : Hp) (C : Addr) (cl : List (Str × Addr)) (fp : List Addr), PTs (X.blk s H scope (compEnvC scope cl C X.env) fp) ifs (lfT (tx X) tt))
    (he : ∀ (s : Shared) (H : Hp) (C : Addr) (cl : List (Str × Addr)) (fp : List Addr), PE (X.blk s H scope (compEnvC scope cl C X.env) fp) elt (lf (tx X) el)) (hs : ∀ x, foldedSetIterable iter X.env x = pure x := by intro _; rfl) :
    PE X (.ListComp elt [⟨tg, iter, ifs, 0⟩] scope pos) (lfL (tx X) (lcM it g tt el (own.map (·.2)))) := (pe_lc hc hN hi ok hg ht he hs).imp fun σ H Q q => by
  obtain ⟨ι, σm, h, d, h1, r, rs, e, k⟩ := q
  obtain ⟨p, h', e1, e0⟩ := bind_some e
  obtain ⟨ds, h'', e2, e3⟩ := bind_some e0
  by_cases hz : ds.length ≤ sizeLine
  · rw [if_pos hz] at e3
    obtain ⟨e4, e5⟩ := pure_some e3
    subst e4 e5
    refine ⟨ι, σm, h, p, h', r, rs, e1, fun ι0 H0 J x0 r0 wk Dn hD => ?_⟩
    have nD : Dn ∉ ι0 := fun mm => by
      obtain ⟨u', e', _⟩ := r0.at mm
      rw [hD] at e'; cases e'
    have hDH : H Dn = none := by
      cases q5 : H Dn with
      | none => rfl
      | some o =>
        by_cases hi : Dn ∈ ι
        · obtain ⟨s, es', _⟩ := x0.pre
          exact absurd (by rw [es']; exact List.mem_append_left _ hi) nD
        · have := x0.fr Dn o q5 hi
          rw [hD] at this; cases this
    have rs0 : RS (tx X) ι0 H0 (wipeM σm (own.map (·.2))) (wipe σ (own.map (·.2))) := (rs.up (x0.up r)).wipe _
    refine ⟨fun i m H1 => m = p.1.length - i ∧ i ≤ p.1.length ∧ ∃ ι1 h2 acc xs rest, Ex ι0 H0 ι1 H1 ∧ Rl (tx X) ι1 H1 h2 ∧ Dn ∉ ι1 ∧ H1 Dn = some (.lst xs) ∧ RVs (tx X) ι1 H1 acc xs ∧ lcR p.1 p.2 g tt el (p.1.drop i) (wipeM σm (own.map (·.2))) h2 = some (rest, h'') ∧ ds = acc ++ rest,
      ⟨p.1.length, by simp, Nat.zero_le _, ι0, h', [], [], ds, (Ex.refl _ _).side hD, (r0.other hD).2, nD, upd_same, by rw [RVs], by simpa using e2, rfl⟩, ?_⟩
    rintro i m H1 ⟨rfl, hi, ι1, h2, acc, xs, rest, x1, r1, n1, hx, qa, e6, ed⟩
    have rsw : RS (tx X) ι1 H1 (wipeM σm (own.map (·.2))) (wipe σ (own.map (·.2))) := rs0.up (x1.up r0)
    by_cases hlt : i < p.1.length
    · rw [List.drop_eq_getElem_cons hlt] at e6
      unfold lcR at e6
      by_cases hk : Chk p.1 p.2 h2
      · rw [if_pos hk] at e6
        obtain ⟨go, yl⟩ := wk.go ι1 H1 h2 i x1 r1 hk hlt
        refine .inr ⟨go, fun H' => ∃ ι1 h2 acc xs rest, Ex ι0 H0 ι1 H' ∧ Rl (tx X) ι1 H' h2 ∧ Dn ∉ ι1 ∧ H' Dn = some (.lst xs) ∧ RVs (tx X) ι1 H' acc xs ∧ lcR p.1 p.2 g tt el (p.1.drop (i + 1)) (wipeM σm (own.map (·.2))) h2 = some (rest, h'') ∧ ds = acc ++ rest,
          fun H' hN => ⟨p.1.length - (i + 1), by omega, rfl, hlt, hN⟩, fun x H' y => ?_⟩
        obtain ⟨x2, r2, dd, edd, qd⟩ := yl x H' y
        rw [List.getElem?_eq_getElem hlt] at edd
        cases edd
        have n2 : Dn ∉ ι1 := n1
        have hx2 : H' Dn = some (.lst xs) := x2.fr _ _ hx n1
        have qa2 := RVs.up (x2.up r1) acc xs qa
        cases q5 : g p.1[i] (wipeM σm (own.map (·.2))) with
        | none => rw [q5] at e6; cases e6
        | some σm2 =>
          rw [q5] at e6
          have e6 : (match tt σm2 h2 with | none => none | some (false, h2) => lcR p.1 p.2 g tt el (p.1.drop (i + 1)) (wipeM σm (own.map (·.2))) h2 | some (true, h2) => match el σm2 h2 with | none => none | some (y, h3) => match lcR p.1 p.2 g tt el (p.1.drop (i + 1)) (wipeM σm (own.map (·.2))) h3 with | none => none | some (ys, h4) => some (y :: ys, h4)) = some (rest, h'') := e6
          refine ⟨ι1, wipeM σm (own.map (·.2)), h2, p.1[i], σm2, r2, rsw.up (x2.up r1), qd, q5, fun σ2 rs2 l2 o2 => ⟨(wipe_same l2 o2).trans wipe_wipe, ?_⟩⟩
          cases q6 : tt σm2 h2 with
          | none => rw [q6] at e6; cases e6
          | some bp =>
            obtain ⟨b, h3⟩ := bp
            rw [q6] at e6
            refine ⟨ι1, σm2, h2, b, h3, r2, rs2, q6, fun ι3 H3 x3 r3 => ?_⟩
            have n3 : Dn ∉ ι3 := x3.not_new hx2 n2
            have hx3 : H3 Dn = some (.lst xs) := x3.fr _ _ hx2 n2
            have qa3 := RVs.up (x3.up r2) acc xs qa2
            have x03 := (x1.trans r1 x2).trans r2 x3
            cases b with
            | false =>
              refine iteF ?_
              exact ⟨ι3, h3, acc, xs, rest, x03, r3, n3, hx3, qa3, e6, ed⟩
            | true =>
              refine iteT ?_
              have e6 : (match el σm2 h3 with | none => none | some (y, h3) => match lcR p.1 p.2 g tt el (p.1.drop (i + 1)) (wipeM σm (own.map (·.2))) h3 with | none => none | some (ys, h4) => some (y :: ys, h4)) = some (rest, h'') := e6
              cases q7 : el σm2 h3 with
              | none => rw [q7] at e6; cases e6
              | some yp =>
                obtain ⟨y', h4⟩ := yp
                rw [q7] at e6
                have e6 : (match lcR p.1 p.2 g tt el (p.1.drop (i + 1)) (wipeM σm (own.map (·.2))) h4 with | none => none | some (ys, h4) => some (y' :: ys, h4)) = some (rest, h'') := e6
                cases q8 : lcR p.1 p.2 g tt el (p.1.drop (i + 1)) (wipeM σm (own.map (·.2))) h4 with
                | none => rw [q8] at e6; cases e6
                | some zp =>
                  obtain ⟨ys, h5⟩ := zp
                  rw [q8] at e6
                  injection e6 with e6
                  injection e6 with e8 e9
                  subst e8 e9
                  refine ⟨ι3, σm2, h3, y', h4, r3, rs2.up (x3.up r2), q7, fun ι4 H4 v x4 r4 rv => ?_⟩
                  have n4 : Dn ∉ ι4 := x4.not_new hx3 n3
                  have hx4 : H4 Dn = some (.lst xs) := x4.fr _ _ hx3 n3
                  have qa4 := RVs.up (x4.up r3) acc xs qa3
                  have x04 := x03.trans r3 x4
                  refine ⟨xs, hx4, ?_, ?_⟩
                  · rw [qa4.length]
                    have := congrArg List.length ed
                    rw [List.length_append, List.length_cons] at this
                    omega
                  · obtain ⟨r5, up5⟩ := r4.side (u := .lst (xs ++ [v])) n4 hx4
                    refine ⟨ι4, h4, acc ++ [y'], xs ++ [v], ys, x04.side hD, r5, n4, upd_same, ?_, q8, by rw [ed, List.append_assoc]; rfl⟩
                    refine RVs.append (RVs.up up5 acc xs qa4) ?_
                    rw [RVs]
                    exact ⟨v, [], rfl, RV.up up5 _ _ rv, by rw [RVs]⟩
      · rw [if_neg hk] at e6; cases e6
    · have ei : i = p.1.length := by omega
      subst ei
      rw [List.drop_length] at e6
      unfold lcR at e6
      by_cases hk : Chk p.1 p.2 h2
      · rw [if_pos hk] at e6
        injection e6 with e6
        injection e6 with e8 e9
        subst e8 e9
        rw [List.append_nil] at ed
        subst ed
        exact .inl ⟨wk.stop ι1 H1 _ x1 r1 hk, k ι1 H1 Dn xs (x0.trans r0 x1) r1 hDH n1 hx qa⟩
      · rw [if_neg hk] at e6; cases e6
  · rw [if_neg hz] at e3; cases e3
end
end ML

set_option Elab.async false
set_option linter.all false
set_option maxRecDepth 100000
/-! ### t < u for tuples whose first places that differ can be compared -/
namespace ML
open PySem PySem.SeqAt PySem.W
mutual
def ltP : PyData → PyData → Option Bool
  | .int a, .int b => some (decide (a < b))
  | .str x, .str y => some (decide (x.cps.toList < y.cps.toList))
  | .tuple xs, .tuple ys => ltPs xs ys
  | _, _ => none
def ltPs : List PyData → List PyData → Option Bool
  | [], [] => some false
  | [], _ :: _ => some true
  | _ :: _, [] => some false
  | x :: xs, y :: ys => if PyData.eqv x y = true then ltPs xs ys else ltP x y
end
/-- where the places from j on decide: k -/
def LtFrom (A : Around) (s : Shared) (its its2 : List Value) (k : Bool) : Prop :=
  match its, its2 with
  | [], [] => k = false
  | [], _ :: _ => k = true
  | _ :: _, [] => k = false
  | x :: xs, y :: ys => ∃ e, EqAt A s x y e ∧ if e = true then LtFrom A s xs ys k else RcLt A s x y k
open MeetsSeq MeetsSeq2 MeetsSeq3 SeqRoads2 in
theorem tup_lt (l b : Addr) (its its2 : Array Value) (n n2 : Nat) (dd dd2 : Option Addr) (sl sl2 : Array (Option Value)) (k : Bool) :
    Meets (Builtin.«tuple.__lt__» ⟨[.ref l, .ref b], []⟩)
      (fun A R s => s.heap.get? l = some { cls := .type "tuple", dict := dd, data := .seq its n, slots := sl } ∧ s.heap.get? b = some { cls := .type "tuple", dict := dd2, data := .seq its2 n2, slots := sl2 } ∧
        LtFrom A.in1 s its.toList its2.toList k ∧ R (.ok (.ret (.bool k))) s) :=
  .of_wp fun prog w A R s h => by
    obtain ⟨hp, g, d, tk, os⟩ := s; obtain ⟨hl, hb, hf, h⟩ := h
    have fsub := AutoSeq1.sub_tuple_tuple
    wp_walk using AutoSeq1.wpAny_loadPart' hl, AutoSeq1.wpAny_loadPart' hb, wpAny_forIn_list _ (fun rest b s' => b.1 = none ∧ s' = ⟨hp, g, d, tk, os⟩ ∧ ∃ u v, rest = u.zip v ∧ its.size = its.size ∧
      its.toList.length - u.length = its2.toList.length - v.length ∧ u.length ≤ its.toList.length ∧ v.length ≤ its2.toList.length ∧ LtFrom A.in1 ⟨hp, g, d, tk, os⟩ u v k) _
    case turn =>
      rintro ⟨y, x⟩ rest b s' ⟨hb', rfl, u, v, hz, _, hn, hu1, hv1, hF⟩
      cases u with
      | nil => cases hz
      | cons y' u =>
        cases v with
        | nil => cases hz
        | cons x' v =>
          have hz' : (y, x) :: rest = (y', x') :: u.zip v := hz
          injection hz' with e1 e2
          injection e1 with e3 e4
          subst e3 e4
          obtain ⟨e, he, hk⟩ := (show ∃ e, EqAt A.in1 _ y x e ∧ if e = true then LtFrom A.in1 _ u v k else RcLt A.in1 _ y x k from hF)
          refine wpAny_bind (he prog w _ _ ?_)
          cases e with
          | true =>
            wp_walk
            refine ⟨rfl, rfl, u, v, e2, rfl, ?_, ?_, ?_, by simpa using hk⟩
            · simp only [List.length_cons] at hn hu1 hv1; omega
            · simp only [List.length_cons] at hu1; omega
            · simp only [List.length_cons] at hv1; omega
          | false =>
            rw [if_pos (show (!false) = true from rfl)]
            refine wpAny_bind (wpAny_rule ?_)
            refine wpAny_bind ((show RcLt A.in1 _ y x k by simpa using hk) prog w _ _ ?_)
            wp_walk
            exact ⟨_, rfl, h⟩
    case fin =>
      rintro ⟨b1, b2⟩ s' ⟨hb', rfl, u, v, hz, _, hn, hu1, hv1, hF⟩
      simp only at hb'
      subst hb'
      have s1 : its.size = its.toList.length := by simp
      have s2 : its2.size = its2.toList.length := by simp
      have key : decide (its.size < its2.size) = k := by
        cases u with
        | nil =>
          cases v with
          | nil =>
            have hk : k = false := hF
            simp only [List.length_nil] at hn
            rw [hk, decide_eq_false_iff_not]; omega
          | cons x v =>
            have hk : k = true := hF
            simp only [List.length_nil, List.length_cons] at hn hv1
            rw [hk, decide_eq_true_eq]; omega
        | cons y u =>
          cases v with
          | nil =>
            have hk : k = false := hF
            simp only [List.length_nil, List.length_cons] at hn hu1
            rw [hk, decide_eq_false_iff_not]; omega
          | cons x v => cases hz
      wp_walk
      exact ⟨_, rfl, by simpa [Builtin.Tuple.tupleCompareSizes, key] using h⟩
    case h =>
      exact ⟨rfl, rfl, its.toList, its2.toList, rfl, rfl, by omega, Nat.le_refl _, Nat.le_refl _, hf⟩
theorem rcLt_tup {A : Around} {s : Shared} {l b : Addr} {its its2 : Array Value} {k : Bool} (hl : s.heap.IsTuple l its) (hb : s.heap.IsTuple b its2) (hu : A.units < cLine) (hf : LtFrom A.in1 s its.toList its2.toList k) : RcLt A s (.ref l) (.ref b) k := fun prog w E Q h => by
  obtain ⟨⟨c1, d1, t1, u1⟩, g1, g2, n1, g3⟩ := id hl
  obtain ⟨⟨c2, d2, t2, u2⟩, k1, k2, n2, k3⟩ := id hb
  dsimp only at g2 g3 k2 k3
  subst g2 g3 k2 k3
  exact richCompare_meets_room (op := .Lt) ⟨_, g1, rfl⟩ ⟨_, k1, rfl⟩ F.slot_tuple_lt F.entry_tuple_lt (F.args_tuple_lt_2 _ _) (tup_lt l b its its2 n1 n2 d1 d2 u1 u2 k) ⟨g1, k1, hf, (fun x => nomatch x), h⟩ hu
mutual
theorem rcLt_P : ∀ (da db : PyData) (k : Bool) (A : Around) (s : Shared) (a b : Value) (as bs : List Addr), Reads s.heap a da as → Reads s.heap b db bs → da.canLay0 = true → db.canLay0 = true → ltP da db = some k → A.units + min da.depth db.depth < cLine → RcLt A s a b k
  | .int x, db, k, A, s, a, b, as, bs, ra, rb, ca, cb, h, _ => by
    cases db with
    | int y =>
      rw [ltP] at h
      cases h
      cases ra; cases rb
      intro prog w E Q hq
      exact P.lt_int hq
    | _ => rw [ltP] at h; cases h; all_goals intros; simp_all
  | .str x, db, k, A, s, a, b, as, bs, ra, rb, ca, cb, h, _ => by
    cases db with
    | str y =>
      rw [ltP] at h
      cases h
      cases ra; cases rb
      intro prog w E Q hq
      exact P.lt_str hq
    | _ => rw [ltP] at h; cases h; all_goals intros; simp_all
  | .tuple xs, db, k, A, s, a, b, as, bs, ra, rb, ca, cb, h, hu => by
    cases db with
    | tuple ys =>
      rw [ltP] at h
      cases ra with
      | @tuple l o vs n _ _ h1 h2 h3 h4 =>
        cases rb with
        | @tuple l' o' vs' n' _ _ k1 k2 k3 k4 =>
          exact rcLt_tup ⟨_, h1, h2, _, h3⟩ ⟨_, k1, k2, _, k3⟩ (room_here hu) (rcLt_Ps xs ys k A.in1 s _ _ _ _ h4 k4 ca cb h (room_in hu))
    | _ => rw [ltP] at h; cases h; all_goals intros; simp_all
  | .none, db, k, A, s, a, b, as, bs, ra, rb, ca, cb, h, _ => by cases db <;> simp [ltP] at h
  | .bool _, db, k, A, s, a, b, as, bs, ra, rb, ca, cb, h, _ => by cases db <;> simp [ltP] at h
  | .list _, db, k, A, s, a, b, as, bs, ra, rb, ca, cb, h, _ => by cases db <;> simp [ltP] at h
  | .dict _, db, k, A, s, a, b, as, bs, ra, rb, ca, cb, h, _ => by cases db <;> simp [ltP] at h
theorem rcLt_Ps : ∀ (xs ys : List PyData) (k : Bool) (A : Around) (s : Shared) (vs ws : List Value) (as bs : List Addr), ReadsAll s.heap vs xs as → ReadsAll s.heap ws ys bs → PyData.canLayAll0 xs = true → PyData.canLayAll0 ys = true → ltPs xs ys = some k →
    A.units + min (PyData.depthAll xs) (PyData.depthAll ys) < cLine → LtFrom A s vs ws k
  | [], [], k, A, s, vs, ws, as, bs, ra, rb, ca, cb, h, _ => by
    cases ra; cases rb
    rw [ltPs] at h
    cases h
    exact rfl
  | [], _ :: _, k, A, s, vs, ws, as, bs, ra, rb, ca, cb, h, _ => by
    cases ra; cases rb
    rw [ltPs] at h
    cases h
    exact rfl
  | _ :: _, [], k, A, s, vs, ws, as, bs, ra, rb, ca, cb, h, _ => by
    cases ra; cases rb
    rw [ltPs] at h
    cases h
    exact rfl
  | x :: xs, y :: ys, k, A, s, vs, ws, as, bs, ra, rb, ca, cb, h, hu => by
    have c1 : x.canLay0 = true ∧ PyData.canLayAll0 xs = true := by simpa [PyData.canLayAll0] using ca
    have c2 : y.canLay0 = true ∧ PyData.canLayAll0 ys = true := by simpa [PyData.canLayAll0] using cb
    cases ra with
    | cons r rs =>
      cases rb with
      | cons r' rs' =>
        rw [ltPs] at h
        refine ⟨_, eqAt_reads x y A s _ _ _ _ r r' c1.1 c2.1 (room_head hu), ?_⟩
        by_cases e : PyData.eqv x y = true
        · rw [if_pos e] at h ⊢
          exact rcLt_Ps xs ys k A s _ _ _ _ rs rs' c1.2 c2.2 h (room_tail hu)
        · rw [if_neg e] at h ⊢
          exact rcLt_P x y k A s _ _ _ _ r r' c1.1 c2.1 h (room_head hu)
end
end ML

set_option Elab.async false
set_option linter.all false
set_option maxRecDepth 100000
namespace ML
open PySem L2
/-! ### data as the model's data -/
mutual
def toP : D → PyData
  | .non => .none
  | .bl b => .bool b
  | .int i => .int i
  | .str x => .str x
  | .tup xs => .tuple (toPs xs)
  | .ref _ => .dict []
  | .glob _ => .dict []
  | .fro _ => .dict []
def toPs : List D → List PyData
  | [] => []
  | d :: r => toP d :: toPs r
end
/-- data that == and < are told of -/
def okD (d : D) : Bool := SeqAt.shaped (toP d)
mutual
theorem dp_of {T : Tx} {ι : List Addr} {H : Hp} : ∀ (d : D) (v : V), RV T ι H d v → (toP d).canLay0 = true → Dp T.K H v (toP d)
  | .non, v, r, _ => by rw [RV] at r; subst r; rw [toP]; exact Dp.non
  | .bl b, v, r, _ => by rw [RV] at r; subst r; rw [toP]; exact Dp.bl b
  | .int i, v, r, _ => by rw [RV] at r; subst r; rw [toP]; exact Dp.int i
  | .str x, v, r, _ => by rw [RV] at r; subst r; rw [toP]; exact Dp.str x
  | .tup xs, v, r, c => by
    rw [RV] at r
    obtain ⟨a, ys, e, s, q⟩ := r
    subst e
    rw [toP] at c ⊢
    exact Dp.tup s (dps_of xs ys q (by simpa [PyData.canLay0] using c))
  | .ref _, v, r, c => by rw [toP] at c; simp [PyData.canLay0] at c
  | .glob _, v, r, c => by rw [toP] at c; simp [PyData.canLay0] at c
  | .fro _, v, r, c => by rw [toP] at c; simp [PyData.canLay0] at c
theorem dps_of {T : Tx} {ι : List Addr} {H : Hp} : ∀ (ds : List D) (vs : List V), RVs T ι H ds vs → PyData.canLayAll0 (toPs ds) = true → DpAll T.K H vs (toPs ds)
  | [], vs, r, _ => by rw [RVs] at r; subst r; rw [toPs]; exact DpAll.nil
  | d :: ds, vs, r, c => by
    rw [RVs] at r
    obtain ⟨x, s, e, q1, q2⟩ := r
    subst e
    rw [toPs] at c ⊢
    have c' : (toP d).canLay0 = true ∧ PyData.canLayAll0 (toPs ds) = true := by simpa [PyData.canLayAll0] using c
    exact DpAll.cons (dp_of d x q1 c'.1) (dps_of ds s q2 c'.2)
end
theorem okD_lay {d : D} (h : okD d = true) : (toP d).canLay0 = true := SeqAt.canLay_of_shaped h

/-! ### operators -/
def isB (f : Bool → M D) : M D → M D := fun m => m
def addD : D → D → M D
  | .int i, .int j => pure (.int (i + j))
  | .str x, .str y => if x.length + y.length ≤ sizeLine then pure (.str (x ++ y)) else M.bad
  | .tup x, .tup y => if x.length + y.length ≤ sizeLine then pure (.tup (x ++ y)) else M.bad
  | _, _ => M.bad
def subD : D → D → M D
  | .int i, .int j => pure (.int (i - j))
  | _, _ => M.bad
def mulD : D → D → M D
  | .int i, .int j => if (-(2 ^ 64) < i ∧ i < 2 ^ 64) ∨ (-(2 ^ 64) < j ∧ j < 2 ^ 64) then pure (.int (i * j)) else M.bad
  | _, _ => M.bad
def modD : D → D → M D
  | .int i, .int j => if 0 < j then pure (.int (i % j)) else M.bad
  | _, _ => M.bad
def fdivD : D → D → M D
  | .int i, .int j => if 0 < j ∧ j < 1073741824 then pure (.int (i / j)) else M.bad
  | _, _ => M.bad
def powD : D → D → M D
  | .int i, .int j => if 0 ≤ j ∧ j ≤ 1000000 ∧ i.natAbs < 2 ^ 64 then pure (.int (i ^ j.toNat)) else M.bad
  | _, _ => M.bad
def cmpD (p : Int → Int → Bool) : D → D → M D
  | .int i, .int j => pure (.bl (p i j))
  | _, _ => M.bad
def ltD : D → D → M D := fun a b => if okD a = true ∧ okD b = true then (match ltP (toP a) (toP b) with | some k => pure (.bl k) | none => M.bad) else M.bad
def gtD : D → D → M D := fun a b => ltD b a
def eqD : D → D → M D := fun a b => if okD a = true ∧ okD b = true then pure (.bl (PyData.eqv (toP a) (toP b))) else M.bad
def neD : D → D → M D := fun a b => if okD a = true ∧ okD b = true then pure (.bl (!PyData.eqv (toP a) (toP b))) else M.bad
def isND : D → D → M D
  | d, .non => pure (.bl (decide (d = .non)))
  | _, _ => M.bad
def notND : D → D → M D
  | d, .non => pure (.bl (!decide (d = .non)))
  | _, _ => M.bad
def negD : D → M D
  | .int i => pure (.int (-i))
  | _ => M.bad
section
variable {X : Cx}
/-- the value of an operation that makes nothing -/
theorem fin0 {T : Tx} {ι : List Addr} {H : Hp} {h h1 : Hm} {a d : D} {v : V} {Q : VK} (r : Rl T ι H h) (e : (pure a : M D) h = some (d, h1)) (q : RV T ι H a v) (k : ∀ ι1 H1 v, Ex ι H ι1 H1 → Rl T ι1 H1 h1 → RV T ι1 H1 d v → Q v H1) : Q v H := by
  obtain ⟨e1, e2⟩ := pure_some e
  subst e1 e2
  exact k ι H v (Ex.refl _ _) r q
theorem new_tup {T : Tx} {ι : List Addr} {H : Hp} {h : Hm} {p : Addr} {ds : List D} {xs : List V} (r : Rl T ι H h) (hp : H p = none) (q : RVs T ι H ds xs) : Ex ι H ι (upd H p (.tup xs)) ∧ Rl T ι (upd H p (.tup xs)) h ∧ RV T ι (upd H p (.tup xs)) (.tup ds) (.ref p) := by
  obtain ⟨x, r1⟩ := r.other (u := .tup xs) hp
  exact ⟨x, r1, by rw [RV]; exact ⟨p, xs, rfl, SqT.of upd_same, RVs.up (x.up r) ds xs q⟩⟩
def rAddA (K : PySem.W.Frag) : R2 := fun x y H Q => rI0 (fun i j => .int (i + j)) x y H Q ∨ (∃ i j, x = .str i ∧ y = .str j ∧ i.length + j.length ≤ sizeLine ∧ Q (.str (i ++ j)) H) ∨ rCatA K x y H Q
theorem o_add : OpR X (binaryOp .Add) (rAddA X.K) := op_add.or (op_add_str.or op_catA)
theorem o2_add : Op2 (tx X) (rAddA X.K) addD := by
  intro ι H h x y a b d h1 Q r qa qb e k
  cases a with
  | int i =>
    cases b with
    | int j =>
      rw [RV] at qa qb
      exact .inl ⟨i, j, qa, qb, fin0 r e (by rw [RV]) k⟩
    | _ => cases e
  | str i =>
    cases b with
    | str j =>
      rw [RV] at qa qb
      have e : (if i.length + j.length ≤ sizeLine then (pure (.str (i ++ j)) : M D) else M.bad) h = some (d, h1) := e
      by_cases hl : i.length + j.length ≤ sizeLine
      · rw [if_pos hl] at e
        exact .inr (.inl ⟨i, j, qa, qb, hl, fin0 r e (by rw [RV]) k⟩)
      · rw [if_neg hl] at e; cases e
    | _ => cases e
  | tup i =>
    cases b with
    | tup j =>
      rw [RV] at qa qb
      obtain ⟨p, xs, e1, s1, q1⟩ := qa
      obtain ⟨p', ys, e2, s2, q2⟩ := qb
      have e : (if i.length + j.length ≤ sizeLine then (pure (.tup (i ++ j)) : M D) else M.bad) h = some (d, h1) := e
      by_cases hl : i.length + j.length ≤ sizeLine
      · rw [if_pos hl] at e
        obtain ⟨e3, e4⟩ := pure_some e
        subst e3 e4
        have l1 := q1.length
        have l2 := q2.length
        refine .inr (.inr ⟨p, p', xs, ys, e1, e2, s1, s2, by rw [l1, l2]; exact hl, fun z => ?_, fun _ z => ?_, fun _ _ p2 hp2 => ?_⟩)
        · subst z
          have : i = [] := List.eq_nil_of_length_eq_zero l1.symm
          subst this
          exact k ι H _ (Ex.refl _ _) r (by rw [RV]; exact ⟨p', ys, rfl, s2, q2⟩)
        · subst z
          have : j = [] := List.eq_nil_of_length_eq_zero l2.symm
          subst this
          rw [List.append_nil] at k
          exact k ι H _ (Ex.refl _ _) r (by rw [RV]; exact ⟨p, xs, rfl, s1, q1⟩)
        · obtain ⟨x3, r3, q3⟩ := new_tup r hp2 (RVs.append q1 q2)
          exact k _ _ _ x3 r3 q3
      · rw [if_neg hl] at e; cases e
    | _ => cases e
  | _ => cases b <;> cases e
theorem o2_I {C : Int → Int → Prop} {g : Int → Int → V} {f : D → D → M D} (hf : ∀ a b h d h1, f a b h = some (d, h1) → ∃ i j, a = .int i ∧ b = .int j ∧ C i j ∧ h = h1 ∧ ∀ T ι H, RV T ι H d (g i j)) : Op2 (tx X) (rI C g) f := by
  intro ι H h x y a b d h1 Q r qa qb e k
  obtain ⟨i, j, ea, eb, c, eh, q⟩ := hf a b h d h1 e
  subst ea eb eh
  rw [RV] at qa qb
  exact ⟨i, j, qa, qb, c, k ι H _ (Ex.refl _ _) r (q _ _ _)⟩
theorem o2_I0 {g : Int → Int → V} {f : D → D → M D} (hf : ∀ a b h d h1, f a b h = some (d, h1) → ∃ i j, a = .int i ∧ b = .int j ∧ h = h1 ∧ ∀ T ι H, RV T ι H d (g i j)) : Op2 (tx X) (rI0 g) f := by
  intro ι H h x y a b d h1 Q r qa qb e k
  obtain ⟨i, j, ea, eb, eh, q⟩ := hf a b h d h1 e
  subst ea eb eh
  rw [RV] at qa qb
  exact ⟨i, j, qa, qb, k ι H _ (Ex.refl _ _) r (q _ _ _)⟩
theorem o2_sub : Op2 (tx X) (rI0 fun i j => .int (i - j)) subD := o2_I0 fun a b h d h1 e => by
  cases a <;> cases b <;> first | (cases e; done) | (obtain ⟨e1, e2⟩ := pure_some e; subst e1 e2; exact ⟨_, _, rfl, rfl, rfl, fun _ _ _ => by rw [RV]⟩)
theorem ifp {c : Prop} [Decidable c] {a d : D} {h h1 : Hm} (e : (if c then (pure a : M D) else M.bad) h = some (d, h1)) : c ∧ a = d ∧ h = h1 := by
  by_cases hc : c
  · rw [if_pos hc] at e
    exact ⟨hc, (pure_some e).1, (pure_some e).2⟩
  · rw [if_neg hc] at e; cases e
theorem o2_mul : Op2 (tx X) (rI CMul fun i j => .int (i * j)) mulD := o2_I fun a b h d h1 e => by
  cases a with
  | int i =>
    cases b with
    | int j =>
      obtain ⟨c, e1, e2⟩ := ifp (c := (-(2 ^ 64) < i ∧ i < 2 ^ 64) ∨ (-(2 ^ 64) < j ∧ j < 2 ^ 64)) (a := .int (i * j)) e
      subst e1 e2
      exact ⟨i, j, rfl, rfl, c, rfl, fun _ _ _ => by rw [RV]⟩
    | _ => cases e
  | _ => cases b <;> cases e
theorem o2_mod : Op2 (tx X) (rI (fun _ j => 0 < j) fun i j => .int (i % j)) modD := o2_I fun a b h d h1 e => by
  cases a with
  | int i =>
    cases b with
    | int j =>
      obtain ⟨c, e1, e2⟩ := ifp (c := 0 < j) (a := .int (i % j)) e
      subst e1 e2
      exact ⟨i, j, rfl, rfl, c, rfl, fun _ _ _ => by rw [RV]⟩
    | _ => cases e
  | _ => cases b <;> cases e
theorem o2_fdiv : Op2 (tx X) (rI CDiv fun i j => .int (i / j)) fdivD := o2_I fun a b h d h1 e => by
  cases a with
  | int i =>
    cases b with
    | int j =>
      obtain ⟨c, e1, e2⟩ := ifp (c := 0 < j ∧ j < 1073741824) (a := .int (i / j)) e
      subst e1 e2
      exact ⟨i, j, rfl, rfl, c, rfl, fun _ _ _ => by rw [RV]⟩
    | _ => cases e
  | _ => cases b <;> cases e
theorem o2_pow : Op2 (tx X) (rI CPow fun i j => .int (i ^ j.toNat)) powD := o2_I fun a b h d h1 e => by
  cases a with
  | int i =>
    cases b with
    | int j =>
      obtain ⟨c, e1, e2⟩ := ifp (c := 0 ≤ j ∧ j ≤ 1000000 ∧ i.natAbs < 2 ^ 64) (a := .int (i ^ j.toNat)) e
      subst e1 e2
      exact ⟨i, j, rfl, rfl, c, rfl, fun _ _ _ => by rw [RV]⟩
    | _ => cases e
  | _ => cases b <;> cases e
theorem o2_cmp {p : Int → Int → Bool} : Op2 (tx X) (rI0 fun i j => .bl (p i j)) (cmpD p) := o2_I0 fun a b h d h1 e => by
  cases a <;> cases b <;> first | (cases e; done) | (obtain ⟨e1, e2⟩ := pure_some e; subst e1 e2; exact ⟨_, _, rfl, rfl, rfl, fun _ _ _ => by rw [RV]⟩)
theorem o2_eq : Op2 (tx X) (rEqD X.K) eqD := by
  intro ι H h x y a b d h1 Q r qa qb e k
  have e : (if okD a = true ∧ okD b = true then (pure (.bl (PyData.eqv (toP a) (toP b))) : M D) else M.bad) h = some (d, h1) := e
  by_cases c : okD a = true ∧ okD b = true
  · rw [if_pos c] at e
    exact ⟨_, _, dp_of a x qa (okD_lay c.1), dp_of b y qb (okD_lay c.2), c.1, c.2, fin0 r e (by rw [RV]) k⟩
  · rw [if_neg c] at e; cases e
theorem o2_ne : Op2 (tx X) (rNeD X.K) neD := by
  intro ι H h x y a b d h1 Q r qa qb e k
  have e : (if okD a = true ∧ okD b = true then (pure (.bl (!PyData.eqv (toP a) (toP b))) : M D) else M.bad) h = some (d, h1) := e
  by_cases c : okD a = true ∧ okD b = true
  · rw [if_pos c] at e
    exact ⟨_, _, dp_of a x qa (okD_lay c.1), dp_of b y qb (okD_lay c.2), c.1, c.2, fin0 r e (by rw [RV]) k⟩
  · rw [if_neg c] at e; cases e
def rLtP (K : PySem.W.Frag) : R2 := fun x y H Q => ∃ d e k, Dp K H x d ∧ Dp K H y e ∧ SeqAt.shaped d = true ∧ SeqAt.shaped e = true ∧ ltP d e = some k ∧ Q (.bl k) H
theorem o_lt (hu : X.A.units + 64 < cLine) : OpR X (compareOp .Lt) (rLtP X.K) := by
  intro pins s σ H x y v u Q I rx ry h
  obtain ⟨d, e, k, hd, he, sd, se, hk, q⟩ := h
  obtain ⟨as, r1⟩ := Dp.reads I d x v hd rx
  obtain ⟨bs, r2⟩ := Dp.reads I e y u he ry
  exact rcLt_P d e k X.A s v u as bs r1 r2 (SeqAt.canLay_of_shaped sd) (SeqAt.canLay_of_shaped se) hk (SeqAt.room_of_shaped sd hu) _ _ _ _ ⟨.bl k, H, I, rfl, q⟩
theorem o2_lt : Op2 (tx X) (rLtP X.K) ltD := by
  intro ι H h x y a b d h1 Q r qa qb e k
  unfold ltD at e
  by_cases c : okD a = true ∧ okD b = true
  · rw [if_pos c] at e
    cases q : ltP (toP a) (toP b) with
    | none => rw [q] at e; cases e
    | some kk =>
      rw [q] at e
      exact ⟨_, _, kk, dp_of a x qa (okD_lay c.1), dp_of b y qb (okD_lay c.2), c.1, c.2, q, fin0 r e (by rw [RV]) k⟩
  · rw [if_neg c] at e; cases e
theorem rv_non {T : Tx} {ι : List Addr} {H : Hp} {d : D} {v : V} (r : RV T ι H d v) (hg : ∀ x, d ≠ .glob x) : decide (v = .non) = decide (d = .non) := by
  cases d with
  | glob x => exact absurd rfl (hg x)
  | tup xs => rw [RV] at r; obtain ⟨a, ys, e, _⟩ := r; subst e; rfl
  | fro xs => rw [RV] at r; obtain ⟨a, ys, e, _⟩ := r; subst e; rfl
  | ref i => rw [RV] at r; obtain ⟨a, _, e⟩ := r; subst e; rfl
  | _ => rw [RV] at r; subst r; rfl
def isND' : D → D → M D
  | .glob _, _ => M.bad
  | d, .non => pure (.bl (decide (d = .non)))
  | _, _ => M.bad
def notND' : D → D → M D
  | .glob _, _ => M.bad
  | d, .non => pure (.bl (!decide (d = .non)))
  | _, _ => M.bad
theorem o2_isN : Op2 (tx X) (fun x y H Q => y = .non ∧ Q (.bl (decide (x = .non))) H) isND' := by
  intro ι H h x y a b d h1 Q r qa qb e k
  unfold isND' at e
  split at e
  · cases e
  · rename_i hg
    rw [RV] at qb
    refine ⟨qb, ?_⟩
    rw [rv_non qa (fun x z => hg x z)]
    exact fin0 r e (by rw [RV]) k
  · cases e
theorem o2_notN : Op2 (tx X) (fun x y H Q => y = .non ∧ Q (.bl (!decide (x = .non))) H) notND' := by
  intro ι H h x y a b d h1 Q r qa qb e k
  unfold notND' at e
  split at e
  · cases e
  · rename_i hg
    rw [RV] at qb
    refine ⟨qb, ?_⟩
    rw [rv_non qa (fun x z => hg x z)]
    exact fin0 r e (by rw [RV]) k
  · cases e
theorem o1_neg : Op1 (tx X) (rU fun i => .int (-i)) negD := by
  intro ι H h x a d h1 Q r qa e k
  cases a with
  | int i =>
    rw [RV] at qa
    exact ⟨i, qa, fin0 r e (by rw [RV]) k⟩
  | _ => cases e
end
end ML

set_option Elab.async false
set_option linter.all false
set_option maxRecDepth 100000
namespace ML
open PySem L2
/-! ### calls of built-ins by values -/
def CallM (T : Tx) (r : List V → Hp → VK → Prop) (g : List D → M D) : Prop := ∀ (ι : List Addr) (H : Hp) (h : Hm) (xs : List V) (ds : List D) (d : D) (h1 : Hm) (Q : VK), Rl T ι H h → RVs T ι H ds xs → g ds h = some (d, h1) →
  (∀ ι1 H1 v, Ex ι H ι1 H1 → Rl T ι1 H1 h1 → RV T ι1 H1 d v → Q v H1) → r xs H Q
/-- .. of a new list -/
def CallL (T : Tx) (r : List V → Hp → VK → Prop) (g : List D → M D) : Prop := ∀ (ι : List Addr) (H : Hp) (h : Hm) (a : Addr) (xs : List V) (ds : List D) (d : D) (h1 : Hm) (Q : VK), Rl T ι H h → a ∉ ι → H a = some (.lst xs) → RVs T ι H ds xs → g ds h = some (d, h1) →
  (∀ ι1 H1 v, Ex ι H ι1 H1 → Rl T ι1 H1 h1 → RV T ι1 H1 d v → Q v H1) → r [.ref a] H Q
def bcM (g : List D → M D) (ms : Sm → M (List D)) : Sm → M D := fun σ => ms σ >>= g
section
variable {X : Cx} {x : Str} {p pos : Pos} {e : Expr} {es : List Expr} {ms : Sm → M (List D)} {fid T : String} {r : List V → Hp → VK → Prop} {g : List D → M D}
theorem bc_of {T : Tx} (hg : CallM T r g) {σ : St} {H : Hp} {Q : VK} (q : lf T (bcM g ms) σ H Q) : tCB r (lfA T ms) σ H Q := by
  obtain ⟨ι, σm, h, d, h1, rl, rs, e, k⟩ := q
  refine lfA_then rl rs e (P := fun ι2 H2 => ∀ v, Rl T ι2 H2 h1 → RV T ι2 H2 d v → Q v H2) (fun ι2 H2 y v => k ι2 H2 v y) fun ι1 H1 xs ds h' x1 r1 rs1 q1 e1 k1 => ?_
  exact hg ι1 H1 h' xs ds d h1 Q r1 q1 e1 fun ι3 H3 v x3 => k1 ι3 H3 x3 v
theorem bcl_of {T : Tx} (hg : CallL T r g) {σ : St} {H : Hp} {Q : VK} (q : lf T (bcM g ms) σ H Q) : tCB r (tCons (lfL T ms) tNil) σ H Q := by
  obtain ⟨ι, σm, h, d, h1, rl, rs, e, k⟩ := q
  show lfL T ms σ H fun v H1 => r [v] H1 Q
  refine lfL_then rl rs e (P := fun ι2 H2 => ∀ v, Rl T ι2 H2 h1 → RV T ι2 H2 d v → Q v H2) (fun ι2 H2 y v => k ι2 H2 v y) fun ι1 H1 a xs ds h' x1 r1 rs1 ha na ea q1 e1 k1 => ?_
  exact hg ι1 H1 h' a xs ds d h1 Q r1 na ea q1 e1 fun ι3 H3 v x3 => k1 ι3 H3 x3 v
theorem m_callB (hc : CallR X (.builtin fid) r) (hg' : CallM (tx X) r g) (hg : Gl X x) (hm : X.mg x = none) (hv : bootBuiltins x = some (.builtin fid)) (ha : PA X (e :: es) (lfA (tx X) ms)) (hn : x ≠ "__name__" := by decide) (hdb : (x == ("__debug__" : Str)) = false := by decide)
    (he : starEach (e :: es) X.env = (false, eval e X.env) :: starEach es X.env := by rfl) (hpl : (backTo pos (starEach es X.env)).any (·.1) = false := by rfl) : PE X (.Call (.Name x p) (e :: es) [] pos) (lf (tx X) (bcM g ms)) :=
  (pe_callB hc hg hm hv ha hn hdb he hpl).imp fun _ _ _ q => bc_of hg' q
theorem m_callTy (hc : CallR X (.type T) r) (hg' : CallM (tx X) r g) (hg : Gl X x) (hm : X.mg x = none) (hv : bootBuiltins x = some (.type T)) (ha : PA X (e :: es) (lfA (tx X) ms)) (hn : x ≠ "__name__" := by decide) (hdb : (x == ("__debug__" : Str)) = false := by decide)
    (he : starEach (e :: es) X.env = (false, eval e X.env) :: starEach es X.env := by rfl) (hpl : (backTo pos (starEach es X.env)).any (·.1) = false := by rfl) : PE X (.Call (.Name x p) (e :: es) [] pos) (lf (tx X) (bcM g ms)) :=
  (pe_callTy hc hg hm hv ha hn hdb he hpl).imp fun _ _ _ q => bc_of hg' q
theorem m_callBL (hc : CallR X (.builtin fid) r) (hg' : CallL (tx X) r g) (hg : Gl X x) (hm : X.mg x = none) (hv : bootBuiltins x = some (.builtin fid)) (ha : PE X e (lfL (tx X) ms)) (hn : x ≠ "__name__" := by decide) (hdb : (x == ("__debug__" : Str)) = false := by decide)
    (he : starEach [e] X.env = (false, eval e X.env) :: starEach [] X.env := by rfl) (hpl : (backTo pos (starEach [] X.env)).any (·.1) = false := by rfl) : PE X (.Call (.Name x p) [e] [] pos) (lf (tx X) (bcM g ms)) :=
  (pe_callB hc hg hm hv (pa_cons ha pa_nil he) hn hdb he hpl).imp fun _ _ _ q => bcl_of hg' q
theorem m_callTyL (hc : CallR X (.type T) r) (hg' : CallL (tx X) r g) (hg : Gl X x) (hm : X.mg x = none) (hv : bootBuiltins x = some (.type T)) (ha : PE X e (lfL (tx X) ms)) (hn : x ≠ "__name__" := by decide) (hdb : (x == ("__debug__" : Str)) = false := by decide)
    (he : starEach [e] X.env = (false, eval e X.env) :: starEach [] X.env := by rfl) (hpl : (backTo pos (starEach [] X.env)).any (·.1) = false := by rfl) : PE X (.Call (.Name x p) [e] [] pos) (lf (tx X) (bcM g ms)) :=
  (pe_callTy hc hg hm hv (pa_cons ha pa_nil he) hn hdb he hpl).imp fun _ _ _ q => bcl_of hg' q

/-! ### what a value is -/
/-- an item of something at an address -/
theorem RVs1 {T : Tx} {ι : List Addr} {H : Hp} {d : D} {xs : List V} (r : RVs T ι H [d] xs) : ∃ x, xs = [x] ∧ RV T ι H d x := by
  rw [RVs] at r
  obtain ⟨x, s, e, q, q2⟩ := r
  rw [RVs] at q2
  exact ⟨x, by rw [e, q2], q⟩
theorem RVs2 {T : Tx} {ι : List Addr} {H : Hp} {d d' : D} {xs : List V} (r : RVs T ι H [d, d'] xs) : ∃ x y, xs = [x, y] ∧ RV T ι H d x ∧ RV T ι H d' y := by
  rw [RVs] at r
  obtain ⟨x, s, e, q, q2⟩ := r
  obtain ⟨y, e2, q3⟩ := RVs1 q2
  exact ⟨x, y, by rw [e, e2], q, q3⟩
def tyD (h : Hm) : D → Option String
  | .non => some "NoneType"
  | .bl _ => some "bool"
  | .int _ => some "int"
  | .str _ => some "str"
  | .tup _ => some "tuple"
  | .fro _ => some "list"
  | .ref k => match h[k]? with
    | some (.lst _) => some "list"
    | some (.dic _) => some "dict"
    | _ => none
  | .glob _ => none
theorem tyX_of {T : Tx} {ι : List Addr} {H : Hp} {h : Hm} {d : D} {v : V} {n : String} (r : Rl T ι H h) (q : RV T ι H d v) (e : tyD h d = some n) : TyX T.K H v (.type n) := by
  cases d with
  | non => rw [RV] at q; subst q; cases e; exact .base .non
  | bl b => rw [RV] at q; subst q; cases e; exact .base (.bl b)
  | int i => rw [RV] at q; subst q; cases e; exact .base (.int i)
  | str s => rw [RV] at q; subst q; cases e; exact .base (.str s)
  | tup ds =>
    rw [RV] at q
    obtain ⟨a, xs, e1, s, _⟩ := q
    subst e1; cases e
    rcases s with (s | ⟨o, s⟩) | ⟨o, its, n, hk, hc, _⟩
    · exact .base (.tup s)
    · exact .fTuple s
    · exact .kTuple hk hc
  | fro ds =>
    rw [RV] at q
    obtain ⟨a, xs, e1, s, _⟩ := q
    subst e1; cases e
    rcases s with ⟨o, s⟩ | ⟨o, its, n, hk, hc, _⟩
    · exact .base (.frz s)
    · exact .kList hk hc
  | ref kk =>
    rw [RV] at q
    obtain ⟨a, ha, e1⟩ := q
    subst e1
    have e : (match h[kk]? with | some (.lst _) => some "list" | some (.dic _) => some "dict" | _ => none) = some n := e
    cases q2 : h[kk]? with
    | none => rw [q2] at e; cases e
    | some o =>
      rw [q2] at e
      cases o with
      | lst ds =>
        cases e
        obtain ⟨xs, hx, _⟩ := r.obj kk a _ ha q2
        exact .base (.lst hx)
      | dic ds =>
        cases e
        obtain ⟨xs, hx, _⟩ := r.obj kk a _ ha q2
        exact .base (.dK hx)
      | ins c fs => cases e
  | glob x => cases e
def isiD (n : String) (d : D) : M D := fun h => match tyD h d with
  | none => none
  | some t => match kitB t n with
    | none => none
    | some b => some (.bl b, h)
def isiM (n : String) (m : Sm → M D) : Sm → M D := fun σ => m σ >>= isiD n
/-- isinstance(e, n), n a built-in type -/
theorem m_isi {n : String} {y : Str} {p2 : Pos} {m : Sm → M D} (hg : Gl X "isinstance") (hm : X.mg "isinstance" = none) (he : PE X e (lf (tx X) m)) (hg2 : Gl X y) (hm2 : X.mg y = none) (hv2 : bootBuiltins y = some (.type n)) (hn2 : y ≠ "__name__" := by decide) (hdb2 : (y == ("__debug__" : Str)) = false := by decide)
    (h1 : starEach [e, .Name y p2] X.env = (false, eval e X.env) :: starEach [.Name y p2] X.env := by rfl) (h2 : (backTo pos (starEach [.Name y p2] X.env)).any (·.1) = false := by rfl) :
    PE X (.Call (.Name "isinstance" p) [e, .Name y p2] [] pos) (lf (tx X) (isiM n m)) :=
  (pe_callB call_isi hg hm (by decide +kernel) (pa_cons he (pa_cons (pe_bltn (v := .ty n) hg2 hm2 hv2 rfl hn2 hdb2) pa_nil) h1) (by decide) (by decide) h1 h2).imp fun σ H Q q => by
  obtain ⟨ι, σm, h, d, h1, r, rs, e, k⟩ := q
  refine lf_then r rs e (P := fun ι2 H2 => ∀ v, Rl (tx X) ι2 H2 h1 → RV (tx X) ι2 H2 d v → Q v H2) (fun ι2 H2 y v => k ι2 H2 v y) fun ι1 H1 x da h' x1 r1 rs1 q1 e1 k1 => ?_
  unfold isiD at e1
  cases q2 : tyD h' da with
  | none => rw [q2] at e1; cases e1
  | some t =>
    rw [q2] at e1
    cases q3 : kitB t n with
    | none => simp only [q3] at e1; cases e1
    | some b =>
      simp only [q3] at e1
      injection e1 with e1
      injection e1 with e2 e3
      subst e2 e3
      exact ⟨x, .ty n, .type t, .type n, b, rfl, .ty n, tyX_of r1 q1 q2, kit_ty q3, k1 _ _ (Ex.refl _ _) _ r1 (by rw [RV])⟩

/-! ### len, abs, int, min, max, any, all, tuple -/
def lenD : List D → M D := fun ds h => match ds with
  | [.str y] => if y.length ≤ sizeLine then some (.int y.length, h) else none
  | [.tup xs] => some (.int xs.length, h)
  | [.fro xs] => some (.int xs.length, h)
  | [.ref k] => match h[k]? with
    | some (.lst xs) => some (.int xs.length, h)
    | some (.dic kvs) => some (.int kvs.length, h)
    | _ => none
  | _ => none
def rLenA (X : Cx) : List V → Hp → VK → Prop := fun xs H Q => (∃ x n, xs = [x] ∧ LenV X.K x H n ∧ Q (.int n) H) ∨ (∃ a kvs, xs = [V.ref a] ∧ H a = some (.dK kvs) ∧ Q (.int kvs.length) H)
theorem c_len : CallR X (.builtin "len") (rLenA X) := call_len.or call_lenD
theorem KRs.length {T : Tx} {ι : List Addr} {H : Hp} : ∀ {kvs : List (D × D)} {ks : List (Key × V)}, KRs T ι H kvs ks → ks.length = kvs.length
  | [], ks, r => by have e : ks = [] := r; rw [e]; rfl
  | p :: r, ks, q => by
    obtain ⟨k, v, s, e, _, _, q⟩ := q
    rw [e, List.length_cons, List.length_cons, KRs.length q]
theorem some_pair {α : Type} {a b : α} {h h1 : Hm} (e : some (a, h) = some (b, h1)) : a = b ∧ h = h1 := by
  injection e with e
  injection e with e1 e2
  exact ⟨e1, e2⟩
theorem cm_len : CallM (tx X) (rLenA X) lenD := by
  intro ι H h xs ds d h1 Q r q e k
  unfold lenD at e
  split at e
  · rename_i y
    obtain ⟨x, ex, q1⟩ := RVs1 q
    rw [RV] at q1
    split at e
    · rename_i hl
      obtain ⟨e1, e2⟩ := some_pair e
      subst e1 e2
      subst ex q1
      exact .inl ⟨_, y.length, rfl, ⟨hl, rfl⟩, k _ _ _ (Ex.refl _ _) r (by rw [RV])⟩
    · cases e
  · rename_i ys
    obtain ⟨x, ex, q1⟩ := RVs1 q
    rw [RV] at q1
    obtain ⟨a, zs, ea, s, q2⟩ := q1
    obtain ⟨e1, e2⟩ := some_pair e
    subst e1 e2
    subst ex ea
    exact .inl ⟨_, ys.length, rfl, .inr ⟨zs, s, q2.length.symm⟩, k _ _ _ (Ex.refl _ _) r (by rw [RV])⟩
  · rename_i ys
    obtain ⟨x, ex, q1⟩ := RVs1 q
    rw [RV] at q1
    obtain ⟨a, zs, ea, s, q2⟩ := q1
    obtain ⟨e1, e2⟩ := some_pair e
    subst e1 e2
    subst ex ea
    exact .inl ⟨_, ys.length, rfl, .inl ⟨zs, s.sq, q2.length.symm⟩, k _ _ _ (Ex.refl _ _) r (by rw [RV])⟩
  · rename_i kk
    obtain ⟨x, ex, q1⟩ := RVs1 q
    rw [RV] at q1
    obtain ⟨a, ha, ea⟩ := q1
    subst ex ea
    cases q2 : h[kk]? with
    | none => rw [q2] at e; cases e
    | some o =>
      rw [q2] at e
      cases o with
      | lst ys =>
        obtain ⟨zs, hz, qs⟩ := r.obj kk a _ ha q2
        obtain ⟨e1, e2⟩ := some_pair e
        subst e1 e2
        exact .inl ⟨_, ys.length, rfl, .inl ⟨zs, SqL.of hz, qs.length.symm⟩, k _ _ _ (Ex.refl _ _) r (by rw [RV])⟩
      | dic kvs =>
        obtain ⟨zs, hz, qs⟩ := r.obj kk a _ ha q2
        obtain ⟨e1, e2⟩ := some_pair e
        subst e1 e2
        exact .inr ⟨a, zs, rfl, hz, by rw [qs.length]; exact k _ _ _ (Ex.refl _ _) r (by rw [RV])⟩
      | ins c fs => cases e
  · cases e
/-- len of a new list -/
def lenL : List D → M D := fun ds => pure (.int ds.length)
theorem cl_len : CallL (tx X) (rLenA X) lenL := by
  intro ι H h a xs ds d h1 Q r na ea q e k
  obtain ⟨e1, e2⟩ := pure_some e
  subst e1 e2
  exact .inl ⟨_, ds.length, rfl, .inl ⟨xs, SqL.of ea, q.length.symm⟩, k _ _ _ (Ex.refl _ _) r (by rw [RV])⟩
def absD : List D → M D
  | [.int i] => pure (.int (if i < 0 then -i else i))
  | _ => M.bad
theorem cm_abs : CallM (tx X) (fun xs H Q => ∃ i, xs = [.int i] ∧ Q (.int (if i < 0 then -i else i)) H) absD := by
  intro ι H h xs ds d h1 Q r q e k
  unfold absD at e
  split at e
  · rename_i i
    obtain ⟨x, ex, q1⟩ := RVs1 q
    rw [RV] at q1
    subst ex q1
    exact ⟨i, rfl, fin0 r e (by rw [RV]) k⟩
  · cases e
def intD : List D → M D
  | [.int i] => pure (.int i)
  | [.bl b] => pure (.int (if b then 1 else 0))
  | _ => M.bad
theorem cm_int : CallM (tx X) (fun xs H Q => (∃ i, xs = [.int i] ∧ Q (.int i) H) ∨ ∃ k, xs = [.bl k] ∧ Q (.int (if k then 1 else 0)) H) intD := by
  intro ι H h xs ds d h1 Q r q e k
  unfold intD at e
  split at e
  · rename_i i
    obtain ⟨x, ex, q1⟩ := RVs1 q
    rw [RV] at q1
    subst ex q1
    exact .inl ⟨i, rfl, fin0 r e (by rw [RV]) k⟩
  · rename_i b
    obtain ⟨x, ex, q1⟩ := RVs1 q
    rw [RV] at q1
    subst ex q1
    exact .inr ⟨b, rfl, fin0 r e (by rw [RV]) k⟩
  · cases e
def min2D : List D → M D
  | [.int i, .int j] => pure (.int (if j < i then j else i))
  | _ => M.bad
def max2D : List D → M D
  | [.int i, .int j] => pure (.int (if j > i then j else i))
  | _ => M.bad
theorem cm_min2 : CallM (tx X) (fun xs H Q => ∃ i j, xs = [.int i, .int j] ∧ Q (.int (if j < i then j else i)) H) min2D := by
  intro ι H h xs ds d h1 Q r q e k
  unfold min2D at e
  split at e
  · rename_i i j
    obtain ⟨x, y, ex, q1, q2⟩ := RVs2 q
    rw [RV] at q1 q2
    subst ex q1 q2
    exact ⟨i, j, rfl, fin0 r e (by rw [RV]) k⟩
  · cases e
theorem cm_max2 : CallM (tx X) (fun xs H Q => ∃ i j, xs = [.int i, .int j] ∧ Q (.int (if j > i then j else i)) H) max2D := by
  intro ι H h xs ds d h1 Q r q e k
  unfold max2D at e
  split at e
  · rename_i i j
    obtain ⟨x, y, ex, q1, q2⟩ := RVs2 q
    rw [RV] at q1 q2
    subst ex q1 q2
    exact ⟨i, j, rfl, fin0 r e (by rw [RV]) k⟩
  · cases e
/-- the truth values of a list -/
def blsD : List D → Option (List Bool)
  | [] => some []
  | .bl b :: r => (blsD r).map (b :: ·)
  | _ => none
theorem bls_of {T : Tx} {ι : List Addr} {H : Hp} : ∀ {ds : List D} {bs : List Bool} {xs : List V}, blsD ds = some bs → RVs T ι H ds xs → xs = bs.map V.bl
  | [], bs, xs, e, q => by cases e; rw [RVs] at q; exact q
  | d :: ds, bs, xs, e, q => by
    cases d with
    | bl b =>
      have e : (blsD ds).map (b :: ·) = some bs := e
      obtain ⟨cs, e1, e2⟩ := Option.map_eq_some_iff.mp e
      subst e2
      rw [RVs] at q
      obtain ⟨x, s, ex, q1, q2⟩ := q
      rw [RV] at q1
      rw [ex, q1, bls_of e1 q2]
      rfl
    | _ => cases e
def anyL : List D → M D := fun ds => match blsD ds with
  | some bs => pure (.bl (bs.any id))
  | none => M.bad
def allL : List D → M D := fun ds => match blsD ds with
  | some bs => pure (.bl (bs.all id))
  | none => M.bad
theorem cl_any : CallL (tx X) (rAny X.K) anyL := by
  intro ι H h a xs ds d h1 Q r na ea q e k
  unfold anyL at e
  cases q1 : blsD ds with
  | none => rw [q1] at e; cases e
  | some bs =>
    rw [q1] at e
    exact ⟨a, bs, rfl, SqL.of (by rw [ea, bls_of q1 q]), fin0 r e (by rw [RV]) k⟩
theorem cl_all : CallL (tx X) (rAll X.K) allL := by
  intro ι H h a xs ds d h1 Q r na ea q e k
  unfold allL at e
  cases q1 : blsD ds with
  | none => rw [q1] at e; cases e
  | some bs =>
    rw [q1] at e
    exact ⟨a, bs, rfl, SqL.of (by rw [ea, bls_of q1 q]), fin0 r e (by rw [RV]) k⟩
def tupL : List D → M D := fun ds => pure (.tup ds)
abbrev rTupOf (K : PySem.W.Frag) : List V → Hp → VK → Prop := fun xs H Q => ∃ p ys, xs = [.ref p] ∧ ((SqL K H p ys ∧ ∀ l, H l = none → Q (.ref l) (upd H l (.tup ys))) ∨ (SqT K H p ys ∧ Q (.ref p) H))
theorem cl_tup : CallL (tx X) (rTupOf X.K) tupL := by
  intro ι H h a xs ds d h1 Q r na ea q e k
  obtain ⟨e1, e2⟩ := pure_some e
  subst e1 e2
  refine ⟨a, xs, rfl, .inl ⟨SqL.of ea, fun l hl => ?_⟩⟩
  obtain ⟨x3, r3, q3⟩ := new_tup r hl q
  exact k _ _ _ x3 r3 q3
/-- tuple(d) of a value -/
def tupD : List D → M D := fun ds h => match ds with
  | [.tup xs] => some (.tup xs, h)
  | [.fro xs] => some (.tup xs, h)
  | [.ref k] => match h[k]? with
    | some (.lst xs) => some (.tup xs, h)
    | _ => none
  | _ => none
theorem cm_tup : CallM (tx X) (rTupOf X.K) tupD := by
  intro ι H h xs ds d h1 Q r q e k
  unfold tupD at e
  split at e
  · rename_i ys
    obtain ⟨x, ex, q1⟩ := RVs1 q
    have q0 := q1
    rw [RV] at q1
    obtain ⟨a, zs, ea, s, q2⟩ := q1
    obtain ⟨e1, e2⟩ := some_pair e
    subst e1 e2
    subst ex ea
    exact ⟨a, zs, rfl, .inr ⟨s, k _ _ _ (Ex.refl _ _) r q0⟩⟩
  · rename_i ys
    obtain ⟨x, ex, q1⟩ := RVs1 q
    rw [RV] at q1
    obtain ⟨a, zs, ea, s, q2⟩ := q1
    obtain ⟨e1, e2⟩ := some_pair e
    subst e1 e2
    subst ex ea
    refine ⟨a, zs, rfl, .inl ⟨s.sq, fun l hl => ?_⟩⟩
    obtain ⟨x3, r3, q3⟩ := new_tup r hl q2
    exact k _ _ _ x3 r3 q3
  · rename_i kk
    obtain ⟨x, ex, q1⟩ := RVs1 q
    rw [RV] at q1
    obtain ⟨a, ha, ea⟩ := q1
    subst ex ea
    cases q2 : h[kk]? with
    | none => rw [q2] at e; cases e
    | some o =>
      rw [q2] at e
      cases o with
      | lst ys =>
        obtain ⟨zs, hz, qs⟩ := r.obj kk a _ ha q2
        obtain ⟨e1, e2⟩ := some_pair e
        subst e1 e2
        refine ⟨a, zs, rfl, .inl ⟨SqL.of hz, fun l hl => ?_⟩⟩
        obtain ⟨x3, r3, q3⟩ := new_tup r hl qs
        exact k _ _ _ x3 r3 q3
      | _ => cases e
  · cases e

/-! ### subscripts -/
theorem at_rv {T : Tx} {ι : List Addr} {H : Hp} {ds : List D} {xs : List V} {i : Int} {d : D} (q : RVs T ι H ds xs) (e : atI ds i = some d) : ∃ x, atI xs i = some x ∧ RV T ι H d x := by
  unfold atI at e ⊢
  rw [q.length]
  obtain ⟨j, e1, e2⟩ := Option.bind_eq_some_iff.mp e
  obtain ⟨x, ex, qx⟩ := q.get e2
  exact ⟨x, by rw [e1]; exact ex, qx⟩
def getK (kvs : List (D × D)) (k : D) : Option D := (kvs.find? fun p => decide (p.1 = k)).map (·.2)
theorem kD_inj {a b : D} {k : Key} (ha : kD a = some k) (hb : kD b = some k) : a = b := by
  cases a <;> cases b <;> simp_all [kD]
  all_goals (cases ha; cases hb; try rfl)
theorem kD_V {T : Tx} {ι : List Addr} {H : Hp} {a : D} {k : Key} {v : V} (ha : kD a = some k) (q : RV T ι H a v) : v = kV k := by
  cases a with
  | int i => cases ha; rw [RV] at q; exact q
  | str x => cases ha; rw [RV] at q; exact q
  | _ => cases ha
theorem getK_rv {T : Tx} {ι : List Addr} {H : Hp} {key : D} {k : Key} (hk : kD key = some k) : ∀ {kvs : List (D × D)} {ks : List (Key × V)}, KRs T ι H kvs ks → (∀ d, getK kvs key = some d → ∃ v, valV ks k = some v ∧ RV T ι H d v) ∧ (getK kvs key = none → valV ks k = none)
  | [], ks, r => by
    have e : ks = [] := r
    subst e
    exact ⟨fun d h => by simp [getK] at h, fun _ => rfl⟩
  | p :: kvs, ks, r => by
    obtain ⟨k', v, s, e, ek, qv, q⟩ := r
    subst e
    have ih := getK_rv hk q
    by_cases hp : p.1 = key
    · have hkk : k' = k := by rw [hp, hk] at ek; exact (Option.some.inj ek).symm
      refine ⟨fun d h => ?_, fun h => ?_⟩
      · have : getK (p :: kvs) key = some p.2 := by simp [getK, List.find?_cons, hp]
        rw [this] at h
        cases h
        exact ⟨v, valV_pos hkk, qv⟩
      · simp [getK, List.find?_cons, hp] at h
    · have hkk : ¬ k' = k := fun z => hp (kD_inj (by rw [ek, z]) hk)
      have e1 : getK (p :: kvs) key = getK kvs key := by simp [getK, List.find?_cons, hp]
      rw [e1, valV_neg hkk]
      exact ih
def ixD : D → D → M D := fun a b h => match a, b with
  | .tup ds, .int i => (atI ds i).map fun d => (d, h)
  | .fro ds, .int i => (atI ds i).map fun d => (d, h)
  | .str z, .int i => if z.length ≤ sizeLine then (atI z.cps.toList i).map fun c => (.str ⟨#[c]⟩, h) else none
  | .ref k, b => match h[k]? with
    | some (.lst ds) => (match b with
      | .int i => (atI ds i).map fun d => (d, h)
      | _ => none)
    | some (.dic kvs) => if (kD b).isSome then (getK kvs b).map fun d => (d, h) else none
    | _ => none
  | _, _ => none
def rDGet : R2 := fun x y H Q => ∃ a v, x = .ref a ∧ DGet H a y (some v) ∧ Q v H
theorem ix_dict (hu : X.A.units + 1 < cLine) : IxR X rDGet := by
  intro value slice pins s σ H x y v u Q I rx ry h hs
  obtain ⟨a, w, rfl, g, q⟩ := h
  cases rx
  exact PyProof.Rows.tail_any (dict_typeIs I g) PySem.F.slot_dict_getitem.lookup (d_getItem hu I g ry fun w' s3 I3 rw' => ⟨w, H, I3, rw', q⟩) hs
def rIxA (X : Cx) : R2 := fun x y H Q => rIx X.K x y H Q ∨ rDGet x y H Q
theorem x_ix (hu : X.A.units + 1 < cLine) : IxR X (rIxA X) := ix_seq.or (ix_dict hu)
theorem map_pair {α : Type} {o : Option α} {β : Type} {f : α → β} {h : Hm} {b : β} {h1 : Hm} (e : o.map (fun d => (f d, h)) = some (b, h1)) : ∃ d, o = some d ∧ f d = b ∧ h = h1 := by
  obtain ⟨d, e1, e2⟩ := Option.map_eq_some_iff.mp e
  injection e2 with e3 e4
  exact ⟨d, e1, e3, e4⟩
theorem o2_ix : Op2 (tx X) (rIxA X) ixD := by
  intro ι H h x y a b d h1 Q r qa qb e k
  cases a with
  | tup ds =>
    cases b with
    | int i =>
      obtain ⟨d', e1, e2, e3⟩ := map_pair (f := fun d => d) (o := atI ds i) e
      subst e2 e3
      rw [RV] at qa; rw [RV] at qb
      obtain ⟨p, xs, ep, s, q⟩ := qa
      obtain ⟨v, ev, qv⟩ := at_rv q e1
      exact .inl (.inr (.inl ⟨p, xs, i, v, ep, qb, s, ev, k _ _ _ (Ex.refl _ _) r qv⟩))
    | _ => cases e
  | fro ds =>
    cases b with
    | int i =>
      obtain ⟨d', e1, e2, e3⟩ := map_pair (f := fun d => d) (o := atI ds i) e
      subst e2 e3
      rw [RV] at qa; rw [RV] at qb
      obtain ⟨p, xs, ep, s, q⟩ := qa
      obtain ⟨v, ev, qv⟩ := at_rv q e1
      exact .inl (.inl ⟨p, xs, i, v, ep, qb, s.sq, ev, k _ _ _ (Ex.refl _ _) r qv⟩)
    | _ => cases e
  | str z =>
    cases b with
    | int i =>
      have e : (if z.length ≤ sizeLine then (atI z.cps.toList i).map fun c => (D.str ⟨#[c]⟩, h) else none) = some (d, h1) := e
      by_cases hz : z.length ≤ sizeLine
      · rw [if_pos hz] at e
        obtain ⟨c, e1, e2, e3⟩ := map_pair (f := fun c => D.str ⟨#[c]⟩) e
        subst e2 e3
        rw [RV] at qa; rw [RV] at qb
        exact .inl (.inr (.inr ⟨z, i, c, qa, qb, hz, e1, k _ _ _ (Ex.refl _ _) r (by rw [RV])⟩))
      · rw [if_neg hz] at e; cases e
    | _ => cases e
  | ref kk =>
    rw [RV] at qa
    obtain ⟨p, hp, ep⟩ := qa
    unfold ixD at e
    dsimp only at e
    cases q2 : h[kk]? with
    | none => rw [q2] at e; cases e
    | some o =>
      rw [q2] at e
      cases o with
      | lst ds =>
        obtain ⟨xs, hx, q⟩ := r.obj kk p _ hp q2
        cases b with
        | int i =>
          obtain ⟨d', e1, e2, e3⟩ := map_pair (f := fun d => d) (o := atI ds i) e
          subst e2 e3
          rw [RV] at qb
          obtain ⟨v, ev, qv⟩ := at_rv q e1
          exact .inl (.inl ⟨p, xs, i, v, ep, qb, SqL.of hx, ev, k _ _ _ (Ex.refl _ _) r qv⟩)
        | _ => cases e
      | dic kvs =>
        obtain ⟨ks, hx, q⟩ := r.obj kk p _ hp q2
        have e : (if (kD b).isSome = true then (getK kvs b).map fun d => (d, h) else none) = some (d, h1) := e
        by_cases hk : (kD b).isSome = true
        · rw [if_pos hk] at e
          obtain ⟨key, ek⟩ := Option.isSome_iff_exists.mp hk
          obtain ⟨d', e1, e2, e3⟩ := map_pair (f := fun d => d) e
          subst e2 e3
          obtain ⟨v, ev, qv⟩ := (getK_rv ek q).1 d' e1
          refine .inr ⟨p, v, ep, ?_, k _ _ _ (Ex.refl _ _) r qv⟩
          rw [kD_V ek qb, ← ev]
          exact DGet.k hx
        · rw [if_neg hk] at e; cases e
      | ins c fs => cases e
  | _ => cases e
end
end ML

set_option Elab.async false
set_option linter.all false
set_option maxRecDepth 100000
namespace ML
open PySem L2
/-! ### slices -/
def lfO (T : Tx) (m : Sm → M (Option Int)) : TO := fun σ H Q => ∃ ι σm h o h1, Rl T ι H h ∧ RS T ι H σm σ ∧ m σm h = some (o, h1) ∧
  ∀ ι1 H1, Ex ι H ι1 H1 → Rl T ι1 H1 h1 → Q o H1
theorem _root_.L2.PO.imp {X : Cx} {e : Option Expr} {t t' : TO} (h : PO X e t) (i : ∀ σ H Q, t' σ H Q → t σ H Q) : PO X e t' := ⟨fun pins s σ H Q I q => h.run pins s σ H Q I (i _ _ _ q)⟩
def noP : Sm → M (Option Int) := fun _ => pure none
def someP (m : Sm → M D) : Sm → M (Option Int) := fun σ => m σ >>= fun d => match d with
  | .int i => pure (some i)
  | _ => M.bad
theorem lfO_then {T : Tx} {ι : List Addr} {H : Hp} {h h1 : Hm} {σm : Sm} {σ : St} {β : Type} {b : β} {P : List Addr → Hp → Prop} {ma : Sm → M (Option Int)} {k : Option Int → M β} {R : Option Int → Hp → Prop} (r : Rl T ι H h) (rs : RS T ι H σm σ) (e : (ma σm >>= k) h = some (b, h1)) (fin : ∀ ι2 H2, Ex ι H ι2 H2 → P ι2 H2)
    (next : ∀ ι1 H1 d h', Ex ι H ι1 H1 → Rl T ι1 H1 h' → RS T ι1 H1 σm σ → k d h' = some (b, h1) → (∀ ι2 H2, Ex ι1 H1 ι2 H2 → P ι2 H2) → R d H1) : lfO T ma σ H R := by
  obtain ⟨d, h', e1, e2⟩ := bind_some e
  exact ⟨ι, σm, h, d, h', r, rs, e1, fun ι1 H1 x r1 => next ι1 H1 d h' x r1 (rs.up (x.up r)) e2 fun ι2 H2 y => fin ι2 H2 (x.trans r1 y)⟩
def cutL {α : Type} (xs : List α) (lo hi : Option Int) : List α := (xs.drop (HT.sIx xs.length 0 lo)).take (HT.sIx xs.length xs.length hi - HT.sIx xs.length 0 lo)
theorem RVs.drop {T : Tx} {ι : List Addr} {H : Hp} : ∀ {ds : List D} {xs : List V} (n : Nat), RVs T ι H ds xs → RVs T ι H (ds.drop n) (xs.drop n)
  | ds, xs, 0, r => r
  | [], xs, n + 1, r => by rw [RVs] at r; rw [r]; show RVs T ι H [] []; rw [RVs]
  | d :: ds, xs, n + 1, r => by
    rw [RVs] at r
    obtain ⟨x, s, e, _, q⟩ := r
    rw [e]
    exact RVs.drop n q
theorem RVs.take {T : Tx} {ι : List Addr} {H : Hp} : ∀ {ds : List D} {xs : List V} (n : Nat), RVs T ι H ds xs → RVs T ι H (ds.take n) (xs.take n)
  | ds, xs, 0, r => by show RVs T ι H [] []; rw [RVs]
  | [], xs, n + 1, r => by rw [RVs] at r; rw [r]; show RVs T ι H [] []; rw [RVs]
  | d :: ds, xs, n + 1, r => by
    rw [RVs] at r
    obtain ⟨x, s, e, q1, q⟩ := r
    rw [e]
    show RVs T ι H (d :: ds.take n) (x :: s.take n)
    rw [RVs]
    exact ⟨x, s.take n, rfl, q1, RVs.take n q⟩
theorem RVs.cut {T : Tx} {ι : List Addr} {H : Hp} {ds : List D} {xs : List V} (r : RVs T ι H ds xs) (lo hi : Option Int) : RVs T ι H (cutL ds lo hi) (cutV xs lo hi) := by
  unfold cutL cutV
  rw [r.length]
  exact RVs.take _ (RVs.drop _ r)
def sliceM (g : D → Option Int → Option Int → M D) (m : Sm → M D) (lo hi : Sm → M (Option Int)) : Sm → M D := fun σ => m σ >>= fun d => lo σ >>= fun a => hi σ >>= fun b => g d a b
def sliceL (m : Sm → M D) (lo hi : Sm → M (Option Int)) : Sm → M (List D) := fun σ => m σ >>= fun d => lo σ >>= fun a => hi σ >>= fun b => fun h => match d with
  | .ref k => (match h[k]? with
    | some (.lst xs) => some (cutL xs a b, h)
    | _ => none)
  | .fro xs => some (cutL xs a b, h)
  | _ => none
def cutT : D → Option Int → Option Int → M D := fun d a b => match d with
  | .tup xs => pure (.tup (cutL xs a b))
  | _ => M.bad
section
variable {X : Cx} {e : Expr} {m : Sm → M D} {pos p2 : Pos}
theorem o_none : PO X none (lfO (tx X) noP) := po_none.imp fun σ H Q q => by
  obtain ⟨ι, σm, h, o, h1, r, rs, e, k⟩ := q
  obtain ⟨e1, e2⟩ := pure_some e
  subst e1 e2
  exact k _ _ (Ex.refl _ _) r
theorem o_some (he : PE X e (lf (tx X) m)) : PO X (some e) (lfO (tx X) (someP m)) := (po_some he).imp fun σ H Q q => by
  obtain ⟨ι, σm, h, o, h1, r, rs, e, k⟩ := q
  refine lf_then r rs e (P := fun ι2 H2 => Rl (tx X) ι2 H2 h1 → Q o H2) k fun ι1 H1 x d h' x1 r1 rs1 q1 e1 k1 => ?_
  cases d with
  | int i =>
    obtain ⟨e2, e3⟩ := pure_some e1
    subst e2 e3
    rw [RV] at q1
    exact ⟨i, q1, k1 _ _ (Ex.refl _ _) r1⟩
  | _ => cases e1
def SlM (T : Tx) (r : V → Option Int → Option Int → Hp → VK → Prop) (g : D → Option Int → Option Int → M D) : Prop := ∀ (ι : List Addr) (H : Hp) (h : Hm) (x : V) (a d : D) (lo hi : Option Int) (h1 : Hm) (Q : VK), Rl T ι H h → RV T ι H a x → g a lo hi h = some (d, h1) →
  (∀ ι1 H1 v, Ex ι H ι1 H1 → Rl T ι1 H1 h1 → RV T ι1 H1 d v → Q v H1) → r x lo hi H Q
theorem m_slice {r : V → Option Int → Option Int → Hp → VK → Prop} {g : D → Option Int → Option Int → M D} {lo hi : Option Expr} {ml mh : Sm → M (Option Int)} (hr : SlR X r) (hg : SlM (tx X) r g) (he : PE X e (lf (tx X) m)) (hl : PO X lo (lfO (tx X) ml)) (hu : PO X hi (lfO (tx X) mh)) :
    PE X (.Subscript e (.Slice lo hi none p2) pos) (lf (tx X) (sliceM g m ml mh)) := (pe_slice hr he hl hu).imp fun σ H Q q => by
  obtain ⟨ι, σm, h, d, h1, r, rs, e, k⟩ := q
  refine lf_then r rs e (P := fun ι2 H2 => ∀ v, Rl (tx X) ι2 H2 h1 → RV (tx X) ι2 H2 d v → Q v H2) (fun ι2 H2 y v => k ι2 H2 v y) fun ι1 H1 x da h' x1 r1 rs1 q1 e1 k1 => ?_
  refine lfO_then r1 rs1 e1 k1 fun ι2 H2 lo' h'' x2 r2 rs2 e2 k2 => ?_
  refine lfO_then r2 rs2 e2 k2 fun ι3 H3 hi' h3 x3 r3 rs3 e3 k3 => ?_
  exact hg ι3 H3 h3 x da d lo' hi' h1 Q r3 (RV.up (x3.up r2) _ _ (RV.up (x2.up r1) _ _ q1)) e3 fun ι4 H4 v x4 => k3 ι4 H4 x4 v
theorem sm_tup : SlM (tx X) (rSlA X.K) cutT := by
  intro ι H h x a d lo hi h1 Q r qa e k
  cases a with
  | tup ds =>
    obtain ⟨e1, e2⟩ := pure_some e
    subst e1 e2
    rw [RV] at qa
    obtain ⟨p, xs, ep, s, q⟩ := qa
    refine ⟨p, xs, ep, s, fun hw => ?_, fun _ p2 hp2 => ?_⟩
    · refine k _ _ _ (Ex.refl _ _) r ?_
      rw [RV]
      have ew : cutL ds lo hi = ds := by
        rw [q.length] at hw
        unfold cutL
        rw [hw.1, hw.2, List.drop_zero, Nat.sub_zero, List.take_length]
      rw [ew]
      exact ⟨p, xs, rfl, s, q⟩
    · obtain ⟨x3, r3, q3⟩ := new_tup r hp2 (q.cut lo hi)
      exact k _ _ _ x3 r3 q3
  | _ => cases e
theorem l_slice {lo hi : Option Expr} {ml mh : Sm → M (Option Int)} (he : PE X e (lf (tx X) m)) (hl : PO X lo (lfO (tx X) ml)) (hu : PO X hi (lfO (tx X) mh)) :
    PE X (.Subscript e (.Slice lo hi none p2) pos) (lfL (tx X) (sliceL m ml mh)) := (pe_slice sl_list he hl hu).imp fun σ H Q q => by
  obtain ⟨ι, σm, h, d, h1, r, rs, e, k⟩ := q
  refine lf_then r rs e (P := fun ι2 H2 => ∀ a xs, Rl (tx X) ι2 H2 h1 → H a = none → a ∉ ι2 → H2 a = some (.lst xs) → RVs (tx X) ι2 H2 d xs → Q (.ref a) H2) (fun ι2 H2 y a xs => k ι2 H2 a xs y) fun ι1 H1 x da h' x1 r1 rs1 q1 e1 k1 => ?_
  refine lfO_then r1 rs1 e1 k1 fun ι2 H2 lo' h'' x2 r2 rs2 e2 k2 => ?_
  refine lfO_then r2 rs2 e2 k2 fun ι3 H3 hi' h3 x3 r3 rs3 e3 k3 => ?_
  have q3 := RV.up (x3.up r2) _ _ (RV.up (x2.up r1) _ _ q1)
  have fin : ∀ {p : Addr} {ds : List D} {xs : List V}, SqL X.K H3 p xs → x = .ref p → RVs (tx X) ι3 H3 ds xs → d = cutL ds lo' hi' → h1 = h3 → rSlL X.K x lo' hi' H3 Q := fun {p ds xs} hs ex q ed eh => by
    subst ed eh
    refine ⟨p, xs, ex, hs, fun p2 hp2 => ?_⟩
    obtain ⟨x4, r4⟩ := r3.other (u := .lst (cutV xs lo' hi')) hp2
    have x03 := (x1.trans r1 x2).trans r2 x3
    have np : p2 ∉ ι3 := fun mm => by
      obtain ⟨u', e', _⟩ := r3.at mm
      rw [hp2] at e'; cases e'
    have hH : H p2 = none := by
      cases q5 : H p2 with
      | none => rfl
      | some o =>
        by_cases hi : p2 ∈ ι
        · obtain ⟨s, es', _⟩ := x03.pre
          exact absurd (by rw [es']; exact List.mem_append_left _ hi) np
        · have := x03.fr p2 o q5 hi
          rw [hp2] at this; cases this
    exact k3 _ _ x4 _ _ r4 hH np upd_same (RVs.up (x4.up r3) _ _ (q.cut lo' hi'))
  cases da with
  | fro ds =>
    obtain ⟨e4, e5⟩ := some_pair e3
    rw [RV] at q3
    obtain ⟨p, xs, ep, s, q⟩ := q3
    exact fin s.sq ep q e4.symm e5.symm
  | ref kk =>
    rw [RV] at q3
    obtain ⟨p, hp, ep⟩ := q3
    have e3 : (match h3[kk]? with | some (.lst xs) => some (cutL xs lo' hi', h3) | _ => none) = some (d, h1) := e3
    cases q2 : h3[kk]? with
    | none => rw [q2] at e3; cases e3
    | some o =>
      rw [q2] at e3
      cases o with
      | lst ds =>
        obtain ⟨e4, e5⟩ := some_pair e3
        obtain ⟨xs, hx, q⟩ := r3.obj kk p _ hp q2
        exact fin (SqL.of hx) ep q e4.symm e5.symm
      | _ => cases e3
  | _ => cases e3

/-! ### stores -/
def putKD (kvs : List (D × D)) (k v : D) : List (D × D) := if (kvs.any fun p => decide (p.1 = k)) = true then kvs.map (fun p => if p.1 = k then (p.1, v) else p) else kvs ++ [(k, v)]
def storeD (o i v : D) : Hm → Option Hm := fun h => match o with
  | .ref k => (match h[k]? with
    | some (.lst xs) => (match i with
      | .int j => (ixN xs.length j).map fun n => h.set k (.lst (xs.set n v))
      | _ => none)
    | some (.dic kvs) => if (kD i).isSome ∧ kvs.length < sizeLine then some (h.set k (.dic (putKD kvs i v))) else none
    | _ => none)
  | _ => none
theorem KRs.any {T : Tx} {ι : List Addr} {H : Hp} {key : D} {k : Key} (hk : kD key = some k) : ∀ {kvs : List (D × D)} {ks : List (Key × V)}, KRs T ι H kvs ks → (kvs.any fun p => decide (p.1 = key)) = ks.any fun p => decide (p.1 = k)
  | [], ks, r => by have e : ks = [] := r; rw [e]; rfl
  | p :: kvs, ks, r => by
    obtain ⟨k', v, s, e, ek, qv, q⟩ := r
    rw [e, List.any_cons, List.any_cons, KRs.any hk q]
    congr 1
    by_cases hp : p.1 = key
    · have : k' = k := by rw [hp, hk] at ek; exact (Option.some.inj ek).symm
      rw [decide_eq_true hp, decide_eq_true this]
    · have : ¬ k' = k := fun z => hp (kD_inj (by rw [ek, z]) hk)
      rw [decide_eq_false hp, decide_eq_false this]
theorem KRs.repl {T : Tx} {ι : List Addr} {H : Hp} {key d : D} {k : Key} {w : V} (hk : kD key = some k) (qw : RV T ι H d w) : ∀ {kvs : List (D × D)} {ks : List (Key × V)}, KRs T ι H kvs ks → KRs T ι H (kvs.map fun p => if p.1 = key then (p.1, d) else p) (ks.map fun p => if p.1 = k then (p.1, w) else p)
  | [], ks, r => by have e : ks = [] := r; rw [e]; exact rfl
  | p :: kvs, ks, r => by
    obtain ⟨k', v, s, e, ek, qv, q⟩ := r
    rw [e, List.map_cons, List.map_cons]
    have ih := KRs.repl hk qw q
    by_cases hp : p.1 = key
    · have : k' = k := by rw [hp, hk] at ek; exact (Option.some.inj ek).symm
      rw [if_pos hp, if_pos this]
      exact ⟨k', w, _, rfl, ek, qw, ih⟩
    · have : ¬ k' = k := fun z => hp (kD_inj (by rw [ek, z]) hk)
      rw [if_neg hp, if_neg this]
      exact ⟨k', v, _, rfl, ek, qv, ih⟩
theorem KRs.snoc {T : Tx} {ι : List Addr} {H : Hp} {key d : D} {k : Key} {w : V} (hk : kD key = some k) (qw : RV T ι H d w) : ∀ {kvs : List (D × D)} {ks : List (Key × V)}, KRs T ι H kvs ks → KRs T ι H (kvs ++ [(key, d)]) (ks ++ [(k, w)])
  | [], ks, r => by have e : ks = [] := r; rw [e]; exact ⟨k, w, [], rfl, hk, qw, rfl⟩
  | p :: kvs, ks, r => by
    obtain ⟨k', v, s, e, ek, qv, q⟩ := r
    rw [e]
    exact ⟨k', v, s ++ [(k, w)], rfl, ek, qv, KRs.snoc hk qw q⟩
theorem KRs.put {T : Tx} {ι : List Addr} {H : Hp} {key d : D} {k : Key} {w : V} (hk : kD key = some k) (qw : RV T ι H d w) {kvs : List (D × D)} {ks : List (Key × V)} (q : KRs T ι H kvs ks) : KRs T ι H (putKD kvs key d) (putK ks k w) := by
  unfold putKD putK
  rw [q.any hk]
  split
  · exact q.repl hk qw
  · exact q.snoc hk qw
theorem RVs.set {T : Tx} {ι : List Addr} {H : Hp} {d : D} {w : V} (qw : RV T ι H d w) : ∀ {ds : List D} {xs : List V} (n : Nat), RVs T ι H ds xs → RVs T ι H (ds.set n d) (xs.set n w)
  | [], xs, n, r => by rw [RVs] at r; rw [r]; show RVs T ι H [] []; rw [RVs]
  | d' :: ds, xs, 0, r => by
    rw [RVs] at r
    obtain ⟨x, s, e, q1, q⟩ := r
    rw [e]
    show RVs T ι H (d :: ds) (w :: s)
    rw [RVs]
    exact ⟨w, s, rfl, qw, q⟩
  | d' :: ds, xs, n + 1, r => by
    rw [RVs] at r
    obtain ⟨x, s, e, q1, q⟩ := r
    rw [e]
    show RVs T ι H (d' :: ds.set n d) (x :: s.set n w)
    rw [RVs]
    exact ⟨x, _, rfl, q1, RVs.set qw n q⟩
def rSetA : TSet := fun o i v H Q => rSetL o i v H Q ∨ ∃ a H', o = .ref a ∧ DPut H a i v H' ∧ Q H'
theorem p_set (hu : X.A.units + 1 < cLine) : PSet X rSetA := by
  intro pins s σ H o i v ov iv u Q I ro ri rv h
  rcases h with h | ⟨a, H', rfl, g, q⟩
  · exact set_list pins s σ H o i v ov iv u Q I ro ri rv h
  · cases ro
    exact d_setItem hu I g ri rv fun s4 I4 => ⟨H', I4, q⟩
def subS (mv mo mi : Sm → M D) : Sm → M Fl := fun σ => mv σ >>= fun v => mo σ >>= fun o => mi σ >>= fun i => fun h => (storeD o i v h).map fun h1 => (.nx σ, h1)
variable {o i : Expr} {mv mo mi : Sm → M D} {tpos : Pos}
theorem s_sub (hu : X.A.units + 1 < cLine) (he : PE X e (lf (tx X) mv)) (ho : PE X o (lf (tx X) mo)) (hi : PE X i (lf (tx X) mi))
    (ha : ∀ v, assign (.Subscript o i tpos) X.env v = (do
      let ov ← holding [v] (eval o X.env)
      let iv ← holding [v, ov] (eval i X.env)
      standAt tpos
      holding [v, ov, iv] (setItem ov iv v)
      release [v, ov, iv] []) := by intro _; rfl)
    (hs : swapsWithSole [.Subscript o i tpos] e pos.line X.env = pure false := by rfl) (hw : swappedStores [.Subscript o i tpos] e X.env = pure none := by rfl)
    (h1 : (assignEach [.Subscript o i tpos] X.env).map (·.2) = [assign (.Subscript o i tpos) X.env] := by rfl) : PS X (.Assign [.Subscript o i tpos] e pos) (lfS (tx X) (subS mv mo mi)) :=
  (ps_asg he (pg_sub ho hi (p_set hu) ha) hs hw h1).imp fun D σ H q => by
  obtain ⟨ι, σm, h, f, h1, r, rs, e, k⟩ := q
  refine lf_then r rs e (P := fun ι2 H2 => Rl (tx X) ι2 H2 h1 → EndF (tx X) ι2 H2 D f) k fun ι1 H1 v dv h' x1 r1 rs1 q1 e1 k1 => ?_
  refine lf_then r1 rs1 e1 k1 fun ι2 H2 ov do' h2 x2 r2 rs2 q2 e2 k2 => ?_
  refine lf_then r2 rs2 e2 k2 fun ι3 H3 iv di h3 x3 r3 rs3 q3 e3 k3 => ?_
  obtain ⟨h4, e4, e5⟩ := Option.map_eq_some_iff.mp e3
  injection e5 with e6 e7
  subst e6 e7
  have qv := RV.up (x3.up r2) _ _ (RV.up (x2.up r1) _ _ q1)
  have qo := RV.up (x3.up r2) _ _ q2
  cases do' with
  | ref kk =>
    rw [RV] at qo
    obtain ⟨a, ha, ea⟩ := qo
    unfold storeD at e4
    dsimp only at e4
    cases q5 : h3[kk]? with
    | none => rw [q5] at e4; cases e4
    | some ob =>
      rw [q5] at e4
      cases ob with
      | lst xs =>
        obtain ⟨ys, hy, qs⟩ := r3.obj kk a _ ha q5
        cases di with
        | int j =>
          obtain ⟨n, en, e8⟩ := Option.map_eq_some_iff.mp (show (ixN xs.length j).map (fun n => h3.set kk (.lst (xs.set n dv))) = some h4 from e4)
          subst e8
          rw [RV] at q3
          refine .inl ⟨a, ys, j, n, ea, q3, hy, by rw [qs.length]; exact en, ?_⟩
          obtain ⟨x4, r4⟩ := r3.put (u := .lst (ys.set n v)) (o := .lst (xs.set n dv)) ha fun up => ⟨_, upd_same, RVs.up up _ _ (RVs.set qv n qs)⟩
          exact k3 _ _ x4 r4 σ (rs3.up (x4.up r3))
        | _ => cases e4
      | dic kvs =>
        obtain ⟨ks, hy, qs⟩ := r3.obj kk a _ ha q5
        have e4 : (if (kD di).isSome ∧ kvs.length < sizeLine then some (h3.set kk (.dic (putKD kvs di dv))) else none) = some h4 := e4
        by_cases hc : (kD di).isSome ∧ kvs.length < sizeLine
        · rw [if_pos hc] at e4
          cases e4
          obtain ⟨key, ek⟩ := Option.isSome_iff_exists.mp hc.1
          have ei := kD_V ek q3
          subst ei
          refine .inr ⟨a, _, ea, DPut.k hy (by rw [qs.length]; exact hc.2), ?_⟩
          obtain ⟨x4, r4⟩ := r3.put (u := .dK (putK ks key v)) (o := .dic (putKD kvs di dv)) ha fun up => ⟨_, upd_same, KRs.up up _ _ (KRs.put ek qv qs)⟩
          exact k3 _ _ x4 r4 σ (rs3.up (x4.up r3))
        · rw [if_neg hc] at e4; cases e4
      | ins c fs => cases e4
  | _ => cases e4

/-! ### dict displays -/
def pairsM : List ((Sm → M D) × (Sm → M D)) → Sm → M (List (D × D))
  | [], _ => pure []
  | (mk, mv) :: r, σ => mk σ >>= fun k => mv σ >>= fun v => pairsM r σ >>= fun ps => pure ((k, v) :: ps)
def mergeD (kvs : List (D × D)) : List (D × D) := kvs.foldl (fun acc p => putKD acc p.1 p.2) []
def dispM (l : List ((Sm → M D) × (Sm → M D))) : Sm → M D := fun σ => pairsM l σ >>= fun ps => fun h => if (ps.all fun p => (kD p.1).isSome) = true ∧ ps.length ≤ 15 then some (.ref h.length, h ++ [.dic (mergeD ps)]) else none
def lfPairs (T : Tx) : List ((Sm → M D) × (Sm → M D)) → List (TE × TE)
  | [] => []
  | (mk, mv) :: r => (lf T mk, lf T mv) :: lfPairs T r
def PRs (T : Tx) (ι : List Addr) (H : Hp) : List (D × D) → List (V × V) → Prop
  | [], xs => xs = []
  | p :: r, xs => ∃ k v s, xs = (k, v) :: s ∧ RV T ι H p.1 k ∧ RV T ι H p.2 v ∧ PRs T ι H r s
theorem PRs.up {T : Tx} {ι ι1 : List Addr} {H H1 : Hp} (u : Up T ι H ι1 H1) : ∀ (ds : List (D × D)) (ks : List (V × V)), PRs T ι H ds ks → PRs T ι1 H1 ds ks
  | [], _, r => r
  | p :: ds, ks, r => by
    obtain ⟨k, v, s, e, q1, q, t⟩ := r
    exact ⟨k, v, s, e, RV.up u _ _ q1, RV.up u _ _ q, PRs.up u ds s t⟩
theorem PRs.keys {T : Tx} {ι : List Addr} {H : Hp} : ∀ {ds : List (D × D)} {ps : List (V × V)}, PRs T ι H ds ps → (ds.all fun p => (kD p.1).isSome) = true → ∃ kvs : List (Key × V), ps = kvs.map (fun kv => (kV kv.1, kv.2)) ∧ KRs T ι H ds kvs ∧ kvs.length = ds.length
  | [], ps, r, _ => ⟨[], r, rfl, rfl⟩
  | p :: ds, ps, r, c => by
    obtain ⟨k, v, s, e, q1, q2, t⟩ := r
    rw [List.all_cons, Bool.and_eq_true] at c
    obtain ⟨kvs, e1, q, hl⟩ := PRs.keys t c.2
    obtain ⟨key, ek⟩ := Option.isSome_iff_exists.mp c.1
    exact ⟨(key, v) :: kvs, by rw [e, e1, kD_V ek q1]; rfl, ⟨key, v, kvs, rfl, ek, q2, q⟩, by rw [List.length_cons, List.length_cons, hl]⟩
theorem KRs.fold {T : Tx} {ι : List Addr} {H : Hp} : ∀ {ds : List (D × D)} {kvs : List (Key × V)} {acc : List (D × D)} {ac : List (Key × V)}, KRs T ι H ds kvs → KRs T ι H acc ac → KRs T ι H (ds.foldl (fun a p => putKD a p.1 p.2) acc) (kvs.foldl (fun a kv => putK a kv.1 kv.2) ac)
  | [], kvs, acc, ac, r, q => by have e : kvs = [] := r; rw [e]; exact q
  | p :: ds, kvs, acc, ac, r, q => by
    obtain ⟨k, v, s, e, ek, qv, t⟩ := r
    rw [e]
    show KRs T ι H (ds.foldl (fun a p => putKD a p.1 p.2) (putKD acc p.1 p.2)) (s.foldl (fun a kv => putK a kv.1 kv.2) (putK ac k v))
    exact KRs.fold t (KRs.put ek qv q)
theorem pairs_then {T : Tx} {σ : St} {β : Type} {b : β} {P : List Addr → Hp → Prop} {R : List (V × V) → Hp → Prop} : ∀ {l : List ((Sm → M D) × (Sm → M D))} {ι : List Addr} {H : Hp} {h h1 : Hm} {σm : Sm} {k : List (D × D) → M β}, Rl T ι H h → RS T ι H σm σ → (pairsM l σm >>= k) h = some (b, h1) → (∀ ι2 H2, Ex ι H ι2 H2 → P ι2 H2) →
    (∀ ι1 H1 xs ps h', Ex ι H ι1 H1 → Rl T ι1 H1 h' → PRs T ι1 H1 ps xs → k ps h' = some (b, h1) → (∀ ι2 H2, Ex ι1 H1 ι2 H2 → P ι2 H2) → R xs H1) → tPairs (lfPairs T l) σ H R
  | [], ι, H, h, h1, σm, k, r, rs, e, fin, next => next ι H [] [] h (Ex.refl _ _) r rfl e fin
  | (mk, mv) :: l, ι, H, h, h1, σm, k, r, rs, e, fin, next => by
    have e' : (mk σm >>= fun kk => mv σm >>= fun vv => pairsM l σm >>= fun ps => k ((kk, vv) :: ps)) h = some (b, h1) := by
      obtain ⟨ps, h', e1, e2⟩ := bind_some e
      obtain ⟨kk, ha, e3, e4⟩ := bind_some e1
      obtain ⟨vv, hb, e5, e6⟩ := bind_some e4
      obtain ⟨qs, hc, e7, e8⟩ := bind_some e6
      obtain ⟨e9, e10⟩ := pure_some e8
      subst e9 e10
      rw [bind_of e3, bind_of e5, bind_of e7]
      exact e2
    refine lf_then r rs e' fin fun ι1 H1 x dk h' x1 r1 rs1 q1 e1 k1 => ?_
    refine lf_then r1 rs1 e1 k1 fun ι2 H2 y dv h2 x2 r2 rs2 q2 e2 k2 => ?_
    refine pairs_then (P := P) r2 rs2 e2 k2 fun ι3 H3 xs ps h3 x3 r3 q3 e3 k3 => ?_
    exact next ι3 H3 ((x, y) :: xs) ((dk, dv) :: ps) h3 ((x1.trans r1 x2).trans r2 x3) r3 ⟨x, y, xs, rfl, RV.up (x3.up r2) _ _ (RV.up (x2.up r1) _ _ q1), RV.up (x3.up r2) _ _ q2, q3⟩ e3 k3
theorem m_disp {keys : List (Option Expr)} {values : List Expr} {l : List ((Sm → M D) × (Sm → M D))} (h : PPs X pos keys values (lfPairs (tx X) l)) (hall : keys.all (·.isSome) = true) (hl : keys.length = values.length) (h0 : keys ≠ []) (h15 : keys.length ≤ 15) : PE X (.Dict keys values pos) (lf (tx X) (dispM l)) :=
  (pe_disp h hall hl h0 h15).imp fun σ H Q q p hp => by
  obtain ⟨ι, σm, h, d, h1, r, rs, e, k⟩ := q
  obtain ⟨x0, r0⟩ := r.other (u := .dK []) hp
  have np : p ∉ ι := fun mm => by
    obtain ⟨u', e', _⟩ := r.at mm
    rw [hp] at e'; cases e'
  refine pairs_then (P := fun ι2 H2 => ∀ v, Ex ι H ι2 H2 → Rl (tx X) ι2 H2 h1 → RV (tx X) ι2 H2 d v → Q v H2) r0 (rs.up (x0.up r)) e (fun ι2 H2 y v z => k ι2 H2 v z) fun ι1 H1 xs ps h' x1 r1 q1 e1 k1 => ?_
  have hp1 : H1 p = some (.dK []) := x1.fr _ _ upd_same np
  have np1 : p ∉ ι1 := x1.not_new upd_same np
  have e1 : (if (ps.all fun p => (kD p.1).isSome) = true ∧ ps.length ≤ 15 then some (D.ref h'.length, h' ++ [O.dic (mergeD ps)]) else none) = some (d, h1) := e1
  by_cases hc : (ps.all fun p => (kD p.1).isSome) = true ∧ ps.length ≤ 15
  · rw [if_pos hc] at e1
    obtain ⟨e2, e3⟩ := some_pair e1
    subst e2 e3
    obtain ⟨kvs, ek, qk, hl⟩ := q1.keys hc.1
    refine ⟨hp1, kvs, ek, by omega, ?_⟩
    -- the dict at p is changed beside ours, then it is ours
    have up : Up (tx X) ι1 H1 ι1 (upd H1 p (.dK (mergeK [] kvs))) := by
      refine ⟨fun _ _ z => z, fun a ys s => ?_, fun a ys s => ?_⟩
      · rcases s with (s | ⟨o, s⟩) | s
        · exact .inl (.inl (by rw [upd_ne (fun z => by rw [z, hp1] at s; cases s)]; exact s))
        · exact .inl (.inr ⟨o, by rw [upd_ne (fun z => by rw [z, hp1] at s; cases s)]; exact s⟩)
        · exact .inr s
      · rcases s with ⟨o, s⟩ | s
        · exact .inl ⟨o, by rw [upd_ne (fun z => by rw [z, hp1] at s; cases s)]; exact s⟩
        · exact .inr s
    have r2 : Rl (tx X) ι1 (upd H1 p (.dK (mergeK [] kvs))) h' := ⟨r1.len, r1.nd, fun i a o e1 e2 => (r1.obj i a o e1 e2).up up (upd_ne fun z => np1 (z ▸ List.mem_of_getElem? e1))⟩
    have r3 := r2.own np1 _ upd_same trivial (o := .dic (mergeD ps)) fun up2 => ⟨_, upd_same, KRs.up up2 _ _ (KRs.up up _ _ (KRs.fold qk rfl))⟩
    have hpH : Ex ι H ι1 (upd H1 p (.dK (mergeK [] kvs))) := (x0.trans r0 x1).side hp
    refine k _ _ _ (hpH.own hp) r3 ?_
    rw [RV]
    exact ⟨p, by rw [← r1.len, List.getElem?_append_right (Nat.le_refl _), Nat.sub_self]; rfl, rfl⟩
  · rw [if_neg hc] at e1; cases e1
end
end ML

set_option Elab.async false
set_option linter.all false
set_option maxRecDepth 100000
set_option autoImplicit false
namespace ML
open PySem PySem.SeqAt PySem.W PyProof.Rows
/-! ### the order as rows of signs -/
mutual
theorem toks_of_eqv : ∀ (x y : PyData), PyData.eqv x y = true → x.canLay0 = true → y.canLay0 = true → keyToks x = keyToks y
  | .none, y, e, _, _ => by cases y <;> simp [PyData.eqv, keyToks] at e ⊢
  | .bool b, y, e, _, _ => by cases y <;> simp_all [PyData.eqv, keyToks]
  | .int i, y, e, _, _ => by cases y <;> simp_all [PyData.eqv, keyToks]
  | .str s, y, e, _, _ => by cases y <;> simp_all [PyData.eqv, keyToks]
  | .list xs, y, e, cx, cy => by
    cases y with
    | list ys => rw [keyToks, keyToks]; exact toksAll_of_eqv xs ys (by simpa [PyData.eqv] using e) (by simpa [PyData.canLay0] using cx) (by simpa [PyData.canLay0] using cy)
    | _ => simp [PyData.eqv] at e
  | .tuple xs, y, e, cx, cy => by
    cases y with
    | tuple ys => rw [keyToks, keyToks]; exact toksAll_of_eqv xs ys (by simpa [PyData.eqv] using e) (by simpa [PyData.canLay0] using cx) (by simpa [PyData.canLay0] using cy)
    | _ => simp [PyData.eqv] at e
  | .dict _, _, _, c, _ => by simp [PyData.canLay0] at c
theorem toksAll_of_eqv : ∀ (xs ys : List PyData), PyData.eqvAll xs ys = true → PyData.canLayAll0 xs = true → PyData.canLayAll0 ys = true → keyToksAll xs = keyToksAll ys
  | [], ys, e, _, _ => by cases ys <;> simp_all [PyData.eqvAll]
  | x :: xs, ys, e, cx, cy => by
    cases ys with
    | nil => simp [PyData.eqvAll] at e
    | cons y ys =>
      rw [eqv_all_cons, Bool.and_eq_true] at e
      have c1 : x.canLay0 = true ∧ PyData.canLayAll0 xs = true := by simpa [PyData.canLayAll0] using cx
      have c2 : y.canLay0 = true ∧ PyData.canLayAll0 ys = true := by simpa [PyData.canLayAll0] using cy
      rw [toks_all_cons, toks_all_cons, toks_of_eqv x y e.1 c1.1 c2.1, toksAll_of_eqv xs ys e.2 c1.2 c2.2]
end
mutual
theorem ltP_toks : ∀ (x y : PyData) (k : Bool), ltP x y = some k → PyData.eqv x y = false → x.canLay0 = true → y.canLay0 = true → ∀ l m : List (Int ⊕ List Nat), PyProof.Rows.lexLt itemOrd (keyToks x ++ l) (keyToks y ++ m) = k
  | .int i, y, k, h, e, _, _ => by
    cases y with
    | int j =>
      rw [ltP] at h
      cases h
      intro l m
      have ne : (Sum.inl i : Int ⊕ List Nat) ≠ Sum.inl j := fun z => by injection z with z; subst z; simp [PyData.eqv] at e
      show PyProof.Rows.lexLt itemOrd (Sum.inl i :: l) (Sum.inl j :: m) = _
      rw [lex_atom ne, lex_one]
      rfl
    | _ => simp [ltP] at h
  | .str s, y, k, h, e, _, _ => by
    cases y with
    | str t =>
      rw [ltP] at h
      cases h
      intro l m
      have ne : (Sum.inr s.cps.toList : Int ⊕ List Nat) ≠ Sum.inr t.cps.toList := fun z => by
        injection z with z
        have := str_of_cps z
        subst this; simp [PyData.eqv] at e
      show PyProof.Rows.lexLt itemOrd (Sum.inr s.cps.toList :: l) (Sum.inr t.cps.toList :: m) = _
      rw [lex_atom ne, lex_one]
      rfl
    | _ => simp [ltP] at h
  | .tuple xs, y, k, h, e, cx, cy => by
    cases y with
    | tuple ys =>
      rw [ltP] at h
      intro l m
      rw [keyToks, keyToks]
      exact ltPs_toks xs ys k h (by simpa [PyData.eqv] using e) (by simpa [PyData.canLay0] using cx) (by simpa [PyData.canLay0] using cy) l m
    | _ => simp [ltP] at h
  | .none, y, k, h, _, _, _ => by cases y <;> simp [ltP] at h
  | .bool _, y, k, h, _, _, _ => by cases y <;> simp [ltP] at h
  | .list _, y, k, h, _, _, _ => by cases y <;> simp [ltP] at h
  | .dict _, y, k, h, _, _, _ => by cases y <;> simp [ltP] at h
theorem ltPs_toks : ∀ (xs ys : List PyData) (k : Bool), ltPs xs ys = some k → PyData.eqvAll xs ys = false → PyData.canLayAll0 xs = true → PyData.canLayAll0 ys = true → ∀ l m : List (Int ⊕ List Nat), PyProof.Rows.lexLt itemOrd (keyToksAll xs ++ l) (keyToksAll ys ++ m) = k
  | [], [], k, h, e, _, _ => by simp [PyData.eqvAll] at e
  | [], y :: ys, k, h, e, _, _ => by
    rw [ltPs] at h
    cases h
    intro l m
    rw [toks_all_cons]
    show PyProof.Rows.lexLt itemOrd (Sum.inl 0 :: l) (Sum.inl 1 :: (keyToks y ++ keyToksAll ys ++ m)) = true
    rw [lex_atom (by simp), lex_one]
    rfl
  | x :: xs, [], k, h, e, _, _ => by
    rw [ltPs] at h
    cases h
    intro l m
    rw [toks_all_cons]
    show PyProof.Rows.lexLt itemOrd (Sum.inl 1 :: (keyToks x ++ keyToksAll xs ++ l)) (Sum.inl 0 :: m) = false
    rw [lex_atom (by simp), lex_one]
    rfl
  | x :: xs, y :: ys, k, h, e, cx, cy => by
    have c1 : x.canLay0 = true ∧ PyData.canLayAll0 xs = true := by simpa [PyData.canLayAll0] using cx
    have c2 : y.canLay0 = true ∧ PyData.canLayAll0 ys = true := by simpa [PyData.canLayAll0] using cy
    rw [ltPs] at h
    rw [eqv_all_cons] at e
    intro l m
    rw [toks_all_cons, toks_all_cons]
    show PyProof.Rows.lexLt itemOrd (Sum.inl 1 :: (keyToks x ++ keyToksAll xs ++ l)) (Sum.inl 1 :: (keyToks y ++ keyToksAll ys ++ m)) = k
    rw [PyProof.Rows.lex_self (O := itemOrd), List.append_assoc, List.append_assoc]
    by_cases q : PyData.eqv x y = true
    · rw [if_pos q] at h
      rw [q, Bool.true_and] at e
      rw [toks_of_eqv x y q c1.1 c2.1, lex_pre]
      exact ltPs_toks xs ys k h e c1.2 c2.2 l m
    · rw [if_neg q] at h
      exact ltP_toks x y k h (by simpa using q) c1.1 c2.1 _ _
end
theorem ltPs_eqv : ∀ (xs ys : List PyData), PyData.eqvAll xs ys = true → ltPs xs ys = some false
  | [], ys, e => by
    cases ys with
    | nil => rw [ltPs]
    | cons y ys => simp [PyData.eqvAll] at e
  | x :: xs, ys, e => by
    cases ys with
    | nil => simp [PyData.eqvAll] at e
    | cons y ys =>
      rw [eqv_all_cons, Bool.and_eq_true] at e
      rw [ltPs, if_pos e.1]
      exact ltPs_eqv xs ys e.2
/-- two rows that can be compared -/
theorem lt_tup_toks {xs ys : List PyData} {k : Bool} (h : ltPs xs ys = some k) (cx : PyData.canLayAll0 xs = true) (cy : PyData.canLayAll0 ys = true) : dataLt (.tuple xs) (.tuple ys) = k := by
  rw [dataLt_tuple]
  cases e : PyData.eqvAll xs ys with
  | true =>
    rw [ltPs_eqv xs ys e] at h
    cases h
    rw [toksAll_of_eqv xs ys e cx cy, PyProof.Rows.lex_irrefl]
  | false =>
    have q := ltPs_toks xs ys k h e cx cy [] []
    rw [List.append_nil, List.append_nil] at q
    exact q

/-! ### a sort's comparison of tuples whose first items are numbers -/
section
variable {prog : Program} {w : World} {A : Around} {s : Shared}
theorem katLex_P {b fin : Bool} {Q : Bool → Shared → Prop} : ∀ (xs ys : List PyData) (k : Bool) (i : Nat) (vs ws : List Value) (as bs : List Addr), ReadsAll s.heap vs xs as → ReadsAll s.heap ws ys bs → PyData.canLayAll0 xs = true → PyData.canLayAll0 ys = true → ltPs xs ys = some k →
    A.units + min (PyData.depthAll xs) (PyData.depthAll ys) < cLine → (i = 0 → (∃ n r, xs = .int n :: r) ∧ ∃ n r, ys = .int n :: r) → fin = decide (xs.length < ys.length) → Q k s → PySem.W.KatLex prog w A b fin Q (vs.zip ws) i s
  | [], [], k, i, _, _, _, _, ra, rb, _, _, h, _, _, hf, hq => by
    cases ra; cases rb
    rw [ltPs] at h; cases h
    exact PySem.W.kat_nil (by rw [hf]; exact hq)
  | [], y :: ys, k, i, _, _, _, _, ra, rb, _, _, h, _, _, hf, hq => by
    cases ra
    rw [ltPs] at h; cases h
    rw [List.zip_nil_left]
    exact PySem.W.kat_nil (by rw [hf]; simpa using hq)
  | x :: xs, [], k, i, _, _, _, _, ra, rb, _, _, h, _, _, hf, hq => by
    cases rb
    rw [ltPs] at h; cases h
    rw [List.zip_nil_right]
    exact PySem.W.kat_nil (by rw [hf]; simpa using hq)
  | x :: xs, y :: ys, k, i, _, _, _, _, ra, rb, cx, cy, h, hu, h0, hf, hq => by
    have c1 : x.canLay0 = true ∧ PyData.canLayAll0 xs = true := by simpa [PyData.canLayAll0] using cx
    have c2 : y.canLay0 = true ∧ PyData.canLayAll0 ys = true := by simpa [PyData.canLayAll0] using cy
    rw [ltPs] at h
    have hf' : fin = decide (xs.length < ys.length) := by rw [hf]; simp only [List.length_cons, Nat.add_lt_add_iff_right]
    cases ra with
    | cons r rs =>
      cases rb with
      | cons r' rs' =>
        rw [List.zip_cons_cons]
        refine PySem.W.kat_cons (eqAt_reads x y A s _ _ _ _ r r' c1.1 c2.1 (room_head hu) prog w _ _ ?_)
        cases e : PyData.eqv x y with
        | true =>
          rw [if_pos e] at h
          exact PySem.W.kat_yes (katLex_P xs ys k (i + 1) _ _ _ _ rs rs' c1.2 c2.2 h (room_tail hu) (fun z => absurd z (Nat.succ_ne_zero i)) hf' hq)
        | false =>
          rw [if_neg (by rw [e]; exact Bool.false_ne_true)] at h
          refine PySem.W.kat_no ?_
          by_cases hi : i = 0
          · obtain ⟨⟨n1, r1, e1⟩, n2, r2, e2⟩ := h0 hi
            injection e1 with e1 _
            injection e2 with e2 _
            subst e1 e2
            rw [ltP] at h
            cases h
            exact oneLt_alike (fun _ xs z => by cases z) r r' rfl (by simp) (room_head hu) (by rw [dataLt_int]; exact hq)
          · have hb : (b && i == 0) = false := by rw [beq_eq_false_iff_ne.mpr hi, Bool.and_false]
            rw [hb]
            exact PySem.W.kat_one _ _ (rcLt_P x y k A s _ _ _ _ r r' c1.1 c2.1 h (room_head hu) prog w _ _ hq)
/-- keys that can be sorted: tuples that begin with a number, each two of which can be compared -/
structure KeysOk (ds : List PyData) : Prop where
  tup : ∀ d ∈ ds, ∃ n r, d = .tuple (.int n :: r)
  lay : ∀ d ∈ ds, d.canLay0 = true
  cmp : ∀ d ∈ ds, ∀ d' ∈ ds, (ltP d d').isSome = true
theorem kind_some {h : Heap} {ds : List PyData} (ok : KeysOk ds) {v : Value} {d : PyData} {as : List Addr} (hd : d ∈ ds) (r : Reads h v d as) : (dataKind h ds).keyOf v = some (keyToks d) := by
  have q : ∃ d, d ∈ ds ∧ ∃ as, Reads h v d as := ⟨d, hd, as, r⟩
  have e : (dataKind h ds).keyOf v = some (keyToks q.choose) := by
    show (open Classical in if q : ∃ d, d ∈ ds ∧ ∃ as, Reads h v d as then some (keyToks q.choose) else none) = _
    rw [dif_pos q]
  obtain ⟨k1, as', k2⟩ := q.choose_spec
  rw [e, Reads.unique _ _ _ _ _ (ok.lay _ k1) k2 r]
theorem sortsAt_P {vs : List Value} {ds : List PyData} (e : EachIs (fun v d => ∃ as, Reads s.heap v d as) vs ds) (ok : KeysOk ds) (hu : ∀ d, d ∈ ds → A.units + d.depth < cLine) : SortsAt prog w A s (dataKind s.heap ds) vs := by
  have room : ∀ {d d' : PyData}, d ∈ ds → A.units + min d.depth d'.depth < cLine := fun {d d'} hd => Nat.lt_of_le_of_lt (Nat.add_le_add_left (Nat.min_le_left _ _) _) (hu d hd)
  refine ⟨fun v hv => ?_, ?_⟩
  · obtain ⟨d, hd, as, r⟩ := e.left v hv
    exact ⟨_, kind_some ok hd r⟩
  · refine ⟨PyProof.Rows.tuples' true, ?_, fun h2 E Q hq => ?_⟩
    · intro E x y a b Q ha hb hq
      obtain ⟨d, as, hd, ra, rfl⟩ := dataKind_inv ha
      obtain ⟨d', as', hd', rb, rfl⟩ := dataKind_inv hb
      have hroom := room (d' := d') hd
      obtain ⟨n1, r1, rfl⟩ := ok.tup d hd
      obtain ⟨n2, r2, rfl⟩ := ok.tup d' hd'
      have c1 : PyData.canLayAll0 (.int n1 :: r1) = true := by simpa [PyData.canLay0] using ok.lay _ hd
      have c2 : PyData.canLayAll0 (.int n2 :: r2) = true := by simpa [PyData.canLay0] using ok.lay _ hd'
      obtain ⟨k, hk⟩ := Option.isSome_iff_exists.mp (ok.cmp _ hd _ hd')
      rw [ltP] at hk
      have hq' : Q (dataLt (.tuple (.int n1 :: r1)) (.tuple (.int n2 :: r2))) s := hq
      rw [lt_tup_toks hk c1 c2] at hq'
      cases ra with
      | @tuple l o xs n _ _ g1 g2 g3 g4 =>
        cases rb with
        | @tuple l' o' xs' n' _ _ k1 k2 k3 k4 =>
          have s1 : xs.size = (PyData.int n1 :: r1).length := by simpa using ReadsAll.length _ _ _ g4
          have s2 : xs'.size = (PyData.int n2 :: r2).length := by simpa using ReadsAll.length _ _ _ k4
          exact PySem.W.kat_lt g1 g3 k1 k3 (katLex_P _ _ k 0 _ _ _ _ g4 k4 c1 c2 hk (by have q := room_in hroom; omega) (fun _ => ⟨⟨n1, r1, rfl⟩, n2, r2, rfl⟩) (by rw [s1, s2]) hq')
    · have ht : ∀ d, d ∈ ds → ∃ x r, d = .tuple (x :: r) := fun d hd => let ⟨n, r, q⟩ := ok.tup d hd; ⟨_, r, q⟩
      obtain ⟨fs, t1, t2, t3⟩ := each_katTups e ht
      have hq' : Q (PyProof.Rows.tuples' (Value.type "int" != Value.type "tuple")) s := hq
      refine PySem.W.kat_kind (T := Value.type "int") t1 (by omega) (fun f hf => ?_) (beq_self_eq_true _) hq'
      obtain ⟨x, r, as, m1, m2⟩ := t3 f hf
      obtain ⟨n, r', q⟩ := ok.tup _ m1
      injection q with q
      injection q with q _
      subst q
      exact looks_reads m2
end
end ML

set_option Elab.async false
set_option linter.all false
set_option maxRecDepth 100000
set_option autoImplicit false
namespace ML
open PySem L2
/-! ### sorted(xs, key=f), f a def of our own -/
def keysM (F : List D → M D) : List D → M (List D)
  | [] => pure []
  | d :: r => F [d] >>= fun k => keysM F r >>= fun ks => pure (k :: ks)
def headInt : D → Bool
  | .tup (.int _ :: _) => true
  | _ => false
def okKeys (ks : List D) : Bool := (ks.all fun k => headInt k && okD k) && ks.all fun a => ks.all fun b => (ltP (toP a) (toP b)).isSome
def leK (p q : D × D) : Bool := !PySem.W.dataLt (toP q.1) (toP p.1)
def sortK (F : List D → M D) (ds : List D) : M (List D) := fun h => match keysM F ds h with
  | none => none
  | some (ks, h1) => if okKeys ks = true ∧ ds.length ≤ sizeLine then some (((ks.zip ds).mergeSort leK).map (·.2), h1) else none
theorem keysM_len {F : List D → M D} : ∀ {ds ks : List D} {h h1 : Hm}, keysM F ds h = some (ks, h1) → ks.length = ds.length
  | [], ks, h, h1, e => by obtain ⟨e1, _⟩ := pure_some e; subst e1; rfl
  | d :: ds, ks, h, h1, e => by
    obtain ⟨k, h2, _, e2⟩ := bind_some e
    obtain ⟨r, h3, e3, e4⟩ := bind_some e2
    obtain ⟨e5, _⟩ := pure_some e4
    subst e5
    rw [List.length_cons, List.length_cons, keysM_len e3]
theorem headInt_of {d : D} (h : headInt d = true) : ∃ n r, toP d = .tuple (.int n :: r) := by
  unfold headInt at h
  split at h
  · exact ⟨_, _, rfl⟩
  · cases h
theorem keysOk_of {ks : List D} (h : okKeys ks = true) : KeysOk (ks.map toP) := by
  unfold okKeys at h
  rw [Bool.and_eq_true, List.all_eq_true, List.all_eq_true] at h
  refine ⟨fun d hd => ?_, fun d hd => ?_, fun d hd d' hd' => ?_⟩
  · obtain ⟨k, hk, e⟩ := List.mem_map.mp hd
    subst e
    have := h.1 k hk
    rw [Bool.and_eq_true] at this
    exact headInt_of this.1
  · obtain ⟨k, hk, e⟩ := List.mem_map.mp hd
    subst e
    have := h.1 k hk
    rw [Bool.and_eq_true] at this
    exact okD_lay this.2
  · obtain ⟨k, hk, e⟩ := List.mem_map.mp hd
    obtain ⟨k', hk', e'⟩ := List.mem_map.mp hd'
    subst e e'
    exact List.all_eq_true.mp (h.2 k hk) k' hk'
section
variable {X : Cx} {k : Nat} {f : Addr} {fd : FuncData} {ps : List Str} {F : List D → M D} {pins : List (Addr × Obj)} {σ : St} {H : Hp} {s : Shared} {ι : List Addr} {h h1 : Hm}
theorem key_turn {d kd : D} {x : V} {u : Value} (G : FnOk X.prog X.w X.K X.mg X.base CX0 k f fd ps (spM (tx X) 1 F)) (hr : Room (k + 2) X.A) (hb : Binds X.K fd ps []) (hl : ps.length = 1) (I : Inv X pins σ H s) (r : Rl (tx X) ι H h) (q : RV (tx X) ι H d x) (rx : RelV x u) (e : F [d] h = some (kd, h1)) :
    wpAny (model X.prog X.w) X.A.in1.in1 (call (.ref f) [u]) (fun v s' => ∃ y H1 ι1, Inv X pins σ H1 s' ∧ RelV y v ∧ Ex ι H ι1 H1 ∧ Rl (tx X) ι1 H1 h1 ∧ RV (tx X) ι1 H1 kd y) (fun _ _ => False) s := by
  have hB := hb s [u] I.kIn (by rw [List.append_nil, hl]; rfl)
  rw [List.append_nil] at hB
  refine wpAny_call (codeAny_mono (G.run X.A.in1.in1 X.stack s H ⟨[u], []⟩ [u] [x] (fun y H1 => ∃ ι1, Ex ι H ι1 H1 ∧ Rl (tx X) ι1 H1 h1 ∧ RV (tx X) ι1 H1 kd y) E0 hr.in1.in1 I.env0.in1.in1 hB (.cons rx .nil) ⟨ι, h, [d], kd, h1, rfl, r, by rw [RVs]; exact ⟨x, [], rfl, q, by rw [RVs]⟩, e, fun ι1 H1 v x1 r1 q1 => ⟨ι1, x1, r1, q1⟩⟩) fun r s' hq => ?_)
  cases r with
  | error e => exact False.elim hq
  | ok fl =>
    cases fl with
    | ret v =>
      obtain ⟨y, H1, I1, ry, ι1, x1, r1, q1⟩ := I.after hq
      exact ⟨y, H1, ι1, I1, ry, x1, r1, q1⟩
    | next => exact False.elim hq
    | brk => exact False.elim hq
    | cont => exact False.elim hq
theorem each_reads (I : Inv X pins σ H s) : ∀ {ks : List D} {kvs : List V} {us : List Value}, RVs (tx X) ι H ks kvs → Vals kvs us → (∀ k ∈ ks, okD k = true) → PySem.W.EachIs (fun v d => ∃ as, Reads s.heap v d as) us (ks.map toP)
  | [], kvs, us, q, r, _ => by
    rw [RVs] at q; subst q; cases r
    exact .nil
  | d :: ks, kvs, us, q, r, ok => by
    rw [RVs] at q
    obtain ⟨x, s', e, q1, q2⟩ := q
    subst e
    cases r with
    | cons r1 r2 => exact .cons (Dp.reads I (toP d) x _ (dp_of d x q1 (okD_lay (ok d List.mem_cons_self))) r1) (each_reads I q2 r2 fun k hk => ok k (List.mem_cons_of_mem _ hk))
theorem each_zip : ∀ {ks ds : List D} {xs : List V} {us : List Value}, RVs (tx X) ι H ds xs → Vals xs us → ks.length = ds.length → PySem.W.EachIs (fun v (b : D × D) => ∃ x, RelV x v ∧ RV (tx X) ι H b.2 x) us (ks.zip ds)
  | ks, [], xs, us, q, r, _ => by
    rw [RVs] at q; subst q; cases r
    rw [List.zip_nil_right]
    exact .nil
  | [], d :: ds, xs, us, q, r, e => by cases e
  | k :: ks, d :: ds, xs, us, q, r, e => by
    rw [RVs] at q
    obtain ⟨x, s', e1, q1, q2⟩ := q
    subst e1
    cases r with
    | cons r1 r2 => exact .cons ⟨x, r1, q1⟩ (each_zip q2 r2 (by simpa using e))
theorem each_keys {hp : Heap} {ks0 : List D} (ok : KeysOk (ks0.map toP)) : ∀ {ks ds : List D} {us : List Value}, PySem.W.EachIs (fun v d => ∃ as, Reads hp v d as) us (ks.map toP) → ks.length = ds.length → (∀ k ∈ ks, k ∈ ks0) →
    PySem.W.EachIs (fun v (b : D × D) => (PySem.W.dataKind hp (ks0.map toP)).keyOf v = some (PySem.W.keyToks (toP b.1))) us (ks.zip ds)
  | [], ds, us, e, _, _ => by cases e; exact .nil
  | k :: ks, [], us, e, l, _ => by cases l
  | k :: ks, d :: ds, us, e, l, m => by
    cases e with
    | cons e1 e2 =>
      obtain ⟨as, e1⟩ := e1
      exact .cons (kind_some ok (List.mem_map.mpr ⟨k, m k List.mem_cons_self, rfl⟩) e1) (each_keys ok e2 (by simpa using l) fun k' h' => m k' (List.mem_cons_of_mem _ h'))
theorem each_out : ∀ {us : List Value} {bs : List (D × D)}, PySem.W.EachIs (fun v (b : D × D) => ∃ x, RelV x v ∧ RV (tx X) ι H b.2 x) us bs → ∃ ys : List V, Vals ys us ∧ RVs (tx X) ι H (bs.map (·.2)) ys
  | _, _, .nil => ⟨[], .nil, by show RVs _ _ _ [] []; rw [RVs]⟩
  | _, _, .cons ⟨x, rx, qx⟩ t => by
    obtain ⟨ys, v, q⟩ := each_out t
    refine ⟨x :: ys, .cons rx v, ?_⟩
    rw [List.map_cons, RVs]
    exact ⟨x, ys, rfl, qx, q⟩
theorem sortK_run {ds out : List D} {xs : List V} {l : Addr} {Q : VK} (G : FnOk X.prog X.w X.K X.mg X.base CX0 k f fd ps (spM (tx X) 1 F)) (hr : Room (k + 2) X.A) (hb : Binds X.K fd ps []) (hl : ps.length = 1) (I : Inv X pins σ H s) (r : Rl (tx X) ι H h) (sq : SqL X.K H l xs) (q : RVs (tx X) ι H ds xs)
    (e : sortK F ds h = some (out, h1)) (fin : ∀ ι1 H1 a ys, Ex ι H ι1 H1 → Rl (tx X) ι1 H1 h1 → H a = none → a ∉ ι1 → H1 a = some (.lst ys) → RVs (tx X) ι1 H1 out ys → Q (.ref a) H1) :
    wpAny (model X.prog X.w) X.A (call (.builtin "sorted") [.ref l] [(Str.ofString "key", .ref f)]) (EP X pins σ Q) X.xe s := by
  obtain ⟨its, rv, pl, hz⟩ := I.list sq
  have hil : its.length = ds.length := by rw [← rv.length, q.length]
  have hL : its.length ≤ sizeLine := by rw [← rv.length]; exact hz
  unfold sortK at e
  cases qk : keysM F ds h with
  | none => rw [qk] at e; cases e
  | some kp =>
    obtain ⟨ks, hK⟩ := kp
    rw [qk] at e
    by_cases hc : okKeys ks = true ∧ ds.length ≤ sizeLine
    · simp only [if_pos hc] at e
      obtain ⟨eo, eh⟩ := some_pair e
      subst eo eh
      have hkl := keysM_len qk
      refine PySem.W.sorted_of_sort pl.isList hL (PyProof.Rows.ksk_s1 _ _) (fun _ => PyProof.Rows.ksk_l1 _ _) fun E' => ?_
      rw [PyProof.Rows.ksk_t1]
      generalize ea : s.heap.objs.size + 1 = a
      have ha1 : s.heap.objs.size ≤ a := by omega
      have ho : (PySem.W.copyHeap s.heap its).get? a = some (PyProof.Rows.seqObj "list" its.toArray 0) := by rw [← ea]; exact PySem.W.copyHeap_at s.heap its
      obtain ⟨e1, ho1⟩ : ∃ e1, ((PySem.W.copyHeap s.heap its).update a (Obj.mapSeq fun _ => (#[] : Array Value))).get? a = some (PyProof.Rows.seqObj "list" #[] e1) := ⟨_, PyProof.Rows.get?_update_seq ho fun _ => #[]⟩
      unfold PyProof.Rows.ksk_tree
      refine wpAny_bind (PyProof.Rows.listItems_at ho rfl ?_)
      refine wpAny_bind (PyProof.Rows.listUpdate_at ho rfl ?_ (by rw [List.size_toArray]; exact hL) (Nat.zero_le _))
      refine wpAny_bind (PyProof.Rows.seqEpoch_at ho1 rfl ?_)
      refine wpAny_bind (wpAny_newTuple ?_ (by show its.length ≤ _; exact hL))
      refine wpAny_bind (wpAny_newList ?_ (Nat.zero_le _))
      refine wpAny_holding ?_
      generalize ehp : ((PySem.W.copyHeap s.heap its).update a (Obj.mapSeq fun _ => (#[] : Array Value))).push { cls := .type "tuple", data := .seq its.toArray.toList.toArray } = hp1
      have hp1sz : s.heap.objs.size ≤ hp1.objs.size ∧ a < hp1.objs.size := by
        have z : a < (PySem.W.copyHeap s.heap its).objs.size := Heap.lt_size ho
        rw [← ehp, Heap.size_push, Heap.size_update]
        exact ⟨Nat.le_succ_of_le (Nat.le_of_lt (Nat.lt_of_le_of_lt ha1 z)), Nat.lt_succ_of_lt z⟩
      have keep0 : ∀ b o, s.heap.get? b = some o → hp1.get? b = some o := fun b o eb => by
        rw [← ehp]
        refine Heap.get?_push_of_some _ ?_
        rw [Heap.get?_update_ne _ _ _ _ (Nat.ne_of_lt (Nat.lt_of_lt_of_le (Heap.lt_size eb) ha1))]
        exact PySem.W.copyHeap_old eb
      generalize ekS : hp1.objs.size = kS
      have hkS : (hp1.push { cls := .type "list", data := .seq ([] : List Value).toArray }).get? kS = some (PyProof.Rows.seqObj "list" #[] 0) := by rw [← ekS]; exact Heap.get?_push_size _ rfl
      have hka : kS ≠ a := by omega
      have hA2 : (hp1.push { cls := .type "list", data := .seq ([] : List Value).toArray }).get? a = some (PyProof.Rows.seqObj "list" #[] e1) := Heap.get?_push_of_some _ (by rw [← ehp]; exact Heap.get?_push_of_some _ ho1)
      have I1 : Inv X pins σ H { s with heap := hp1.push { cls := .type "list", data := .seq ([] : List Value).toArray } } := I.kept (t' := s.toks) fun b o eb => Heap.get?_push_of_some _ (keep0 b o eb)
      have fA := fun H1 => I.fpOk (b := a) (H' := H1) ha1
      have fK := fun H1 => I.fpOk (b := kS) (H' := H1) (by omega)
      have hHa : H a = none := I.hok.fresh ha1
      have hHk : H kS = none := I.hok.fresh (by omega)
      unfold PyProof.Rows.ksk_rest
      refine wpAny_bind (wpAny_rule ?_)
      rw [List.forIn_toArray]
      refine wpAny_bind (PyProof.Rows.ksk_fold (fun i s' => ∃ ι1 H1 h2 kA n kds kvs rest, Inv X pins σ H1 s' ∧ Ex ι H ι1 H1 ∧ Rl (tx X) ι1 H1 h2 ∧ s'.heap.get? kS = some (PyProof.Rows.seqObj "list" kA n) ∧ s'.heap.get? a = some (PyProof.Rows.seqObj "list" #[] e1) ∧ H1 kS = none ∧ H1 a = none ∧
        Vals kvs kA.toList ∧ RVs (tx X) ι1 H1 kds kvs ∧ kds.length = i ∧ keysM F (ds.drop i) h2 = some (rest, hK) ∧ ks = kds ++ rest) its 0 _
        ⟨ι, H, h, #[], 0, [], [], ks, I1, Ex.refl _ _, r, hkS, hA2, hHk, hHa, .nil, by rw [RVs], rfl, by simpa using qk, rfl⟩ ?step ?done)
      case step =>
        rintro j x s' hx ⟨ι1, H1, h2, kA, n, kds, kvs, rest, I2, x2, r2, nk, na, nk0, na0, vk, rk, lk, ek, eks⟩
        simp only [Nat.zero_add] at lk ek ⊢
        have hj : j < ds.length := by rw [← hil]; exact (List.getElem?_eq_some_iff.mp hx).1
        rw [List.drop_eq_getElem_cons hj] at ek
        obtain ⟨kd, h3, ek1, ek2⟩ := bind_some ek
        obtain ⟨rest', h4, ek3, ek4⟩ := bind_some ek2
        obtain ⟨ek5, ek6⟩ := pure_some ek4
        subst ek5 ek6
        obtain ⟨xv, exv, qxv⟩ := q.get (List.getElem?_eq_getElem hj)
        obtain ⟨u, eu, ru⟩ := rv.get exv
        rw [hx] at eu; cases eu
        have I2p : Inv X (pins ++ [(kS, PyProof.Rows.seqObj "list" kA n), (a, PyProof.Rows.seqObj "list" #[] e1)]) σ H1 s' := I2.pins_of fun p hp => by
          rcases List.mem_append.mp hp with hp | hp
          · exact I2.pin p (List.mem_append_right _ hp)
          · obtain ⟨f0, f1, f2, _⟩ := fA H1 na0
            obtain ⟨g0, g1, g2, _⟩ := fK H1 nk0
            rcases List.mem_cons.mp hp with z | z
            · subst z; exact ⟨nk, nk0, g1, g2, fun v z => by cases z⟩
            · rw [List.mem_singleton.mp z]; exact ⟨na, na0, f1, f2, fun v z => by cases z⟩
        refine wpAny_bind (wpAny_attempt (wpAny_mono (key_turn G hr hb hl I2p r2 (qxv.up (x2.up r) _ _) ru ek1) (fun v s'' he => ?_) fun _ _ hF => hF.elim))
        obtain ⟨y, H3, ι3, I3, ry, x3, r3, qy⟩ := he
        obtain ⟨pk1, pk2, _⟩ := I3.pin (kS, PyProof.Rows.seqObj "list" kA n) (List.mem_append_right _ (List.mem_append_right _ (by simp)))
        obtain ⟨pa1, pa2, _⟩ := I3.pin (a, PyProof.Rows.seqObj "list" #[] e1) (List.mem_append_right _ (List.mem_append_right _ (by simp)))
        obtain ⟨g0, g1, g2, g3, g4, g5⟩ := fK H3 pk2
        have hkz : kA.size ≤ sizeLine := by
          have z1 := vk.length
          have z2 : kA.toList.length = kA.size := Array.length_toList
          have z3 := rk.length
          omega
        have sb := Heap.SameBut.update s''.heap kS (Obj.mapSeq (·.push v))
        obtain ⟨c2, hc2⟩ : ∃ c2, (s''.heap.update kS (Obj.mapSeq (·.push v))).get? kS = some (PyProof.Rows.seqObj "list" (kA.push v) c2) := ⟨_, PyProof.Rows.get?_update_seq pk1 (·.push v)⟩
        refine wpAny_bind (PyProof.Rows.listUpdate_at pk1 rfl ?_ hkz (by rw [Array.size_push]; omega))
        refine wpAny_pure ⟨rfl, ι3, H3, h3, kA.push v, c2, kds ++ [kd], kvs ++ [y], rest', ?_, x2.trans r2 x3, r3, hc2, (sb.2 a hka.symm).trans pa1, pk2, pa2, ?_, RVs.append (RVs.up (x3.up r2) _ _ rk) ?_, by rw [List.length_append, lk]; rfl, ek3, by rw [eks, List.append_assoc]; rfl⟩
        · exact (I3.unpinned).turned (it := kS) (t' := s''.toks) (fun b o hb' eb => (sb.2 b hb').trans eb) pk2 g1 g3 g4 g5
        · rw [Array.toList_push]
          exact vk.append (.cons ry .nil)
        · rw [RVs]
          exact ⟨y, [], rfl, qy, by rw [RVs]⟩
      case done =>
        rintro s' ⟨ι1, H1, h2, kA, n, kds, kvs, rest, I2, x2, r2, nk, na, nk0, na0, vk, rk, lk, ek, eks⟩
        rw [List.drop_of_length_le (by omega)] at ek
        obtain ⟨ek1, ek2⟩ := pure_some ek
        subst ek1 ek2
        rw [List.append_nil] at eks
        subst eks
        have okk : ∀ k ∈ ks, okD k = true := fun k hk => by
          have := hc.1
          unfold okKeys at this
          rw [Bool.and_eq_true, List.all_eq_true] at this
          have := this.1 k hk
          rw [Bool.and_eq_true] at this
          exact this.2
        have hrd := each_reads I2 rk vk okk
        have hK2 := keysOk_of hc.1
        have hkz : kA.size = its.length := by
          have z1 := vk.length
          have z2 : kA.toList.length = kA.size := Array.length_toList
          have z3 := rk.length
          omega
        have kp : PySem.W.KeepsBut a (PySem.W.hideAll s'.heap [kS]) s'.heap := fun b o _ eb => PySem.W.of_hideAll _ eb
        have hun : ∀ d, d ∈ ks.map toP → X.A.in1.in1.units + d.depth < cLine := fun d hd => by
          obtain ⟨kk, hk, ed⟩ := List.mem_map.mp hd
          subst ed
          have z := SeqAt.depth_of_shaped (okk kk hk)
          have z2 := hr.un
          show X.A.units + 1 + 1 + _ < cLine
          omega
        refine wpAny_bind (PyProof.Rows.listItems_at nk rfl ?_)
        refine PySem.W.keyH_end (κ := PySem.W.dataKind s'.heap (ks.map toP)) kp (PySem.W.hideAll_none _ (by simp)) nk na hka (sortsAt_P hrd hK2 hun) hkz hL fun h' tk c kb na2 => ?_
        have hout := PySem.W.sortVals_each (κ := PySem.W.dataKind s'.heap (ks.map toP)) (rev := false) (fun b : D × D => PySem.W.keyToks (toP b.1)) (each_zip (ks := ks) (RVs.up (x2.up r) _ _ q) rv hkl) (each_keys hK2 hrd hkl fun _ z => z)
        have hle : PySem.W.sortLe (PySem.W.dataKind s'.heap (ks.map toP)).toKeyOrd false (fun b : D × D => PySem.W.keyToks (toP b.1)) = leK := rfl
        rw [hle] at hout
        obtain ⟨ys, vy, ry⟩ := each_out hout
        have keep : ∀ b o, b ≠ a → b ≠ kS → s'.heap.get? b = some o → h'.get? b = some o := fun b o h1 h2 eb => kb b o h1 (PySem.W.hideAll_get _ eb (by simp [h2]))
        obtain ⟨f0, f1, f2, f3, f4, f5⟩ := fA H1 na0
        obtain ⟨g0, g1, g2, g3, g4, g5⟩ := fK H1 nk0
        have nia : a ∉ ι1 := fun m => by
          obtain ⟨u', e', _⟩ := r2.at m
          rw [na0] at e'; cases e'
        obtain ⟨x4, r4⟩ := r2.other (u := .lst ys) na0
        have hys : ys.length ≤ sizeLine := by
          rw [ry.length, List.length_map, List.length_mergeSort, List.length_zip, hkl, Nat.min_self]
          exact hc.2
        refine ⟨rfl, .ref a, upd H1 a (.lst ys), ?_, rfl, fin ι1 _ a ys (x2.trans r2 x4) r4 hHa nia upd_same (RVs.up (x4.up r2) _ _ ry)⟩
        refine I2.step (ch := [a, kS]) (g' := s'.gens) (d' := s'.drawn) (t' := tk) (fun b hb' => ?_) (fun b o _ _ hc' eb _ => keep b o (fun z => hc' (by simp [z])) (fun z => hc' (by simp [z])) eb) (fun b o _ _ hc' eb _ => ⟨o.slots, keep b o (fun z => hc' (by simp [z])) (fun z => hc' (by simp [z])) eb⟩)
          (fun b o hc' _ nb => by rw [upd_ne (fun z => hc' (by simp [z]))]; exact nb) (fun b o hc' eb => ⟨o, keep b o (fun z => hc' (by simp [z])) (fun z => hc' (by simp [z])) eb⟩) (fun b xs eb => by rw [upd_ne (ne_of_none eb na0)]; exact eb) (fun b o u eb => by rw [upd_ne (ne_of_none eb na0)]; exact eb)
          (fun b ps eb => ⟨#[], by rw [upd_ne (ne_of_none eb na0), eb]; simp⟩) (fun m hm => ?_) (fun b u eb => ?_) I2.bare
        · rcases List.mem_cons.mp hb' with z | z
          · subst z; exact ⟨f3, f1, f4, f5⟩
          · rw [List.mem_singleton.mp z]; exact ⟨g3, g1, g4, g5⟩
        · obtain ⟨o, es, ep, ho', r'⟩ := hm
          exact ⟨o, es, ep, keep _ o (Ne.symm f1) (Ne.symm g1) ho', r'⟩
        · by_cases hba : b = a
          · subst hba
            rw [upd_same] at eb
            cases eb
            exact ⟨hys, _, c, vy, na2⟩
          · rw [upd_ne hba] at eb
            refine (I2.hok b u eb).stay (fun c' v hc' qc => ?_) (fun c' qc => by rw [upd_ne (ne_of_none qc na0)]; exact qc) fun c' xs qc => by rw [upd_ne (ne_of_none qc na0)]; exact qc
            rcases hc' with z | z
            · subst z; exact keep _ v hba (ne_of_none eb nk0) qc
            · exact keep _ v (ne_of_none z na0) (ne_of_none z nk0) qc
    · simp only [if_neg hc] at e; cases e
def rSortKey (X : Cx) (f : Addr) (F : List D → M D) : List V → List V → Hp → VK → Prop := fun vs zs H Q => ∃ l xs ι h ds out h1, vs = [V.ref l] ∧ zs = [V.ref f] ∧ Rl (tx X) ι H h ∧ SqL X.K H l xs ∧ RVs (tx X) ι H ds xs ∧ sortK F ds h = some (out, h1) ∧
  ∀ ι1 H1 a ys, Ex ι H ι1 H1 → Rl (tx X) ι1 H1 h1 → H a = none → a ∉ ι1 → H1 a = some (.lst ys) → RVs (tx X) ι1 H1 out ys → Q (.ref a) H1
theorem c_sortKey (G : FnOk X.prog X.w X.K X.mg X.base CX0 k f fd ps (spM (tx X) 1 F)) (hr : Room (k + 2) X.A) (hb : Binds X.K fd ps []) (hl : ps.length = 1) : CallRK X (.builtin "sorted") [Str.ofString "key"] (rSortKey X f F) := by
  intro pins s σ H xs zs us ws Q I r rz h
  obtain ⟨l, ys, ι, h, ds, out, h1, rfl, rfl, r1, sq, q, e, fin⟩ := h
  obtain rfl := Vals.ref1 r
  obtain ⟨w1, rfl, e1⟩ := vals1 rz
  obtain rfl : w1 = Value.ref f := e1
  exact sortK_run G hr hb hl I r1 sq q e fin
/-- the items of a list -/
def listD (d : D) : M (List D) := fun h => match d with
  | .fro xs => some (xs, h)
  | .ref k => (match h[k]? with
    | some (.lst xs) => some (xs, h)
    | _ => none)
  | _ => none
theorem listD_sq {T : Tx} {d : D} {x : V} {xs : List D} (r : Rl T ι H h) (q : RV T ι H d x) (e : listD d h = some (xs, h1)) : ∃ a ys, x = .ref a ∧ SqL T.K H a ys ∧ RVs T ι H xs ys ∧ h = h1 := by
  cases d with
  | fro zs =>
    obtain ⟨e1, e2⟩ := some_pair e
    subst e1 e2
    rw [RV] at q
    obtain ⟨a, ys, ea, s, q⟩ := q
    exact ⟨a, ys, ea, s.sq, q, rfl⟩
  | ref kk =>
    rw [RV] at q
    obtain ⟨a, ha, ea⟩ := q
    have e : (match h[kk]? with | some (.lst xs) => some (xs, h) | _ => none) = some (xs, h1) := e
    cases q2 : h[kk]? with
    | none => rw [q2] at e; cases e
    | some o =>
      rw [q2] at e
      cases o with
      | lst zs =>
        obtain ⟨e1, e2⟩ := some_pair e
        subst e1 e2
        obtain ⟨ys, hy, q⟩ := r.obj kk a _ ha q2
        exact ⟨a, ys, ea, SqL.of hy, q, rfl⟩
      | _ => cases e
  | _ => cases e
def sortKM (F : List D → M D) (m : Sm → M D) : Sm → M (List D) := fun σ => m σ >>= fun d => listD d >>= fun ds => sortK F ds
def sortKL (F : List D → M D) (m : Sm → M (List D)) : Sm → M (List D) := fun σ => m σ >>= fun ds => sortK F ds
variable {e : Expr} {m : Sm → M D} {ms : Sm → M (List D)} {g : Str} {p p2 pos kpos : Pos}
theorem l_sortK (G : FnOk X.prog X.w X.K X.mg X.base CX0 k f fd ps (spM (tx X) 1 F)) (hr : Room (k + 2) X.A) (hb : Binds X.K fd ps []) (hl : ps.length = 1) (hg : Gl X "sorted") (hm : X.mg "sorted" = none) (he : PE X e (lf (tx X) m)) (hg2 : Gl X g) (hm2 : X.mg g = some (.ref f)) (hd2 : (g == ("__debug__" : Str)) = false := by decide)
    (h1 : backTo pos (starEach [e] X.env) = (false, eval e X.env) :: backTo pos (starEach [] X.env) := by rfl) (h0 : starEach [e] X.env = (false, eval e X.env) :: starEach [] X.env := by rfl) (h2 : (backTo pos (starEach [e] X.env)).any (·.1) = false := by rfl)
    (h3 : (backToKw pos (keywordEach [⟨some (Str.ofString "key"), .Name g p2, kpos⟩] X.env)).all (·.1.isSome) = true := by rfl) (h4 : (backToKw pos (keywordEach [⟨some (Str.ofString "key"), .Name g p2, kpos⟩] X.env)).any (·.1.isNone) = false := by rfl) (h5 : (backToKw pos (keywordEach [⟨some (Str.ofString "key"), .Name g p2, kpos⟩] X.env)).filterMap (·.1) = [Str.ofString "key"] := by rfl) :
    PE X (.Call (.Name "sorted" p) [e] [⟨some (Str.ofString "key"), .Name g p2, kpos⟩] pos) (lfL (tx X) (sortKM F m)) :=
  (pe_callBK (c_sortKey G hr hb hl) hg hm (by decide +kernel) (pa_cons he pa_nil h0) (pk_cons (pe_glob hg2 hm2 (v := .ref f) rfl hd2) pk_nil) (by decide) (by decide) h1 h2 h3 h4 h5).imp fun σ H Q q => by
  obtain ⟨ι, σm, h, d, h1, r, rs, e, k⟩ := q
  show lf (tx X) m σ H fun v H1 => rSortKey X f F [v] [.ref f] H1 Q
  refine lf_then r rs e (P := fun ι2 H2 => ∀ a xs, Rl (tx X) ι2 H2 h1 → H a = none → a ∉ ι2 → H2 a = some (.lst xs) → RVs (tx X) ι2 H2 d xs → Q (.ref a) H2) (fun ι2 H2 y a xs => k ι2 H2 a xs y) fun ι1 H1 x da h' x1 r1 rs1 q1 e1 k1 => ?_
  obtain ⟨ds, h'', e2, e3⟩ := bind_some e1
  obtain ⟨a, ys, ea, sq, qs, eh⟩ := listD_sq r1 q1 e2
  subst eh
  refine ⟨a, ys, ι1, h', ds, d, h1, by rw [ea], rfl, r1, sq, qs, e3, fun ι2 H2 b zs x2 r2 hb2 nb eb qb => k1 ι2 H2 x2 b zs r2 ?_ nb eb qb⟩
  cases q5 : H b with
  | none => rfl
  | some o =>
    by_cases hi : b ∈ ι
    · obtain ⟨s1, es1, _⟩ := (x1.trans r1 x2).pre
      exact absurd (by rw [es1]; exact List.mem_append_left _ hi) nb
    · have := x1.fr b o q5 hi
      rw [hb2] at this; cases this
theorem l_sortKL (G : FnOk X.prog X.w X.K X.mg X.base CX0 k f fd ps (spM (tx X) 1 F)) (hr : Room (k + 2) X.A) (hb : Binds X.K fd ps []) (hl : ps.length = 1) (hg : Gl X "sorted") (hm : X.mg "sorted" = none) (he : PE X e (lfL (tx X) ms)) (hg2 : Gl X g) (hm2 : X.mg g = some (.ref f)) (hd2 : (g == ("__debug__" : Str)) = false := by decide)
    (h1 : backTo pos (starEach [e] X.env) = (false, eval e X.env) :: backTo pos (starEach [] X.env) := by rfl) (h0 : starEach [e] X.env = (false, eval e X.env) :: starEach [] X.env := by rfl) (h2 : (backTo pos (starEach [e] X.env)).any (·.1) = false := by rfl)
    (h3 : (backToKw pos (keywordEach [⟨some (Str.ofString "key"), .Name g p2, kpos⟩] X.env)).all (·.1.isSome) = true := by rfl) (h4 : (backToKw pos (keywordEach [⟨some (Str.ofString "key"), .Name g p2, kpos⟩] X.env)).any (·.1.isNone) = false := by rfl) (h5 : (backToKw pos (keywordEach [⟨some (Str.ofString "key"), .Name g p2, kpos⟩] X.env)).filterMap (·.1) = [Str.ofString "key"] := by rfl) :
    PE X (.Call (.Name "sorted" p) [e] [⟨some (Str.ofString "key"), .Name g p2, kpos⟩] pos) (lfL (tx X) (sortKL F ms)) :=
  (pe_callBK (c_sortKey G hr hb hl) hg hm (by decide +kernel) (pa_cons he pa_nil h0) (pk_cons (pe_glob hg2 hm2 (v := .ref f) rfl hd2) pk_nil) (by decide) (by decide) h1 h2 h3 h4 h5).imp fun σ H Q q => by
  obtain ⟨ι, σm, h, d, h1, r, rs, e, k⟩ := q
  show lfL (tx X) ms σ H fun v H1 => rSortKey X f F [v] [.ref f] H1 Q
  refine lfL_then r rs e (P := fun ι2 H2 => ∀ a xs, Rl (tx X) ι2 H2 h1 → H a = none → a ∉ ι2 → H2 a = some (.lst xs) → RVs (tx X) ι2 H2 d xs → Q (.ref a) H2) (fun ι2 H2 y a xs => k ι2 H2 a xs y) fun ι1 H1 a ys ds h' x1 r1 rs1 ha na ea q1 e1 k1 => ?_
  refine ⟨a, ys, ι1, h', ds, d, h1, rfl, rfl, r1, SqL.of ea, q1, e1, fun ι2 H2 b zs x2 r2 hb2 nb eb qb => k1 ι2 H2 x2 b zs r2 ?_ nb eb qb⟩
  cases q5 : H b with
  | none => rfl
  | some o =>
    by_cases hi : b ∈ ι
    · obtain ⟨s1, es1, _⟩ := (x1.trans r1 x2).pre
      exact absurd (by rw [es1]; exact List.mem_append_left _ hi) nb
    · have := x1.fr b o q5 hi
      rw [hb2] at this; cases this
end
end ML

set_option Elab.async false
set_option linter.all false
set_option maxRecDepth 100000
set_option autoImplicit false
namespace ML
open PySem L2
/-- nothing is promised of what is never called -/
theorem fn_none {P : Program} {w : World} {K : PySem.W.Frag} {mg : Str → Option Value} {base : Heap} {k : Nat} {f : Addr} {fd : FuncData} {ps : List Str} {T : Tx} {n : Nat} : FnOk P w K mg base CX0 k f fd ps (spM T n fun _ => M.bad) := by
  have no : ∀ vs H Q E, ¬ spM T n (fun _ => M.bad) vs H Q E := fun vs H Q E h => by
    obtain ⟨_, _, _, _, _, _, _, _, e, _⟩ := h
    cases e
  exact ⟨fun vs H Q E h => absurd h (no vs H Q E), fun A outer s H args us vs Q E _ _ _ _ h => absurd h (no vs H Q E)⟩
/-- what a law promises: True for each list of at most 63 numbers -/
def spLawM (K : PySem.W.Frag) : Sp := fun vs H Q _ => ∃ (a : Addr) (ns : List Int), vs = [.ref a] ∧ Only H ∧ SqL K H a (ns.map V.int) ∧ ns.length ≤ 63 ∧ ∀ H', Q (.bl true) H'
theorem ints_RVs {T : Tx} {ι : List Addr} {H : Hp} : ∀ ns : List Int, RVs T ι H (ns.map D.int) (ns.map V.int)
  | [] => by show RVs T ι H [] []; rw [RVs]
  | n :: ns => by
    show RVs T ι H (.int n :: ns.map D.int) (.int n :: ns.map V.int)
    rw [RVs]
    exact ⟨_, _, rfl, by rw [RV], ints_RVs ns⟩
theorem law_in {T : Tx} {F : List D → M D} (hF : ∀ ns : List Int, ns.length ≤ 63 → ∃ h1, F [.fro (ns.map .int)] [] = some (.bl true, h1)) : ∀ vs H Q E, spLawM T.K vs H Q E → spM T 1 F vs H Q E := by
  intro vs H Q E h
  obtain ⟨a, ns, rfl, hO, hS, hl, q⟩ := h
  obtain ⟨h1, e⟩ := hF ns hl
  refine ⟨[], [], [.fro (ns.map .int)], .bl true, h1, rfl, ⟨rfl, List.nodup_nil, fun i a o e1 _ => by simp at e1⟩, ?_, e, fun ι1 H1 v _ _ rv => ?_⟩
  · rw [RVs]
    refine ⟨_, [], rfl, ?_, by rw [RVs]⟩
    rw [RV]
    refine ⟨a, _, rfl, ?_, ints_RVs ns⟩
    rcases hS with (hS | ⟨o, hS⟩) | hS
    · rcases hO a with z | ⟨o, xs, z⟩
      · rw [z] at hS; cases hS
      · rw [z] at hS; cases hS
    · exact .inl ⟨o, hS⟩
    · exact .inr hS
  · rw [RV] at rv
    subst rv
    exact q H1
end ML

set_option Elab.async false
set_option linter.all false
set_option maxRecDepth 100000
set_option autoImplicit false
namespace ML
open PySem L2
/-! ### the numbers that a law draws of its script -/
def stD (c : Nat) (a l m : Int) : O := .dic [(.str "cells", .ref c), (.str "at", .int a), (.str "left", .int l), (.str "mix", .int m)]
structure StA (k c : Nat) (cs : List Int) (h : Hm) : Prop where
  ex : ∃ a l m : Int, h[k]? = some (stD c a l m) ∧ 0 ≤ a ∧ 0 ≤ l
  ls : h[c]? = some (.lst (cs.map .int))
  nn : ∀ x ∈ cs, 0 ≤ x
/-- nothing of h but k is another one -/
def Fr (k : Nat) (h h1 : Hm) : Prop := h.length ≤ h1.length ∧ ∀ j, j < h.length → j ≠ k → h1[j]? = h[j]?
theorem Fr.refl (k : Nat) (h : Hm) : Fr k h h := ⟨Nat.le_refl _, fun _ _ _ => rfl⟩
theorem Fr.trans {k : Nat} {h h1 h2 : Hm} (a : Fr k h h1) (b : Fr k h1 h2) : Fr k h h2 := ⟨Nat.le_trans a.1 b.1, fun j hj n => (b.2 j (Nat.lt_of_lt_of_le hj a.1) n).trans (a.2 j hj n)⟩
theorem Fr.set (k : Nat) (h : Hm) (o : O) : Fr k h (h.set k o) := ⟨by rw [List.length_set]; exact Nat.le_refl _, fun j _ n => List.getElem?_set_ne (Ne.symm n)⟩
theorem Fr.push (k : Nat) (h : Hm) (o : List O) : Fr k h (h ++ o) := ⟨by simp, fun j hj _ => List.getElem?_append_left hj⟩
theorem getK_cells {c : D} {a l m : D} : getK [(.str "cells", c), (.str "at", a), (.str "left", l), (.str "mix", m)] (.str "cells") = some c := rfl
theorem getK_at {c : D} {a l m : D} : getK [(.str "cells", c), (.str "at", a), (.str "left", l), (.str "mix", m)] (.str "at") = some a := rfl
theorem getK_left {c : D} {a l m : D} : getK [(.str "cells", c), (.str "at", a), (.str "left", l), (.str "mix", m)] (.str "left") = some l := rfl
theorem getK_mix {c : D} {a l m : D} : getK [(.str "cells", c), (.str "at", a), (.str "left", l), (.str "mix", m)] (.str "mix") = some m := rfl
theorem put_at {c : D} {a l m v : D} : putKD [(.str "cells", c), (.str "at", a), (.str "left", l), (.str "mix", m)] (.str "at") v = [(.str "cells", c), (.str "at", v), (.str "left", l), (.str "mix", m)] := rfl
theorem put_left {c : D} {a l m v : D} : putKD [(.str "cells", c), (.str "at", a), (.str "left", l), (.str "mix", m)] (.str "left") v = [(.str "cells", c), (.str "at", a), (.str "left", v), (.str "mix", m)] := rfl
theorem put_mix {c : D} {a l m v : D} : putKD [(.str "cells", c), (.str "at", a), (.str "left", l), (.str "mix", m)] (.str "mix") v = [(.str "cells", c), (.str "at", a), (.str "left", l), (.str "mix", v)] := rfl
theorem kD_str (x : Str) : (kD (.str x)).isSome = true := rfl
section
variable {h : Hm} {k c : Nat} {a l m : Int}
theorem ix_cells (e : h[k]? = some (stD c a l m)) : ixD (.ref k) (.str "cells") h = some (.ref c, h) := by
  unfold ixD; dsimp only; rw [e]; rfl
theorem ix_at (e : h[k]? = some (stD c a l m)) : ixD (.ref k) (.str "at") h = some (.int a, h) := by
  unfold ixD; dsimp only; rw [e]; rfl
theorem ix_left (e : h[k]? = some (stD c a l m)) : ixD (.ref k) (.str "left") h = some (.int l, h) := by
  unfold ixD; dsimp only; rw [e]; rfl
theorem ix_mix (e : h[k]? = some (stD c a l m)) : ixD (.ref k) (.str "mix") h = some (.int m, h) := by
  unfold ixD; dsimp only; rw [e]; rfl
theorem st_at (e : h[k]? = some (stD c a l m)) (v : Int) : storeD (.ref k) (.str "at") (.int v) h = some (h.set k (stD c v l m)) := by
  unfold storeD; dsimp only; rw [e]; rfl
theorem st_left (e : h[k]? = some (stD c a l m)) (v : Int) : storeD (.ref k) (.str "left") (.int v) h = some (h.set k (stD c a v m)) := by
  unfold storeD; dsimp only; rw [e]; rfl
theorem st_mix (e : h[k]? = some (stD c a l m)) (v : Int) : storeD (.ref k) (.str "mix") (.int v) h = some (h.set k (stD c a l v)) := by
  unfold storeD; dsimp only; rw [e]; rfl
end
theorem eqD_int (i j : Int) : eqD (.int i) (.int j) = pure (.bl (decide (i = j))) := by
  unfold eqD
  rw [if_pos ⟨rfl, rfl⟩]
  rfl
theorem neD_int (i j : Int) : neD (.int i) (.int j) = pure (.bl (!decide (i = j))) := by
  unfold neD
  rw [if_pos ⟨rfl, rfl⟩]
  rfl
theorem ltD_int (i j : Int) : ltD (.int i) (.int j) = pure (.bl (decide (i < j))) := by
  unfold ltD
  rw [if_pos ⟨rfl, rfl⟩]
  rfl
noncomputable def startF : List D → M D := runB 2 (retS (dispM [((cM (.str "cells")), (newM (lcM (itV (gv 0)) (nameG 1) yesT (bcM absD (consA (bcM intD (consA (gv 1) nilA)) nilA)) [1]))), ((cM (.str "at")), (cM (.int 0))), ((cM (.str "left")), (cM (.int 0))), ((cM (.str "mix")), (op2M addD (cM (.int 7)) (bcM lenD (consA (gv 0) nilA))))]))
noncomputable def drawT : Sm → M Fl := (seqS (ifS (tvM (op2M (cmpD fun i j => decide (i > j)) (op2M ixD (gv 0) (cM (.str "left"))) (cM (.int 0)))) (seqS (setS 3 (op2M modD (bcM intD (consA (op2M ixD (gv 0) (cM (.str "left"))) nilA)) (gv 1)))
    (seqS (subS (op2M fdivD (op2M ixD (gv 0) (cM (.str "left"))) (gv 1)) (gv 0) (cM (.str "left")))
    (retS (gv 3)))) skipS)
    (seqS (subS (op2M modD (bcM intD (consA (op2M addD (op2M mulD (op2M ixD (gv 0) (cM (.str "mix"))) (cM (.int 48271))) (cM (.int 11))) nilA)) (cM (.int 2147483647))) (gv 0) (cM (.str "mix")))
    (retS (op2M modD (bcM intD (consA (op2M modD (bcM intD (consA (op2M addD (op2M mulD (op2M ixD (gv 0) (cM (.str "mix"))) (cM (.int 69621))) (cM (.int 5))) nilA)) (cM (.int 2147483629))) nilA)) (gv 1)))))
noncomputable def drawF : List D → M D := runB 4 (seqS (ifS (andT (tvM (op2M eqD (op2M ixD (gv 0) (cM (.str "left"))) (cM (.int 0)))) (tvM (op2M ltD (op2M ixD (gv 0) (cM (.str "at"))) (bcM lenD (consA (op2M ixD (gv 0) (cM (.str "cells"))) nilA))))) (seqS (setS 2 (op2M ixD (op2M ixD (gv 0) (cM (.str "cells"))) (op2M ixD (gv 0) (cM (.str "at")))))
    (seqS (subS (op2M addD (op2M ixD (gv 0) (cM (.str "at"))) (cM (.int 1))) (gv 0) (cM (.str "at")))
    (seqS (subS (op2M modD (bcM intD (consA (op2M addD (op2M addD (op2M mulD (op2M ixD (gv 0) (cM (.str "mix"))) (cM (.int 48271))) (gv 2)) (cM (.int 11))) nilA)) (cM (.int 2147483647))) (gv 0) (cM (.str "mix")))
    (seqS (ifS (tvM (op2M ltD (gv 2) (op2M powD (cM (.int 10)) (cM (.int 18))))) (retS (op2M modD (bcM intD (consA (gv 2) nilA)) (gv 1))) skipS)
    (subS (gv 2) (gv 0) (cM (.str "left"))))))) skipS) drawT)
noncomputable def pickF : List D → M D := runB 2 (retS (op2M ixD (gv 1) (callM drawF 2 (consA (gv 0) (consA (bcM lenD (consA (gv 1) nilA)) nilA)))))
noncomputable def isF : List D → M D := runB 2 (retS (andV (isiM "bool" (gv 0)) (op2M eqD (gv 0) (gv 1))))
/-- the words of a body, told away -/
theorem run_rt {n : Nat} {b : Sm → M Fl} {ds : List D} {h h1 : Hm} {d : D} (e : b (startM n ds) h = some (.rt d, h1)) : runB n b ds h = some (d, h1) := by
  unfold runB
  rw [bind_of e]
  rfl
theorem seq_nx {s t : Sm → M Fl} {σ σ1 : Sm} {h h1 : Hm} (e : s σ h = some (.nx σ1, h1)) : seqS s t σ h = t σ1 h1 := by
  unfold seqS
  rw [bind_of e]
theorem seq_rt {s t : Sm → M Fl} {σ : Sm} {h h1 : Hm} {d : D} (e : s σ h = some (.rt d, h1)) : seqS s t σ h = some (.rt d, h1) := by
  unfold seqS
  rw [bind_of e]
  rfl
theorem if_of {c : Sm → M Bool} {s t : Sm → M Fl} {σ : Sm} {h h1 : Hm} {b : Bool} (e : c σ h = some (b, h1)) : ifS c s t σ h = if b = true then s σ h1 else t σ h1 := by
  unfold ifS
  rw [bind_of e]
  cases b <;> rfl
theorem ret_of {m : Sm → M D} {σ : Sm} {h h1 : Hm} {d : D} (e : m σ h = some (d, h1)) : retS m σ h = some (.rt d, h1) := by
  unfold retS
  rw [bind_of e]
  rfl
theorem set_of {i : Nat} {m : Sm → M D} {σ : Sm} {h h1 : Hm} {d : D} (e : m σ h = some (d, h1)) : setS i m σ h = some (.nx (σ.set i (some d)), h1) := by
  unfold setS
  rw [bind_of e]
  rfl
theorem op2_of' {g : D → D → M D} {ma mb : Sm → M D} {σ : Sm} {h h1 h2 : Hm} {a b : D} (e : ma σ h = some (a, h1)) (e2 : mb σ h1 = some (b, h2)) : op2M g ma mb σ h = g a b h2 := by
  unfold op2M
  rw [bind_of e, bind_of e2]
theorem sub_of {mv mo mi : Sm → M D} {σ : Sm} {h h1 h2 h3 h4 : Hm} {v o i : D} (e : mv σ h = some (v, h1)) (e2 : mo σ h1 = some (o, h2)) (e3 : mi σ h2 = some (i, h3)) (e4 : storeD o i v h3 = some h4) : subS mv mo mi σ h = some (.nx σ, h4) := by
  unfold subS
  rw [bind_of e, bind_of e2]
  refine (bind_of e3).trans ?_
  show (storeD o i v h3).map _ = _
  rw [e4]
  rfl
theorem tv_of' {m : Sm → M D} {σ : Sm} {h h1 : Hm} {c : Bool} (e : m σ h = some (.bl c, h1)) : tvM m σ h = some (c, h1) := by
  unfold tvM
  rw [bind_of e]
  rfl
theorem bc1_of' {m : Sm → M D} {g : List D → M D} {σ : Sm} {h h1 : Hm} {d : D} (e : m σ h = some (d, h1)) : bcM g (consA m nilA) σ h = g [d] h1 := by
  unfold bcM consA
  rw [bind_app, bind_of e]
  rfl
section
variable {h : Hm} {k c : Nat} {cs : List Int} {b : Int} {a l m : Int}
theorem rd_st (e : h[k]? = some (stD c a l m)) {σ : Sm} (hσ : σ[0]? = some (some (.ref k))) :
      op2M ixD (gv 0) (cM (.str "left")) σ h = some (.int l, h) ∧ op2M ixD (gv 0) (cM (.str "at")) σ h = some (.int a, h) ∧ op2M ixD (gv 0) (cM (.str "cells")) σ h = some (.ref c, h) ∧ op2M ixD (gv 0) (cM (.str "mix")) σ h = some (.int m, h) ∧ gv 0 σ h = some (.ref k, h) := by
  have g0 : gv 0 σ h = some (.ref k, h) := by unfold gv; rw [hσ]; rfl
  exact ⟨(op2_of' g0 rfl).trans (ix_left e), (op2_of' g0 rfl).trans (ix_at e), (op2_of' g0 rfl).trans (ix_cells e), (op2_of' g0 rfl).trans (ix_mix e), g0⟩
theorem StA.put (s : StA k c cs h) (hkc : c ≠ k) (hk : k < h.length) (ha : 0 ≤ a) (hl : 0 ≤ l) : StA k c cs (h.set k (stD c a l m)) :=
  ⟨⟨a, l, m, List.getElem?_set_self hk, ha, hl⟩, by rw [List.getElem?_set_ne (Ne.symm hkc)]; exact s.ls, s.nn⟩
theorem mod_int {i j : Int} (hj : 0 < j) (h : Hm) : modD (.int i) (.int j) h = some (.int (i % j), h) := by
  show (if 0 < j then (pure (.int (i % j)) : M D) else M.bad) h = _
  rw [if_pos hj]
  rfl
theorem fdiv_int {i j : Int} (hj : 0 < j) (hj2 : j < 1073741824) (h : Hm) : fdivD (.int i) (.int j) h = some (.int (i / j), h) := by
  show (if 0 < j ∧ j < 1073741824 then (pure (.int (i / j)) : M D) else M.bad) h = _
  rw [if_pos ⟨hj, hj2⟩]
  rfl
theorem mul_int {i j : Int} (hj : -(2 ^ 64) < j ∧ j < 2 ^ 64) (h : Hm) : mulD (.int i) (.int j) h = some (.int (i * j), h) := by
  show (if (-(2 ^ 64) < i ∧ i < 2 ^ 64) ∨ (-(2 ^ 64) < j ∧ j < 2 ^ 64) then (pure (.int (i * j)) : M D) else M.bad) h = _
  rw [if_pos (.inr hj)]
  rfl
theorem drawT_ok (s : StA k c cs h) (e : h[k]? = some (stD c a l m)) (ha : 0 ≤ a) (hl : 0 ≤ l) (hb : 0 < b) (hb2 : b < 1073741824) (hkc : c ≠ k) (s2 s3 : Option D) : ∃ n h1, drawT [some (.ref k), some (.int b), s2, s3] h = some (.rt (.int n), h1) ∧ 0 ≤ n ∧ n < b ∧ StA k c cs h1 ∧ Fr k h h1 ∧ h1.length = h.length := by
  have hk : k < h.length := (List.getElem?_eq_some_iff.mp e).1
  obtain ⟨L, _, _, M1, _⟩ := rd_st (σ := [some (.ref k), some (.int b), s2, s3]) e rfl
  unfold drawT
  have c1 : tvM (op2M (cmpD fun i j => decide (i > j)) (op2M ixD (gv 0) (cM (.str "left"))) (cM (.int 0))) [some (.ref k), some (.int b), s2, s3] h = some (decide (l > 0), h) := tv_of' ((op2_of' L rfl).trans rfl)
  by_cases hp : l > 0
  · rw [decide_eq_true hp] at c1
    have e1 : setS 3 (op2M modD (bcM intD (consA (op2M ixD (gv 0) (cM (.str "left"))) nilA)) (gv 1)) [some (.ref k), some (.int b), s2, s3] h = some (.nx [some (.ref k), some (.int b), s2, some (.int (l % b))], h) :=
      set_of ((op2_of' ((bc1_of' L).trans rfl) rfl).trans (mod_int hb h))
    obtain ⟨L2, _, _, _, G2⟩ := rd_st (σ := [some (.ref k), some (.int b), s2, some (.int (l % b))]) e rfl
    have e2 : subS (op2M fdivD (op2M ixD (gv 0) (cM (.str "left"))) (gv 1)) (gv 0) (cM (.str "left")) [some (.ref k), some (.int b), s2, some (.int (l % b))] h = some (.nx [some (.ref k), some (.int b), s2, some (.int (l % b))], h.set k (stD c a (l / b) m)) :=
      sub_of ((op2_of' L2 rfl).trans (fdiv_int hb hb2 h)) G2 rfl (st_left e _)
    refine ⟨l % b, h.set k (stD c a (l / b) m), ?_, Int.emod_nonneg _ (by omega), Int.emod_lt_of_pos _ hb, s.put hkc hk ha (Int.ediv_nonneg hl (by omega)), Fr.set _ _ _, List.length_set⟩
    refine (seq_rt (d := .int (l % b)) ?_)
    rw [if_of c1, if_pos rfl, seq_nx e1, seq_nx e2]
    rfl
  · rw [decide_eq_false hp] at c1
    have e1 : subS (op2M modD (bcM intD (consA (op2M addD (op2M mulD (op2M ixD (gv 0) (cM (.str "mix"))) (cM (.int 48271))) (cM (.int 11))) nilA)) (cM (.int 2147483647))) (gv 0) (cM (.str "mix")) [some (.ref k), some (.int b), s2, s3] h = some (.nx [some (.ref k), some (.int b), s2, s3], h.set k (stD c a l ((m * 48271 + 11) % 2147483647))) := by
      refine sub_of ((op2_of' ((bc1_of' ((op2_of' ((op2_of' M1 rfl).trans (mul_int (by decide) h)) rfl).trans rfl)).trans rfl) rfl).trans (mod_int (by decide) h)) rfl rfl (st_mix e _)
    have e' : (h.set k (stD c a l ((m * 48271 + 11) % 2147483647)))[k]? = some (stD c a l ((m * 48271 + 11) % 2147483647)) := List.getElem?_set_self hk
    obtain ⟨_, _, _, M2, _⟩ := rd_st (σ := [some (.ref k), some (.int b), s2, s3]) e' rfl
    have e3 : retS (op2M modD (bcM intD (consA (op2M modD (bcM intD (consA (op2M addD (op2M mulD (op2M ixD (gv 0) (cM (.str "mix"))) (cM (.int 69621))) (cM (.int 5))) nilA)) (cM (.int 2147483629))) nilA)) (gv 1)) [some (.ref k), some (.int b), s2, s3] (h.set k (stD c a l ((m * 48271 + 11) % 2147483647)))
        = some (.rt (.int ((((m * 48271 + 11) % 2147483647) * 69621 + 5) % 2147483629 % b)), h.set k (stD c a l ((m * 48271 + 11) % 2147483647))) :=
      ret_of ((op2_of' ((bc1_of' ((op2_of' ((bc1_of' ((op2_of' ((op2_of' M2 rfl).trans (mul_int (by decide) _)) rfl).trans rfl)).trans rfl) rfl).trans (mod_int (by decide) _))).trans rfl) rfl).trans (mod_int hb _))
    refine ⟨((m * 48271 + 11) % 2147483647 * 69621 + 5) % 2147483629 % b, h.set k (stD c a l ((m * 48271 + 11) % 2147483647)), ?_, Int.emod_nonneg _ (by omega), Int.emod_lt_of_pos _ hb, s.put hkc hk ha hl, Fr.set _ _ _, List.length_set⟩
    rw [seq_nx (σ1 := [some (.ref k), some (.int b), s2, s3]) (h1 := h) (by rw [if_of c1, if_neg Bool.false_ne_true]; rfl), seq_nx e1, e3]
theorem tv_and {t u : Sm → M Bool} {σ : Sm} {h h1 : Hm} {c : Bool} (e : t σ h = some (c, h1)) : andT t u σ h = if c = true then u σ h1 else some (false, h1) := by
  unfold andT
  rw [bind_of e]
  cases c <;> rfl
theorem len_ref {xs : List D} {k : Nat} {h : Hm} (e : h[k]? = some (.lst xs)) : lenD [.ref k] h = some (.int xs.length, h) := by
  unfold lenD; dsimp only; rw [e]
theorem ix_list {xs : List D} {c : Nat} {a : Int} {d : D} {h : Hm} (e : h[c]? = some (.lst xs)) (ea : atI xs a = some d) : ixD (.ref c) (.int a) h = some (d, h) := by
  unfold ixD; dsimp only; rw [e]; dsimp only; rw [ea]; rfl
theorem at_ints {cs : List Int} {a : Int} (ha : 0 ≤ a) (h : a < cs.length) : ∃ x ∈ cs, atI (cs.map D.int) a = some (.int x) := by
  have e : a = ((a.toNat : Nat) : Int) := by omega
  have hl : a.toNat < cs.length := by omega
  refine ⟨cs[a.toNat], List.getElem_mem hl, ?_⟩
  have q : atI (cs.map D.int) ((a.toNat : Nat) : Int) = some (.int cs[a.toNat]) := atI_nat (by rw [List.getElem?_map, List.getElem?_eq_getElem hl]; rfl)
  rw [← e] at q
  exact q
theorem draw_ok (s : StA k c cs h) (hb : 0 < b) (hb2 : b < 1073741824) (hkc : c ≠ k) : ∃ n h1, drawF [.ref k, .int b] h = some (.int n, h1) ∧ 0 ≤ n ∧ n < b ∧ StA k c cs h1 ∧ Fr k h h1 ∧ h1.length = h.length := by
  obtain ⟨a, l, m, e, ha, hl⟩ := s.ex
  have hk : k < h.length := (List.getElem?_eq_some_iff.mp e).1
  obtain ⟨L, A1, C1, M1, G1⟩ := rd_st (σ := [some (.ref k), some (.int b), none, none]) e rfl
  have t1 : tvM (op2M eqD (op2M ixD (gv 0) (cM (.str "left"))) (cM (.int 0))) [some (.ref k), some (.int b), none, none] h = some (decide (l = 0), h) := tv_of' ((op2_of' L rfl).trans (by rw [eqD_int]; rfl))
  have t2 : tvM (op2M ltD (op2M ixD (gv 0) (cM (.str "at"))) (bcM lenD (consA (op2M ixD (gv 0) (cM (.str "cells"))) nilA))) [some (.ref k), some (.int b), none, none] h = some (decide (a < ((cs.map D.int).length : Int)), h) :=
    tv_of' ((op2_of' A1 ((bc1_of' C1).trans (len_ref s.ls))).trans (by rw [ltD_int]; rfl))
  have t3 := tv_and (u := tvM (op2M ltD (op2M ixD (gv 0) (cM (.str "at"))) (bcM lenD (consA (op2M ixD (gv 0) (cM (.str "cells"))) nilA)))) t1
  rw [t2] at t3
  by_cases hc : l = 0 ∧ a < cs.length
  · rw [decide_eq_true hc.1, if_pos rfl, List.length_map, decide_eq_true hc.2] at t3
    obtain ⟨x, hx, ex⟩ := at_ints ha hc.2
    have hx0 := s.nn x hx
    have e1 : setS 2 (op2M ixD (op2M ixD (gv 0) (cM (.str "cells"))) (op2M ixD (gv 0) (cM (.str "at")))) [some (.ref k), some (.int b), none, none] h = some (.nx [some (.ref k), some (.int b), some (.int x), none], h) :=
      set_of ((op2_of' C1 A1).trans (ix_list s.ls ex))
    obtain ⟨_, A2, _, _, G2⟩ := rd_st (σ := [some (.ref k), some (.int b), some (.int x), none]) e rfl
    have e2 : subS (op2M addD (op2M ixD (gv 0) (cM (.str "at"))) (cM (.int 1))) (gv 0) (cM (.str "at")) [some (.ref k), some (.int b), some (.int x), none] h = some (.nx [some (.ref k), some (.int b), some (.int x), none], h.set k (stD c (a + 1) l m)) :=
      sub_of ((op2_of' A2 rfl).trans rfl) G2 rfl (st_at e _)
    have s2 : StA k c cs (h.set k (stD c (a + 1) l m)) := s.put hkc hk (by omega) hl
    have f2 : (h.set k (stD c (a + 1) l m))[k]? = some (stD c (a + 1) l m) := List.getElem?_set_self hk
    obtain ⟨_, _, _, M3, G3⟩ := rd_st (σ := [some (.ref k), some (.int b), some (.int x), none]) f2 rfl
    have hk2 : k < (h.set k (stD c (a + 1) l m)).length := by rw [List.length_set]; exact hk
    have e3 : subS (op2M modD (bcM intD (consA (op2M addD (op2M addD (op2M mulD (op2M ixD (gv 0) (cM (.str "mix"))) (cM (.int 48271))) (gv 2)) (cM (.int 11))) nilA)) (cM (.int 2147483647))) (gv 0) (cM (.str "mix")) [some (.ref k), some (.int b), some (.int x), none] (h.set k (stD c (a + 1) l m))
        = some (.nx [some (.ref k), some (.int b), some (.int x), none], (h.set k (stD c (a + 1) l m)).set k (stD c (a + 1) l ((m * 48271 + x + 11) % 2147483647))) :=
      sub_of ((op2_of' ((bc1_of' ((op2_of' ((op2_of' ((op2_of' M3 rfl).trans (mul_int (by decide) _)) rfl).trans rfl) rfl).trans rfl)).trans rfl) rfl).trans (mod_int (by decide) _)) G3 rfl (st_mix f2 _)
    rw [List.set_set] at e3
    have s3 : StA k c cs (h.set k (stD c (a + 1) l ((m * 48271 + x + 11) % 2147483647))) := s.put hkc hk (by omega) hl
    have f3 : (h.set k (stD c (a + 1) l ((m * 48271 + x + 11) % 2147483647)))[k]? = some (stD c (a + 1) l ((m * 48271 + x + 11) % 2147483647)) := List.getElem?_set_self hk
    obtain ⟨_, _, _, _, G4⟩ := rd_st (σ := [some (.ref k), some (.int b), some (.int x), none]) f3 rfl
    have c4 : tvM (op2M ltD (gv 2) (op2M powD (cM (.int 10)) (cM (.int 18)))) [some (.ref k), some (.int b), some (.int x), none] (h.set k (stD c (a + 1) l ((m * 48271 + x + 11) % 2147483647)))
        = some (decide (x < 10 ^ 18), h.set k (stD c (a + 1) l ((m * 48271 + x + 11) % 2147483647))) := tv_of' ((op2_of' rfl rfl).trans (by rw [ltD_int]; rfl))
    by_cases hx2 : x < 10 ^ 18
    · rw [decide_eq_true hx2] at c4
      refine ⟨x % b, h.set k (stD c (a + 1) l ((m * 48271 + x + 11) % 2147483647)), ?_, Int.emod_nonneg _ (by omega), Int.emod_lt_of_pos _ hb, s3, Fr.set _ _ _, List.length_set⟩
      refine run_rt (seq_rt ?_)
      show ifS _ _ _ [some (.ref k), some (.int b), none, none] h = _
      rw [if_of t3, if_pos rfl, seq_nx e1, seq_nx e2, seq_nx e3]
      refine seq_rt ?_
      rw [if_of c4, if_pos rfl]
      exact ret_of ((op2_of' ((bc1_of' rfl).trans rfl) rfl).trans (mod_int hb _))
    · rw [decide_eq_false hx2] at c4
      have e5 : subS (gv 2) (gv 0) (cM (.str "left")) [some (.ref k), some (.int b), some (.int x), none] (h.set k (stD c (a + 1) l ((m * 48271 + x + 11) % 2147483647)))
          = some (.nx [some (.ref k), some (.int b), some (.int x), none], (h.set k (stD c (a + 1) l ((m * 48271 + x + 11) % 2147483647))).set k (stD c (a + 1) x ((m * 48271 + x + 11) % 2147483647))) := sub_of rfl G4 rfl (st_left f3 _)
      rw [List.set_set] at e5
      obtain ⟨n, h1, q1, q2, q3, q4, q5, q6⟩ := drawT_ok (s.put (a := a + 1) (l := x) (m := (m * 48271 + x + 11) % 2147483647) hkc hk (by omega) hx0) (List.getElem?_set_self hk) (by omega) hx0 hb hb2 hkc (some (.int x)) none
      refine ⟨n, h1, run_rt ?_, q2, q3, q4, (Fr.set _ _ _).trans q5, by rw [q6, List.length_set]⟩
      show seqS (ifS _ _ _) drawT [some (.ref k), some (.int b), none, none] h = _
      rw [seq_nx (σ1 := [some (.ref k), some (.int b), some (.int x), none]) (h1 := h.set k (stD c (a + 1) x ((m * 48271 + x + 11) % 2147483647))), q1]
      rw [if_of t3, if_pos rfl, seq_nx e1, seq_nx e2, seq_nx e3, seq_nx (σ1 := [some (.ref k), some (.int b), some (.int x), none]) (by rw [if_of c4, if_neg Bool.false_ne_true]; rfl), e5]
  · obtain ⟨n, h1, q1, q2, q3, q4, q5, q6⟩ := drawT_ok s e ha hl hb hb2 hkc none none
    refine ⟨n, h1, run_rt ?_, q2, q3, q4, q5, q6⟩
    show seqS (ifS _ _ _) drawT [some (.ref k), some (.int b), none, none] h = _
    have t4 : (if decide (l = 0) = true then some (decide (a < ((cs.map D.int).length : Int)), h) else some (false, h)) = some (false, h) := by
      by_cases h0 : l = 0
      · rw [decide_eq_true h0, if_pos rfl, List.length_map, decide_eq_false fun z => hc ⟨h0, z⟩]
      · rw [decide_eq_false h0, if_neg Bool.false_ne_true]
    rw [t4] at t3
    rw [seq_nx (σ1 := [some (.ref k), some (.int b), none, none]) (h1 := h), q1]
    rw [if_of t3, if_neg Bool.false_ne_true]
    rfl
end
end ML

set_option Elab.async false
set_option linter.all false
set_option maxRecDepth 100000
set_option autoImplicit false
namespace ML
open PySem L2
theorem cons_of {m : Sm → M D} {ms : Sm → M (List D)} {σ : Sm} {h h1 h2 : Hm} {d : D} {ds : List D} (e : m σ h = some (d, h1)) (e2 : ms σ h1 = some (ds, h2)) : consA m ms σ h = some (d :: ds, h2) := by
  unfold consA
  rw [bind_of e, bind_of e2]
  rfl
theorem nil_of {σ : Sm} {h : Hm} : nilA σ h = some ([], h) := rfl
theorem call_of' {F : List D → M D} {n : Nat} {ms : Sm → M (List D)} {σ : Sm} {h h1 : Hm} {ds : List D} (e : ms σ h = some (ds, h1)) (hn : ds.length = n) : callM F n ms σ h = F ds h1 := by
  unfold callM
  rw [bind_of e, if_pos hn]
theorem tup_of {ms : Sm → M (List D)} {σ : Sm} {h h1 : Hm} {ds : List D} (e : ms σ h = some (ds, h1)) (hn : ds.length ≤ sizeLine) : tupM ms σ h = some (.tup ds, h1) := by
  unfold tupM
  rw [bind_of e, if_pos hn]
  rfl
theorem lst_of {ms : Sm → M (List D)} {σ : Sm} {h h1 : Hm} {ds : List D} (e : ms σ h = some (ds, h1)) (hn : ds.length ≤ sizeLine) : lstM ms σ h = some (ds, h1) := by
  unfold lstM
  rw [bind_of e, if_pos hn]
  rfl
theorem new_of {ms : Sm → M (List D)} {σ : Sm} {h h1 : Hm} {ds : List D} (e : ms σ h = some (ds, h1)) : newM ms σ h = some (.ref h1.length, h1 ++ [.lst ds]) := by
  unfold newM
  exact bind_of e
theorem bc_of' {ms : Sm → M (List D)} {g : List D → M D} {σ : Sm} {h h1 : Hm} {ds : List D} (e : ms σ h = some (ds, h1)) : bcM g ms σ h = g ds h1 := by
  unfold bcM
  rw [bind_of e]
theorem op1_of' {g : D → M D} {ma : Sm → M D} {σ : Sm} {h h1 : Hm} {a : D} (e : ma σ h = some (a, h1)) : op1M g ma σ h = g a h1 := by
  unfold op1M
  rw [bind_of e]
theorem ifE_of {t : Sm → M Bool} {ma mb : Sm → M D} {σ : Sm} {h h1 : Hm} {b : Bool} (e : t σ h = some (b, h1)) : ifE t ma mb σ h = if b = true then ma σ h1 else mb σ h1 := by
  unfold ifE
  rw [bind_of e]
  cases b <;> rfl
theorem notT_of {t : Sm → M Bool} {σ : Sm} {h h1 : Hm} {b : Bool} (e : t σ h = some (b, h1)) : notT t σ h = some (!b, h1) := by
  unfold notT
  rw [bind_of e]
  rfl
theorem orT_of {t u : Sm → M Bool} {σ : Sm} {h h1 : Hm} {b : Bool} (e : t σ h = some (b, h1)) : orT t u σ h = if b = true then some (true, h1) else u σ h1 := by
  unfold orT
  rw [bind_of e]
  cases b <;> rfl
theorem isi_of {n : String} {m : Sm → M D} {σ : Sm} {h h1 : Hm} {d : D} (e : m σ h = some (d, h1)) : isiM n m σ h = isiD n d h1 := by
  unfold isiM
  rw [bind_of e]
theorem if_no {c : Sm → M Bool} {s : Sm → M Fl} {σ : Sm} {h h1 : Hm} (e : c σ h = some (false, h1)) : ifS c s skipS σ h = some (.nx σ, h1) := by
  unfold ifS
  rw [bind_of e]
  rfl
theorem if_not {c : Sm → M Bool} {s t : Sm → M Fl} {σ : Sm} {h h1 : Hm} (e : c σ h = some (false, h1)) : ifS c s t σ h = t σ h1 := by
  unfold ifS
  rw [bind_of e]
  rfl
theorem if_yes {c : Sm → M Bool} {s t : Sm → M Fl} {σ : Sm} {h h1 : Hm} (e : c σ h = some (true, h1)) : ifS c s t σ h = s σ h1 := by
  unfold ifS
  rw [bind_of e]
  rfl
theorem tv_isi {n ty : String} {m : Sm → M D} {σ : Sm} {h h1 : Hm} {d : D} {b : Bool} (e : m σ h = some (d, h1)) (t : tyD h1 d = some ty) (q : kitB ty n = some b) : tvM (isiM n m) σ h = some (b, h1) := by
  refine tv_of' ((isi_of e).trans ?_)
  unfold isiD
  rw [t]
  dsimp only
  rw [q]
theorem range_of {j : Int} (h0 : 0 ≤ j) (h1 : j < 2 ^ 62) : rngD 0 j = pure (((List.range j.toNat).map fun (i : Nat) => D.int i), none) := by
  unfold rngD
  rw [if_pos ⟨by decide, by decide, by omega, h1⟩]
  simp
theorem itR1_of {ms : Sm → M (List D)} {σ : Sm} {h h1 : Hm} {j : Int} (e : ms σ h = some ([.int j], h1)) (h0 : 0 ≤ j) (hj : j < 2 ^ 62) : itR1 ms σ h = some ((((List.range j.toNat).map fun (i : Nat) => D.int i), none), h1) := by
  unfold itR1
  rw [bind_of e]
  dsimp only
  rw [range_of h0 hj]
  rfl
/-! ### comprehensions, for statements -/
section
variable {items : List D} {i : Nat} {el : Sm → M D} {σ : Sm} {I : Hm → Prop} {P : D → D → Prop} {R : Hm → Hm → Prop}
theorem lcR_some (rr : ∀ h, R h h) (rt : ∀ a b c, R a b → R b c → R a c) : ∀ {l : List D} (hel : ∀ d ∈ l, ∀ h, I h → ∃ y h', el (σ.set i (some d)) h = some (y, h') ∧ I h' ∧ R h h' ∧ P d y) (h : Hm), I h →
    ∃ ys h', lcR items none (nameG i) yesT el l σ h = some (ys, h') ∧ I h' ∧ R h h' ∧ ys.length = l.length ∧ ∀ (j : Nat) (d y : D), l[j]? = some d → ys[j]? = some y → P d y
  | [], _, h, hI => by
    refine ⟨[], h, ?_, hI, rr h, rfl, fun j d y e _ => by simp at e⟩
    unfold lcR
    exact if_pos fun k z => by cases z
  | d :: l, hel, h, hI => by
    obtain ⟨y, h1, e1, i1, r1, p1⟩ := hel d (by simp) h hI
    obtain ⟨ys, h2, e2, i2, r2, l2, p2⟩ := lcR_some rr rt (l := l) (fun d' m => hel d' (List.mem_cons_of_mem _ m)) h1 i1
    refine ⟨y :: ys, h2, ?_, i2, rt _ _ _ r1 r2, by rw [List.length_cons, List.length_cons, l2], fun j d' y' e3 e4 => ?_⟩
    · unfold lcR
      refine (if_pos fun k z => by cases z).trans ?_
      show (match el (σ.set i (some d)) h with | none => none | some (y, h3) => match lcR items none (nameG i) yesT el l σ h3 with | none => none | some (ys, h4) => some (y :: ys, h4)) = _
      rw [e1]
      dsimp only
      rw [e2]
    · cases j with
      | zero =>
        simp only [List.getElem?_cons_zero, Option.some.injEq] at e3 e4
        subst e3 e4
        exact p1
      | succ j => exact p2 j d' y' (by simpa using e3) (by simpa using e4)
theorem lcM_of {it : Sm → M (List D × Option Nat)} {tg : D → Sm → Option Sm} {tt : Sm → M Bool} {vs : List Nat} {h h1 h2 : Hm} {p : List D × Option Nat} {ys : List D} (e : it σ h = some (p, h1)) (e2 : lcR p.1 p.2 tg tt el p.1 (wipeM σ vs) h1 = some (ys, h2)) (hl : ys.length ≤ sizeLine) : lcM it tg tt el vs σ h = some (ys, h2) := by
  unfold lcM
  rw [bind_of e, bind_of e2, if_pos hl]
  rfl
theorem lcR_map {src : Option Nat} {f : D → D} {h : Hm} (hc : Chk items src h) : ∀ {l : List D} (hel : ∀ d ∈ l, el (σ.set i (some d)) h = some (f d, h)), lcR items src (nameG i) yesT el l σ h = some (l.map f, h)
  | [], _ => by
    unfold lcR
    exact if_pos hc
  | d :: l, hel => by
    unfold lcR
    refine (if_pos hc).trans ?_
    show (match el (σ.set i (some d)) h with | none => none | some (y, h3) => match lcR items src (nameG i) yesT el l σ h3 with | none => none | some (ys, h4) => some (y :: ys, h4)) = _
    rw [hel d (by simp)]
    dsimp only
    rw [lcR_map hc fun d' m => hel d' (List.mem_cons_of_mem _ m)]
    rfl
end
/-! ### the start, a pick -/
def absI (i : Int) : Int := if i < 0 then -i else i
theorem start_ok {ns : List Int} (hn : ns.length ≤ 63) : startF [.fro (ns.map .int)] [] = some (.ref 1, [.lst ((ns.map absI).map .int), stD 0 0 0 (7 + ns.length)]) := by
  unfold startF
  refine run_rt (ret_of ?_)
  have e1 : lcM (itV (gv 0)) (nameG 1) yesT (bcM absD (consA (bcM intD (consA (gv 1) nilA)) nilA)) [1] (startM 2 [.fro (ns.map .int)]) [] = some ((ns.map absI).map .int, []) := by
    refine lcM_of (p := (ns.map .int, none)) rfl ?_ (by rw [List.length_map, List.length_map]; exact Nat.le_trans hn (by decide))
    have q := lcR_map (items := ns.map D.int) (src := none) (i := 1) (el := bcM absD (consA (bcM intD (consA (gv 1) nilA)) nilA)) (σ := wipeM (startM 2 [.fro (ns.map .int)]) [1]) (h := []) (f := fun d => match d with | .int i => .int (absI i) | d => d) (fun k z => by cases z) (l := ns.map D.int) fun d hd => by
      obtain ⟨i, _, rfl⟩ := List.mem_map.mp hd
      rfl
    refine q.trans ?_
    rw [List.map_map, List.map_map]
    rfl
  have e2 : newM (lcM (itV (gv 0)) (nameG 1) yesT (bcM absD (consA (bcM intD (consA (gv 1) nilA)) nilA)) [1]) (startM 2 [.fro (ns.map .int)]) [] = some (.ref 0, [.lst ((ns.map absI).map .int)]) := new_of e1
  unfold dispM
  have e3 : pairsM [((cM (.str "cells")), (newM (lcM (itV (gv 0)) (nameG 1) yesT (bcM absD (consA (bcM intD (consA (gv 1) nilA)) nilA)) [1]))), ((cM (.str "at")), (cM (.int 0))), ((cM (.str "left")), (cM (.int 0))), ((cM (.str "mix")), (op2M addD (cM (.int 7)) (bcM lenD (consA (gv 0) nilA))))] (startM 2 [.fro (ns.map .int)]) []
      = some ([(.str "cells", .ref 0), (.str "at", .int 0), (.str "left", .int 0), (.str "mix", .int (7 + ns.length))], [.lst ((ns.map absI).map .int)]) := by
    show (newM _ _ >>= _) [] = _
    rw [bind_of e2]
    show some _ = some _
    rw [List.length_map]
  exact (bind_of e3).trans rfl
theorem start_st {ns : List Int} : StA 1 0 (ns.map absI) [.lst ((ns.map absI).map .int), stD 0 0 0 (7 + ns.length)] := by
  refine ⟨⟨0, 0, 7 + ns.length, rfl, Int.le_refl _, Int.le_refl _⟩, rfl, fun x hx => ?_⟩
  obtain ⟨i, _, rfl⟩ := List.mem_map.mp hx
  unfold absI
  split <;> omega
section
variable {h : Hm} {k c : Nat} {cs : List Int}
theorem pick_ok {j : Nat} {ds : List D} (s : StA k c cs h) (hkc : c ≠ k) (ej : h[j]? = some (.lst ds)) (hjk : j ≠ k) (h0 : ds ≠ []) (hl : ds.length < 1073741824) : ∃ d h1, pickF [.ref k, .ref j] h = some (d, h1) ∧ d ∈ ds ∧ StA k c cs h1 ∧ Fr k h h1 ∧ h1.length = h.length := by
  have hp : 0 < ds.length := List.length_pos_iff.mpr h0
  obtain ⟨n, h1, e1, n0, n1, s1, f1, l1⟩ := draw_ok (b := ds.length) s (by omega) (by omega) hkc
  have hj : j < h.length := (List.getElem?_eq_some_iff.mp ej).1
  have ej1 : h1[j]? = some (.lst ds) := (f1.2 j hj hjk).trans ej
  have hn : n.toNat < ds.length := by omega
  refine ⟨ds[n.toNat], h1, ?_, List.getElem_mem hn, s1, f1, l1⟩
  unfold pickF
  refine run_rt (ret_of ((op2_of' (h1 := h) (a := .ref j) rfl ((call_of' (ds := [.ref k, .int ds.length]) (cons_of rfl (cons_of ((bc1_of' rfl).trans (len_ref ej)) nil_of)) rfl).trans e1)).trans (ix_list ej1 ?_)))
  have q : atI ds ((n.toNat : Nat) : Int) = some ds[n.toNat] := atI_nat (List.getElem?_eq_getElem hn)
  rw [show ((n.toNat : Nat) : Int) = n by omega] at q
  exact q
end
end ML

set_option Elab.async false
set_option linter.all false
set_option maxRecDepth 100000
namespace K28
open PySem L2 ML
def top (i : Nat) : Stmt := PySem.Challenge.pw_calltowers_k28_order_of_things.main.body.getD i (.Pass ⟨0, 0, 0, 0⟩)
abbrev s_rank : Stmt := top 1
abbrev N_rank : List Str := ["thing", "part"]
theorem sc_rank : FnScope N_rank ["thing"] (defScope s_rank) := ⟨rfl, rfl, rfl, by decide +kernel, rfl, by decide +kernel, by decide +kernel⟩
abbrev s__law_start : Stmt := top 3
abbrev N__law_start : List Str := ["script", "cell"]
theorem sc__law_start : FnScope N__law_start ["script"] (defScope s__law_start) := ⟨rfl, rfl, rfl, by decide +kernel, rfl, by decide +kernel, by decide +kernel⟩
abbrev s__law_draw : Stmt := top 4
abbrev N__law_draw : List Str := ["state", "bound", "cell", "number"]
theorem sc__law_draw : FnScope N__law_draw ["state", "bound"] (defScope s__law_draw) := ⟨rfl, rfl, rfl, by decide +kernel, rfl, by decide +kernel, by decide +kernel⟩
abbrev s__law_pick : Stmt := top 5
abbrev N__law_pick : List Str := ["state", "things"]
theorem sc__law_pick : FnScope N__law_pick ["state", "things"] (defScope s__law_pick) := ⟨rfl, rfl, rfl, by decide +kernel, rfl, by decide +kernel, by decide +kernel⟩
abbrev s__law_is : Stmt := top 7
abbrev N__law_is : List Str := ["actual", "due"]
theorem sc__law_is : FnScope N__law_is ["actual", "due"] (defScope s__law_is) := ⟨rfl, rfl, rfl, by decide +kernel, rfl, by decide +kernel, by decide +kernel⟩
abbrev s__law_thing : Stmt := top 8
abbrev N__law_thing : List Str := ["state", "deep", "kind", "k"]
theorem sc__law_thing : FnScope N__law_thing ["state", "deep"] (defScope s__law_thing) := ⟨rfl, rfl, rfl, by decide +kernel, rfl, by decide +kernel, by decide +kernel⟩
abbrev s__law_kind : Stmt := top 9
abbrev N__law_kind : List Str := ["thing"]
theorem sc__law_kind : FnScope N__law_kind ["thing"] (defScope s__law_kind) := ⟨rfl, rfl, rfl, by decide +kernel, rfl, by decide +kernel, by decide +kernel⟩
abbrev s__law_ahead : Stmt := top 10
abbrev N__law_ahead : List Str := ["one", "two", "k"]
theorem sc__law_ahead : FnScope N__law_ahead ["one", "two"] (defScope s__law_ahead) := ⟨rfl, rfl, rfl, by decide +kernel, rfl, by decide +kernel, by decide +kernel⟩
abbrev s_law : Stmt := top 11
abbrev N_law : List Str := ["script", "state", "one", "two", "things", "ordered", "k"]
theorem sc_law : FnScope N_law ["script"] (defScope s_law) := ⟨rfl, rfl, rfl, by decide +kernel, rfl, by decide +kernel, by decide +kernel⟩
noncomputable def F_rank : Nat → List D → M D
  | 0 => fun _ => M.bad
  | n + 1 => runB 2 (seqS (ifS (tvM (op2M isND' (gv 0) (cM .non))) (retS (tupM (consA (cM (.int 0)) nilA))) skipS)
    (seqS (ifS (tvM (isiM "int" (gv 0))) (retS (tupM (consA (cM (.int 1)) (consA (gv 0) nilA)))) skipS)
    (seqS (ifS (tvM (isiM "str" (gv 0))) (retS (tupM (consA (cM (.int 2)) (consA (gv 0) nilA)))) skipS)
    (retS (tupM (consA (cM (.int 3)) (consA (bcM tupL (lcM (itV (gv 0)) (nameG 1) yesT (callM (F_rank n) 1 (consA (gv 1) nilA)) [1])) nilA)))))))
noncomputable def F__law_start : List D → M D := runB 2 (retS (dispM [((cM (.str "cells")), (newM (lcM (itV (gv 0)) (nameG 1) yesT (bcM absD (consA (bcM intD (consA (gv 1) nilA)) nilA)) [1]))), ((cM (.str "at")), (cM (.int 0))), ((cM (.str "left")), (cM (.int 0))), ((cM (.str "mix")), (op2M addD (cM (.int 7)) (bcM lenD (consA (gv 0) nilA))))]))
noncomputable def F__law_draw : List D → M D := runB 4 (seqS (ifS (andT (tvM (op2M eqD (op2M ixD (gv 0) (cM (.str "left"))) (cM (.int 0)))) (tvM (op2M ltD (op2M ixD (gv 0) (cM (.str "at"))) (bcM lenD (consA (op2M ixD (gv 0) (cM (.str "cells"))) nilA))))) (seqS (setS 2 (op2M ixD (op2M ixD (gv 0) (cM (.str "cells"))) (op2M ixD (gv 0) (cM (.str "at")))))
    (seqS (subS (op2M addD (op2M ixD (gv 0) (cM (.str "at"))) (cM (.int 1))) (gv 0) (cM (.str "at")))
    (seqS (subS (op2M modD (bcM intD (consA (op2M addD (op2M addD (op2M mulD (op2M ixD (gv 0) (cM (.str "mix"))) (cM (.int 48271))) (gv 2)) (cM (.int 11))) nilA)) (cM (.int 2147483647))) (gv 0) (cM (.str "mix")))
    (seqS (ifS (tvM (op2M ltD (gv 2) (op2M powD (cM (.int 10)) (cM (.int 18))))) (retS (op2M modD (bcM intD (consA (gv 2) nilA)) (gv 1))) skipS)
    (subS (gv 2) (gv 0) (cM (.str "left"))))))) skipS)
    (seqS (ifS (tvM (op2M (cmpD fun i j => decide (i > j)) (op2M ixD (gv 0) (cM (.str "left"))) (cM (.int 0)))) (seqS (setS 3 (op2M modD (bcM intD (consA (op2M ixD (gv 0) (cM (.str "left"))) nilA)) (gv 1)))
    (seqS (subS (op2M fdivD (op2M ixD (gv 0) (cM (.str "left"))) (gv 1)) (gv 0) (cM (.str "left")))
    (retS (gv 3)))) skipS)
    (seqS (subS (op2M modD (bcM intD (consA (op2M addD (op2M mulD (op2M ixD (gv 0) (cM (.str "mix"))) (cM (.int 48271))) (cM (.int 11))) nilA)) (cM (.int 2147483647))) (gv 0) (cM (.str "mix")))
    (retS (op2M modD (bcM intD (consA (op2M modD (bcM intD (consA (op2M addD (op2M mulD (op2M ixD (gv 0) (cM (.str "mix"))) (cM (.int 69621))) (cM (.int 5))) nilA)) (cM (.int 2147483629))) nilA)) (gv 1))))))
noncomputable def F__law_pick : List D → M D := runB 2 (retS (op2M ixD (gv 1) (callM F__law_draw 2 (consA (gv 0) (consA (bcM lenD (consA (gv 1) nilA)) nilA)))))
noncomputable def F__law_is : List D → M D := runB 2 (retS (andV (isiM "bool" (gv 0)) (op2M eqD (gv 0) (gv 1))))
noncomputable def F__law_thing : Nat → List D → M D
  | 0 => fun _ => M.bad
  | n + 1 => runB 4 (seqS (setS 2 (callM F__law_draw 2 (consA (gv 0) (consA (ifE (tvM (op2M (cmpD fun i j => decide (i > j)) (gv 1) (cM (.int 0)))) (cM (.int 5)) (cM (.int 3))) nilA))))
    (seqS (ifS (tvM (op2M eqD (gv 2) (cM (.int 0)))) (retS (callM F__law_pick 2 (consA (gv 0) (consA (newM (lstM (consA (cM .non) (consA (cM (.int 0)) (consA (cM (.int 1)) (consA (op1M negD (cM (.int 5))) (consA (op2M powD (cM (.int 10)) (cM (.int 20))) nilA))))))) nilA)))) skipS)
    (seqS (ifS (tvM (op2M ltD (gv 2) (cM (.int 3)))) (retS (callM F__law_pick 2 (consA (gv 0) (consA (newM (lstM (consA (cM (.str "")) (consA (cM (.str "a")) (consA (cM (.str "ab")) (consA (cM (.str "b")) (consA (cM (.int 7)) (consA (cM (.int 8)) (consA (cM .non) nilA))))))))) nilA)))) skipS)
    (retS (bcM tupL (lcM (itR1 (consA (callM F__law_draw 2 (consA (gv 0) (consA (cM (.int 4)) nilA))) nilA)) (nameG 3) yesT (callM (F__law_thing n) 2 (consA (gv 0) (consA (op2M subD (gv 1) (cM (.int 1))) nilA))) [3]))))))
noncomputable def F__law_kind : List D → M D := runB 1 (seqS (ifS (tvM (op2M isND' (gv 0) (cM .non))) (retS (cM (.int 0))) skipS)
    (seqS (ifS (tvM (isiM "tuple" (gv 0))) (retS (cM (.int 3))) skipS)
    (retS (ifE (tvM (isiM "str" (gv 0))) (cM (.int 2)) (cM (.int 1))))))
noncomputable def F__law_ahead : Nat → List D → M D
  | 0 => fun _ => M.bad
  | n + 1 => runB 3 (seqS (ifS (tvM (op2M neD (callM F__law_kind 1 (consA (gv 0) nilA)) (callM F__law_kind 1 (consA (gv 1) nilA)))) (retS (op2M ltD (callM F__law_kind 1 (consA (gv 0) nilA)) (callM F__law_kind 1 (consA (gv 1) nilA)))) skipS)
    (seqS (ifS (tvM (op2M isND' (gv 0) (cM .non))) (retS (cM (.bl false))) skipS)
    (seqS (ifS (notT (tvM (isiM "tuple" (gv 0)))) (retS (op2M ltD (gv 0) (gv 1))) skipS)
    (seqS (forS (itR1 (consA (bcM min2D (consA (bcM lenD (consA (gv 0) nilA)) (consA (bcM lenD (consA (gv 1) nilA)) nilA))) nilA)) (nameG 2) (ifS (tvM (op2M neD (op2M ixD (gv 0) (gv 2)) (op2M ixD (gv 1) (gv 2)))) (retS (callM (F__law_ahead n) 2 (consA (op2M ixD (gv 0) (gv 2)) (consA (op2M ixD (gv 1) (gv 2)) nilA)))) skipS))
    (retS (op2M ltD (bcM lenD (consA (gv 0) nilA)) (bcM lenD (consA (gv 1) nilA))))))))
noncomputable def F_law : List D → M D := runB 7 (seqS (setS 1 (callM F__law_start 1 (consA (gv 0) nilA)))
    (seqS (setS 2 (callM (F__law_thing 5) 2 (consA (gv 1) (consA (cM (.int 3)) nilA))))
    (seqS (setS 3 (callM (F__law_thing 5) 2 (consA (gv 1) (consA (cM (.int 3)) nilA))))
    (seqS (ifS (andT (tvM (isiM "tuple" (gv 2))) (tvM (op2M eqD (callM F__law_draw 2 (consA (gv 1) (consA (cM (.int 2)) nilA))) (cM (.int 0))))) (setS 3 (op2M addD (sliceM cutT (gv 2) noP (someP (callM F__law_draw 2 (consA (gv 1) (consA (op2M addD (bcM lenD (consA (gv 2) nilA)) (cM (.int 1))) nilA))))) (callM F__law_pick 2 (consA (gv 1) (consA (newM (lstM (consA (tupM nilA) (consA (tupM (consA (cM .non) nilA)) (consA (tupM (consA (cM (.str "a")) nilA)) nilA))))) nilA))))) skipS)
    (seqS (ifS (orT (notT (tvM (callM F__law_is 2 (consA (op2M ltD (callM (F_rank 6) 1 (consA (gv 2) nilA)) (callM (F_rank 6) 1 (consA (gv 3) nilA))) (consA (callM (F__law_ahead 6) 2 (consA (gv 2) (consA (gv 3) nilA))) nilA))))) (tvM (op2M neD (op2M eqD (callM (F_rank 6) 1 (consA (gv 2) nilA)) (callM (F_rank 6) 1 (consA (gv 3) nilA))) (op2M eqD (gv 2) (gv 3))))) (retS (cM (.bl false))) skipS)
    (seqS (setS 4 (newM (lstM (consA (gv 2) (consA (gv 3) (consA (callM (F__law_thing 5) 2 (consA (gv 1) (consA (cM (.int 2)) nilA))) (consA (callM (F__law_thing 5) 2 (consA (gv 1) (consA (cM (.int 1)) nilA))) nilA)))))))
    (seqS (setS 5 (newM (sortKM (F_rank 6) (gv 4))))
    (retS (notV (bcM anyL (lcM (itR1 (consA (cM (.int 3)) nilA)) (nameG 6) yesT (callM (F__law_ahead 6) 2 (consA (op2M ixD (gv 5) (op2M addD (gv 6) (cM (.int 1)))) (consA (op2M ixD (gv 5) (gv 6)) nilA))) [6])))))))))))
structure Us (K : PySem.W.Frag) (mg : Str → Option Value) where
  a_rank : Addr
  d_rank : FuncData
  F_rank : Fun K "rank" "rank" s_rank a_rank d_rank
  b_rank : Binds K d_rank ["thing"] []
  m_rank : mg "rank" = some (.ref a_rank)
  a__law_start : Addr
  d__law_start : FuncData
  F__law_start : Fun K "_law_start" "_law_start" s__law_start a__law_start d__law_start
  b__law_start : Binds K d__law_start ["script"] []
  m__law_start : mg "_law_start" = some (.ref a__law_start)
  a__law_draw : Addr
  d__law_draw : FuncData
  F__law_draw : Fun K "_law_draw" "_law_draw" s__law_draw a__law_draw d__law_draw
  b__law_draw : Binds K d__law_draw ["state", "bound"] []
  m__law_draw : mg "_law_draw" = some (.ref a__law_draw)
  a__law_pick : Addr
  d__law_pick : FuncData
  F__law_pick : Fun K "_law_pick" "_law_pick" s__law_pick a__law_pick d__law_pick
  b__law_pick : Binds K d__law_pick ["state", "things"] []
  m__law_pick : mg "_law_pick" = some (.ref a__law_pick)
  a__law_is : Addr
  d__law_is : FuncData
  F__law_is : Fun K "_law_is" "_law_is" s__law_is a__law_is d__law_is
  b__law_is : Binds K d__law_is ["actual", "due"] []
  m__law_is : mg "_law_is" = some (.ref a__law_is)
  a__law_thing : Addr
  d__law_thing : FuncData
  F__law_thing : Fun K "_law_thing" "_law_thing" s__law_thing a__law_thing d__law_thing
  b__law_thing : Binds K d__law_thing ["state", "deep"] []
  m__law_thing : mg "_law_thing" = some (.ref a__law_thing)
  a__law_kind : Addr
  d__law_kind : FuncData
  F__law_kind : Fun K "_law_kind" "_law_kind" s__law_kind a__law_kind d__law_kind
  b__law_kind : Binds K d__law_kind ["thing"] []
  m__law_kind : mg "_law_kind" = some (.ref a__law_kind)
  a__law_ahead : Addr
  d__law_ahead : FuncData
  F__law_ahead : Fun K "_law_ahead" "_law_ahead" s__law_ahead a__law_ahead d__law_ahead
  b__law_ahead : Binds K d__law_ahead ["one", "two"] []
  m__law_ahead : mg "_law_ahead" = some (.ref a__law_ahead)
  a_law : Addr
  d_law : FuncData
  F_law : Fun K "law" "law" s_law a_law d_law
  b_law : Binds K d_law ["script"] []
  m_law : mg "law" = some (.ref a_law)
  z_isinstance : mg "isinstance" = none
  z_int : mg "int" = none
  z_str : mg "str" = none
  z_tuple : mg "tuple" = none
  z_len : mg "len" = none
  z_abs : mg "abs" = none
  z_bool : mg "bool" = none
  z_range : mg "range" = none
  z_min : mg "min" = none
  z_sorted : mg "sorted" = none
  z_any : mg "any" = none
section
variable {P : Program} {w : World} {K : PySem.W.Frag} {mg : Str → Option Value} {base : Heap}
theorem ok_rank (U : Us K mg) : ∀ n : Nat, FnOk P w K mg base CX0 (0 + n) U.a_rank U.d_rank ["thing"] (spM ⟨K, mg⟩ 1 (F_rank n))
  | 0 => fn_none
  | n + 1 => by
    have ih := ok_rank U n
    exact fn_ok U.F_rank sc_rank fun cdv A outer s H E hr =>
    (b_cons (s_if (m_tcmp op_isN o2_isN (m_var 0) m_non (nomark _)) (b_one (s_ret (m_tup (a_cons m_int a_nil)))) b_nil)
    (b_cons (s_if (m_tv (m_isi rfl U.z_isinstance (m_var 0) rfl U.z_int (by decide +kernel))) (b_one (s_ret (m_tup (a_cons m_int (a_cons (m_var 0) a_nil))))) b_nil)
    (b_cons (s_if (m_tv (m_isi rfl U.z_isinstance (m_var 0) rfl U.z_str (by decide +kernel))) (b_one (s_ret (m_tup (a_cons m_int (a_cons (m_var 0) a_nil))))) b_nil)
    (b_one (s_ret (m_tup (a_cons m_int (a_cons (m_callTyL call_tuple_of cl_tup rfl U.z_tuple (by decide +kernel) (l_lc (own := [("part", 1)]) (g := (nameG 1)) (tt := yesT) (el := (callM (F_rank n) 1 (consA (gv 1) nilA))) rfl sc_rank.nd (i_val (m_var 0)) (blkOk_by (N := N_rank) (sc := defScope s_rank) (by decide +kernel)) (fun _ _ _ _ _ => (g_name 1 sc_rank.nd rfl (by first | exact Or.inl rfl | exact Or.inr rfl))) (fun _ _ _ _ _ => t_yes) (fun _ _ _ _ _ => (m_call ih hr rfl U.m_rank U.F_rank.kp U.b_rank (a_cons (m_var 1) a_nil))))) a_nil))))))))
theorem ok__law_start (U : Us K mg) : FnOk P w K mg base CX0 1 U.a__law_start U.d__law_start ["script"] (spM ⟨K, mg⟩ 1 F__law_start) :=
  fn_ok U.F__law_start sc__law_start fun cdv A outer s H E hr =>
    (b_one (s_ret (m_disp (pps_cons m_str (m_new (l_lc (own := [("cell", 1)]) (g := (nameG 1)) (tt := yesT) (el := (bcM absD (consA (bcM intD (consA (gv 1) nilA)) nilA))) rfl sc__law_start.nd (i_val (m_var 0)) (blkOk_by (N := N__law_start) (sc := defScope s__law_start) (by decide +kernel)) (fun _ _ _ _ _ => (g_name 1 sc__law_start.nd rfl (by first | exact Or.inl rfl | exact Or.inr rfl))) (fun _ _ _ _ _ => t_yes) (fun _ _ _ _ _ => (m_callB call_abs cm_abs rfl U.z_abs (by decide +kernel) (a_cons (m_callTy call_int1 cm_int rfl U.z_int (by decide +kernel) (a_cons (m_var 1) a_nil)) a_nil))))) (pps_cons m_str m_int (pps_cons m_str m_int (pps_cons m_str (m_op o_add o2_add m_int (m_callB c_len cm_len rfl U.z_len (by decide +kernel) (a_cons (m_var 0) a_nil))) pps_nil)))) rfl rfl (by simp) (by decide))))
theorem ok__law_draw (U : Us K mg) : FnOk P w K mg base CX0 1 U.a__law_draw U.d__law_draw ["state", "bound"] (spM ⟨K, mg⟩ 2 F__law_draw) :=
  fn_ok U.F__law_draw sc__law_draw fun cdv A outer s H E hr =>
    (b_cons (s_if (PW.pt (mw_and (m_tcmp (op_eqD (hr.units)) o2_eq (m_ix (x_ix (hu_of hr)) o2_ix (m_var 0) m_str (fun _ _ => rfl)) m_int (nomark _)) (mw_and1 (m_tcmp (o_lt (hr.units)) o2_lt (m_ix (x_ix (hu_of hr)) o2_ix (m_var 0) m_str (fun _ _ => rfl)) (m_callB c_len cm_len rfl U.z_len (by decide +kernel) (a_cons (m_ix (x_ix (hu_of hr)) o2_ix (m_var 0) m_str (fun _ _ => rfl)) a_nil)) (nomark _))))) (b_cons (s_set 2 sc__law_draw.nd rfl (by first | exact Or.inl rfl | exact Or.inr rfl) (m_ix (x_ix (hu_of hr)) o2_ix (m_ix (x_ix (hu_of hr)) o2_ix (m_var 0) m_str (fun _ _ => rfl)) (m_ix (x_ix (hu_of hr)) o2_ix (m_var 0) m_str (fun _ _ => rfl)) (fun _ _ => rfl)))
    (b_cons (s_sub (hu_of hr) (m_op o_add o2_add (m_ix (x_ix (hu_of hr)) o2_ix (m_var 0) m_str (fun _ _ => rfl)) m_int) (m_var 0) m_str)
    (b_cons (s_sub (hu_of hr) (m_op op_mod o2_mod (m_callTy call_int1 cm_int rfl U.z_int (by decide +kernel) (a_cons (m_op o_add o2_add (m_op o_add o2_add (m_op op_mul o2_mul (m_ix (x_ix (hu_of hr)) o2_ix (m_var 0) m_str (fun _ _ => rfl)) m_int) (m_var 2)) m_int) a_nil)) m_int) (m_var 0) m_str)
    (b_cons (s_if (m_tcmp (o_lt (hr.units)) o2_lt (m_var 2) (m_op op_pow o2_pow m_int m_int) (nomark _)) (b_one (s_ret (m_op op_mod o2_mod (m_callTy call_int1 cm_int rfl U.z_int (by decide +kernel) (a_cons (m_var 2) a_nil)) (m_var 1)))) b_nil)
    (b_one (s_sub (hu_of hr) (m_var 2) (m_var 0) m_str)))))) b_nil)
    (b_cons (s_if (m_tcmp op_gt o2_cmp (m_ix (x_ix (hu_of hr)) o2_ix (m_var 0) m_str (fun _ _ => rfl)) m_int (nomark _)) (b_cons (s_set 3 sc__law_draw.nd rfl (by first | exact Or.inl rfl | exact Or.inr rfl) (m_op op_mod o2_mod (m_callTy call_int1 cm_int rfl U.z_int (by decide +kernel) (a_cons (m_ix (x_ix (hu_of hr)) o2_ix (m_var 0) m_str (fun _ _ => rfl)) a_nil)) (m_var 1)))
    (b_cons (s_sub (hu_of hr) (m_op op_fdiv o2_fdiv (m_ix (x_ix (hu_of hr)) o2_ix (m_var 0) m_str (fun _ _ => rfl)) (m_var 1)) (m_var 0) m_str)
    (b_one (s_ret (m_var 3))))) b_nil)
    (b_cons (s_sub (hu_of hr) (m_op op_mod o2_mod (m_callTy call_int1 cm_int rfl U.z_int (by decide +kernel) (a_cons (m_op o_add o2_add (m_op op_mul o2_mul (m_ix (x_ix (hu_of hr)) o2_ix (m_var 0) m_str (fun _ _ => rfl)) m_int) m_int) a_nil)) m_int) (m_var 0) m_str)
    (b_one (s_ret (m_op op_mod o2_mod (m_callTy call_int1 cm_int rfl U.z_int (by decide +kernel) (a_cons (m_op op_mod o2_mod (m_callTy call_int1 cm_int rfl U.z_int (by decide +kernel) (a_cons (m_op o_add o2_add (m_op op_mul o2_mul (m_ix (x_ix (hu_of hr)) o2_ix (m_var 0) m_str (fun _ _ => rfl)) m_int) m_int) a_nil)) m_int) a_nil)) (m_var 1)))))))
theorem ok__law_pick (U : Us K mg) : FnOk P w K mg base CX0 2 U.a__law_pick U.d__law_pick ["state", "things"] (spM ⟨K, mg⟩ 2 F__law_pick) :=
  fn_ok U.F__law_pick sc__law_pick fun cdv A outer s H E hr =>
    (b_one (s_ret (m_ix (x_ix (hu_of hr)) o2_ix (m_var 1) (m_call (ok__law_draw U) (hr.mono (show 1 ≤ 1 by decide)) rfl U.m__law_draw U.F__law_draw.kp U.b__law_draw (a_cons (m_var 0) (a_cons (m_callB c_len cm_len rfl U.z_len (by decide +kernel) (a_cons (m_var 1) a_nil)) a_nil))) (fun _ _ => rfl))))
theorem ok__law_is (U : Us K mg) : FnOk P w K mg base CX0 1 U.a__law_is U.d__law_is ["actual", "due"] (spM ⟨K, mg⟩ 2 F__law_is) :=
  fn_ok U.F__law_is sc__law_is fun cdv A outer s H E hr =>
    (b_one (s_ret (m_and (m_isi rfl U.z_isinstance (m_var 0) rfl U.z_bool (by decide +kernel)) (m_one (m_cmp (op_eqD (hr.units)) o2_eq (m_var 0) (m_var 1) (nomark _))))))
theorem ok__law_thing (U : Us K mg) : ∀ n : Nat, FnOk P w K mg base CX0 (2 + n) U.a__law_thing U.d__law_thing ["state", "deep"] (spM ⟨K, mg⟩ 2 (F__law_thing n))
  | 0 => fn_none
  | n + 1 => by
    have ih := ok__law_thing U n
    exact fn_ok U.F__law_thing sc__law_thing fun cdv A outer s H E hr =>
    (b_cons (s_set 2 sc__law_thing.nd rfl (by first | exact Or.inl rfl | exact Or.inr rfl) (m_call (ok__law_draw U) (hr.mono (Nat.le_trans (show 1 ≤ 2 by decide) (Nat.le_add_right 2 n))) rfl U.m__law_draw U.F__law_draw.kp U.b__law_draw (a_cons (m_var 0) (a_cons (m_ifExp (m_tcmp op_gt o2_cmp (m_var 1) m_int (nomark _)) m_int m_int) a_nil))))
    (b_cons (s_if (m_tcmp (op_eqD (hr.units)) o2_eq (m_var 2) m_int (nomark _)) (b_one (s_ret (m_call (ok__law_pick U) (hr.mono (Nat.le_trans (show 2 ≤ 2 by decide) (Nat.le_add_right 2 n))) rfl U.m__law_pick U.F__law_pick.kp U.b__law_pick (a_cons (m_var 0) (a_cons (m_new (l_lst (a_cons m_non (a_cons m_int (a_cons m_int (a_cons (m_un un_neg o1_neg m_int) (a_cons (m_op op_pow o2_pow m_int m_int) a_nil))))))) a_nil))))) b_nil)
    (b_cons (s_if (m_tcmp (o_lt (hr.units)) o2_lt (m_var 2) m_int (nomark _)) (b_one (s_ret (m_call (ok__law_pick U) (hr.mono (Nat.le_trans (show 2 ≤ 2 by decide) (Nat.le_add_right 2 n))) rfl U.m__law_pick U.F__law_pick.kp U.b__law_pick (a_cons (m_var 0) (a_cons (m_new (l_lst (a_cons m_str (a_cons m_str (a_cons m_str (a_cons m_str (a_cons m_int (a_cons m_int (a_cons m_non a_nil))))))))) a_nil))))) b_nil)
    (b_one (s_ret (m_callTyL call_tuple_of cl_tup rfl U.z_tuple (by decide +kernel) (l_lc (own := [("k", 3)]) (g := (nameG 3)) (tt := yesT) (el := (callM (F__law_thing n) 2 (consA (gv 0) (consA (op2M subD (gv 1) (cM (.int 1))) nilA)))) rfl sc__law_thing.nd (i_rng1 rfl U.z_range (a_cons (m_call (ok__law_draw U) (hr.mono (Nat.le_trans (show 1 ≤ 2 by decide) (Nat.le_add_right 2 n))) rfl U.m__law_draw U.F__law_draw.kp U.b__law_draw (a_cons (m_var 0) (a_cons m_int a_nil))) a_nil)) (blkOk_by (N := N__law_thing) (sc := defScope s__law_thing) (by decide +kernel)) (fun _ _ _ _ _ => (g_name 3 sc__law_thing.nd rfl (by first | exact Or.inl rfl | exact Or.inr rfl))) (fun _ _ _ _ _ => t_yes) (fun _ _ _ _ _ => (m_call ih hr rfl U.m__law_thing U.F__law_thing.kp U.b__law_thing (a_cons (m_var 0) (a_cons (m_op op_sub o2_sub (m_var 1) m_int) a_nil)))))))))))
theorem ok__law_kind (U : Us K mg) : FnOk P w K mg base CX0 1 U.a__law_kind U.d__law_kind ["thing"] (spM ⟨K, mg⟩ 1 F__law_kind) :=
  fn_ok U.F__law_kind sc__law_kind fun cdv A outer s H E hr =>
    (b_cons (s_if (m_tcmp op_isN o2_isN (m_var 0) m_non (nomark _)) (b_one (s_ret m_int)) b_nil)
    (b_cons (s_if (m_tv (m_isi rfl U.z_isinstance (m_var 0) rfl U.z_tuple (by decide +kernel))) (b_one (s_ret m_int)) b_nil)
    (b_one (s_ret (m_ifExp (m_tv (m_isi rfl U.z_isinstance (m_var 0) rfl U.z_str (by decide +kernel))) m_int m_int)))))
theorem ok__law_ahead (U : Us K mg) : ∀ n : Nat, FnOk P w K mg base CX0 (1 + n) U.a__law_ahead U.d__law_ahead ["one", "two"] (spM ⟨K, mg⟩ 2 (F__law_ahead n))
  | 0 => fn_none
  | n + 1 => by
    have ih := ok__law_ahead U n
    exact fn_ok U.F__law_ahead sc__law_ahead fun cdv A outer s H E hr =>
    (b_cons (s_if (m_tcmp (op_neD (hr.units)) o2_ne (m_call (ok__law_kind U) (hr.mono (Nat.le_trans (show 1 ≤ 1 by decide) (Nat.le_add_right 1 n))) rfl U.m__law_kind U.F__law_kind.kp U.b__law_kind (a_cons (m_var 0) a_nil)) (m_call (ok__law_kind U) (hr.mono (Nat.le_trans (show 1 ≤ 1 by decide) (Nat.le_add_right 1 n))) rfl U.m__law_kind U.F__law_kind.kp U.b__law_kind (a_cons (m_var 1) a_nil)) (nomark _)) (b_one (s_ret (m_cmp (o_lt (hr.units)) o2_lt (m_call (ok__law_kind U) (hr.mono (Nat.le_trans (show 1 ≤ 1 by decide) (Nat.le_add_right 1 n))) rfl U.m__law_kind U.F__law_kind.kp U.b__law_kind (a_cons (m_var 0) a_nil)) (m_call (ok__law_kind U) (hr.mono (Nat.le_trans (show 1 ≤ 1 by decide) (Nat.le_add_right 1 n))) rfl U.m__law_kind U.F__law_kind.kp U.b__law_kind (a_cons (m_var 1) a_nil)) (nomark _)))) b_nil)
    (b_cons (s_if (m_tcmp op_isN o2_isN (m_var 0) m_non (nomark _)) (b_one (s_ret m_bl)) b_nil)
    (b_cons (s_if (mt_not' (m_tv (m_isi rfl U.z_isinstance (m_var 0) rfl U.z_tuple (by decide +kernel)))) (b_one (s_ret (m_cmp (o_lt (hr.units)) o2_lt (m_var 0) (m_var 1) (nomark _)))) b_nil)
    (b_cons (s_for (vs := [2]) PassesOwn.never rfl (i_rng1 rfl U.z_range (a_cons (m_callB (call_min2 rfl) cm_min2 rfl U.z_min (by decide +kernel) (a_cons (m_callB c_len cm_len rfl U.z_len (by decide +kernel) (a_cons (m_var 0) a_nil)) (a_cons (m_callB c_len cm_len rfl U.z_len (by decide +kernel) (a_cons (m_var 1) a_nil)) a_nil))) a_nil)) (g_name 2 sc__law_ahead.nd rfl (by first | exact Or.inl rfl | exact Or.inr rfl)) (b_one (s_if (m_tcmp (op_neD (hr.units)) o2_ne (m_ix (x_ix (hu_of hr)) o2_ix (m_var 0) (m_var 2) (fun _ _ => rfl)) (m_ix (x_ix (hu_of hr)) o2_ix (m_var 1) (m_var 2) (fun _ _ => rfl)) (nomark _)) (b_one (s_ret (m_call ih hr rfl U.m__law_ahead U.F__law_ahead.kp U.b__law_ahead (a_cons (m_ix (x_ix (hu_of hr)) o2_ix (m_var 0) (m_var 2) (fun _ _ => rfl)) (a_cons (m_ix (x_ix (hu_of hr)) o2_ix (m_var 1) (m_var 2) (fun _ _ => rfl)) a_nil))))) b_nil)))
    (b_one (s_ret (m_cmp (o_lt (hr.units)) o2_lt (m_callB c_len cm_len rfl U.z_len (by decide +kernel) (a_cons (m_var 0) a_nil)) (m_callB c_len cm_len rfl U.z_len (by decide +kernel) (a_cons (m_var 1) a_nil)) (nomark _))))))))
theorem ok_law (U : Us K mg) : FnOk P w K mg base CX0 9 U.a_law U.d_law ["script"] (spM ⟨K, mg⟩ 1 F_law) :=
  fn_ok U.F_law sc_law fun cdv A outer s H E hr =>
    (b_cons (s_set 1 sc_law.nd rfl (by first | exact Or.inl rfl | exact Or.inr rfl) (m_call (ok__law_start U) (hr.mono (show 1 ≤ 8 by decide)) rfl U.m__law_start U.F__law_start.kp U.b__law_start (a_cons (m_var 0) a_nil)))
    (b_cons (s_set 2 sc_law.nd rfl (by first | exact Or.inl rfl | exact Or.inr rfl) (m_call (ok__law_thing U 5) (hr.mono (show 7 ≤ 8 by decide)) rfl U.m__law_thing U.F__law_thing.kp U.b__law_thing (a_cons (m_var 1) (a_cons m_int a_nil))))
    (b_cons (s_set 3 sc_law.nd rfl (by first | exact Or.inl rfl | exact Or.inr rfl) (m_call (ok__law_thing U 5) (hr.mono (show 7 ≤ 8 by decide)) rfl U.m__law_thing U.F__law_thing.kp U.b__law_thing (a_cons (m_var 1) (a_cons m_int a_nil))))
    (b_cons (s_if (PW.pt (mw_and (m_tv (m_isi rfl U.z_isinstance (m_var 2) rfl U.z_tuple (by decide +kernel))) (mw_and1 (m_tcmp (op_eqD (hr.units)) o2_eq (m_call (ok__law_draw U) (hr.mono (show 1 ≤ 8 by decide)) rfl U.m__law_draw U.F__law_draw.kp U.b__law_draw (a_cons (m_var 1) (a_cons m_int a_nil))) m_int (nomark _))))) (b_one (s_set 3 sc_law.nd rfl (by first | exact Or.inl rfl | exact Or.inr rfl) (m_op o_add o2_add (m_slice sl_tupA sm_tup (m_var 2) o_none (o_some (m_call (ok__law_draw U) (hr.mono (show 1 ≤ 8 by decide)) rfl U.m__law_draw U.F__law_draw.kp U.b__law_draw (a_cons (m_var 1) (a_cons (m_op o_add o2_add (m_callB c_len cm_len rfl U.z_len (by decide +kernel) (a_cons (m_var 2) a_nil)) m_int) a_nil))))) (m_call (ok__law_pick U) (hr.mono (show 2 ≤ 8 by decide)) rfl U.m__law_pick U.F__law_pick.kp U.b__law_pick (a_cons (m_var 1) (a_cons (m_new (l_lst (a_cons (m_tup a_nil) (a_cons (m_tup (a_cons m_non a_nil)) (a_cons (m_tup (a_cons m_str a_nil)) a_nil))))) a_nil)))))) b_nil)
    (b_cons (s_if (PW.pt (mw_or (mt_not' (m_tv (m_call (ok__law_is U) (hr.mono (show 1 ≤ 8 by decide)) rfl U.m__law_is U.F__law_is.kp U.b__law_is (a_cons (m_cmp (o_lt (hr.units)) o2_lt (m_call (ok_rank U 6) (hr.mono (show 6 ≤ 8 by decide)) rfl U.m_rank U.F_rank.kp U.b_rank (a_cons (m_var 2) a_nil)) (m_call (ok_rank U 6) (hr.mono (show 6 ≤ 8 by decide)) rfl U.m_rank U.F_rank.kp U.b_rank (a_cons (m_var 3) a_nil)) (nomark _)) (a_cons (m_call (ok__law_ahead U 6) (hr.mono (show 7 ≤ 8 by decide)) rfl U.m__law_ahead U.F__law_ahead.kp U.b__law_ahead (a_cons (m_var 2) (a_cons (m_var 3) a_nil))) a_nil))))) (mw_or1 (m_tcmp (op_neD (hr.units)) o2_ne (m_cmp (op_eqD (hr.units)) o2_eq (m_call (ok_rank U 6) (hr.mono (show 6 ≤ 8 by decide)) rfl U.m_rank U.F_rank.kp U.b_rank (a_cons (m_var 2) a_nil)) (m_call (ok_rank U 6) (hr.mono (show 6 ≤ 8 by decide)) rfl U.m_rank U.F_rank.kp U.b_rank (a_cons (m_var 3) a_nil)) (nomark _)) (m_cmp (op_eqD (hr.units)) o2_eq (m_var 2) (m_var 3) (nomark _)) (nomark _))))) (b_one (s_ret m_bl)) b_nil)
    (b_cons (s_set 4 sc_law.nd rfl (by first | exact Or.inl rfl | exact Or.inr rfl) (m_new (l_lst (a_cons (m_var 2) (a_cons (m_var 3) (a_cons (m_call (ok__law_thing U 5) (hr.mono (show 7 ≤ 8 by decide)) rfl U.m__law_thing U.F__law_thing.kp U.b__law_thing (a_cons (m_var 1) (a_cons m_int a_nil))) (a_cons (m_call (ok__law_thing U 5) (hr.mono (show 7 ≤ 8 by decide)) rfl U.m__law_thing U.F__law_thing.kp U.b__law_thing (a_cons (m_var 1) (a_cons m_int a_nil))) a_nil)))))))
    (b_cons (s_set 5 sc_law.nd rfl (by first | exact Or.inl rfl | exact Or.inr rfl) (m_new (l_sortK (ok_rank U 6) (hr.mono (show 8 ≤ 8 by decide)) U.b_rank rfl rfl U.z_sorted (m_var 4) rfl U.m_rank)))
    (b_one (s_ret (m_not (m_callBL (cr_any rfl) cl_any rfl U.z_any (by decide +kernel) (l_lc (own := [("k", 6)]) (g := (nameG 6)) (tt := yesT) (el := (callM (F__law_ahead 6) 2 (consA (op2M ixD (gv 5) (op2M addD (gv 6) (cM (.int 1)))) (consA (op2M ixD (gv 5) (gv 6)) nilA)))) rfl sc_law.nd (i_rng1 rfl U.z_range (a_cons m_int a_nil)) (blkOk_by (N := N_law) (sc := defScope s_law) (by decide +kernel)) (fun _ _ _ _ _ => (g_name 6 sc_law.nd rfl (by first | exact Or.inl rfl | exact Or.inr rfl))) (fun _ _ _ _ _ => t_yes) (fun _ _ _ _ _ => (m_call (ok__law_ahead U 6) (hr.mono (show 7 ≤ 8 by decide)) rfl U.m__law_ahead U.F__law_ahead.kp U.b__law_ahead (a_cons (m_ix (x_ix (hu_of hr)) o2_ix (m_var 5) (m_op o_add o2_add (m_var 6) m_int) (fun _ _ => rfl)) (a_cons (m_ix (x_ix (hu_of hr)) o2_ix (m_var 5) (m_var 6) (fun _ _ => rfl)) a_nil))))))))))))))))
end
end K28

set_option Elab.async false
set_option linter.all false
set_option maxRecDepth 100000
set_option autoImplicit false
namespace K28
open PySem L2 ML
theorem e_draw : F__law_draw = drawF := rfl
theorem e_pick : F__law_pick = pickF := rfl
theorem e_start : F__law_start = startF := rfl
/-- things, at most n deep -/
def leaf : D → Bool
  | .non => true
  | .int _ => true
  | .str x => (PyData.str x).canLay0
  | _ => false
def th : Nat → D → Bool
  | 0, d => leaf d
  | n + 1, d => match d with
    | .tup ds => decide (ds.length ≤ 9) && ds.all (th n)
    | d => leaf d
theorem th_leaf {d : D} (h : leaf d = true) : ∀ n, th n d = true
  | 0 => h
  | n + 1 => by cases d <;> first | exact h | (cases h; done)
theorem th_succ : ∀ {n : Nat} {d : D}, th n d = true → th (n + 1) d = true
  | 0, d, h => th_leaf h 1
  | n + 1, d, h => by
    cases d with
    | tup ds =>
      have h : (decide (ds.length ≤ 9) && ds.all (th n)) = true := h
      show (decide (ds.length ≤ 9) && ds.all (th (n + 1))) = true
      rw [Bool.and_eq_true, List.all_eq_true] at h ⊢
      exact ⟨h.1, fun x hx => th_succ (h.2 x hx)⟩
    | _ => exact h
theorem th_mono {m n : Nat} {d : D} (h : th m d = true) (hmn : m ≤ n) : th n d = true := by
  induction hmn with
  | refl => exact h
  | step _ ih => exact th_succ ih
theorem _root_.ML.StA.push {k c : Nat} {cs : List Int} {h : Hm} (s : StA k c cs h) (o : List O) : StA k c cs (h ++ o) := by
  obtain ⟨a, l, m, e, ha, hl⟩ := s.ex
  exact ⟨⟨a, l, m, by rw [List.getElem?_append_left (List.getElem?_eq_some_iff.mp e).1]; exact e, ha, hl⟩, by rw [List.getElem?_append_left (List.getElem?_eq_some_iff.mp s.ls).1]; exact s.ls, s.nn⟩
theorem pick_new {k c : Nat} {cs : List Int} {h : Hm} {ds : List D} {σ : Sm} {ms : Sm → M (List D)} (s : StA k c cs h) (hkc : c ≠ k) (h0 : ds ≠ []) (hl : ds.length < 1000) (e0 : gv 0 σ h = some (.ref k, h)) (e : ms σ h = some (ds, h)) :
    ∃ d h1, callM F__law_pick 2 (consA (gv 0) (consA (newM (lstM ms)) nilA)) σ h = some (d, h1) ∧ d ∈ ds ∧ StA k c cs h1 ∧ Fr k h h1 := by
  obtain ⟨a, l, m, ek, _, _⟩ := s.ex
  have hk : k < h.length := (List.getElem?_eq_some_iff.mp ek).1
  obtain ⟨d, h1, q1, q2, q3, q4, _⟩ := pick_ok (s.push [.lst ds]) hkc (j := h.length) (ds := ds) (by rw [List.getElem?_append_right (Nat.le_refl _), Nat.sub_self]; rfl) (by omega) h0 (by omega)
  refine ⟨d, h1, ?_, q2, q3, (Fr.push k h _).trans q4⟩
  rw [e_pick]
  exact (call_of' (cons_of e0 (cons_of (new_of (lst_of e (Nat.le_trans (Nat.le_of_lt hl) (by decide)))) nil_of)) rfl).trans q1
theorem thing_ok {k c : Nat} {cs : List Int} (hkc : c ≠ k) : ∀ (n deep : Nat) (h : Hm), deep ≤ n → StA k c cs h → ∃ d h1, F__law_thing (n + 1) [.ref k, .int deep] h = some (d, h1) ∧ th deep d = true ∧ StA k c cs h1 ∧ Fr k h h1 ∧ ∀ ds, d = .tup ds → ds.length ≤ 3
  | n, deep, h, hn, s => by
    have hd : (deep > 0 ∧ decide ((deep : Int) > 0) = true) ∨ (deep = 0 ∧ decide ((deep : Int) > 0) = false) := by
      by_cases z : deep > 0
      · exact .inl ⟨z, decide_eq_true (by omega)⟩
      · exact .inr ⟨by omega, decide_eq_false (by omega)⟩
    have c0 : ifE (tvM (op2M (cmpD fun i j => decide (i > j)) (gv 1) (cM (.int 0)))) (cM (.int 5)) (cM (.int 3)) [some (.ref k), some (.int deep), none, none] h = some (.int (if deep > 0 then 5 else 3), h) := by
      have c1 : tvM (op2M (cmpD fun i j => decide (i > j)) (gv 1) (cM (.int 0))) [some (.ref k), some (.int deep), none, none] h = some (decide ((deep : Int) > 0), h) := rfl
      rw [ifE_of c1]
      rcases hd with ⟨z1, z2⟩ | ⟨z1, z2⟩
      · rw [z2, if_pos rfl, if_pos z1]; rfl
      · rw [z2, if_neg Bool.false_ne_true, if_neg (by omega)]; rfl
    obtain ⟨x, h1, q1, q2, q3, q4, q5, q6⟩ := draw_ok (b := if deep > 0 then 5 else 3) s (by split <;> decide) (by split <;> decide) hkc
    have e1 : setS 2 (callM F__law_draw 2 (consA (gv 0) (consA (ifE (tvM (op2M (cmpD fun i j => decide (i > j)) (gv 1) (cM (.int 0)))) (cM (.int 5)) (cM (.int 3))) nilA))) [some (.ref k), some (.int deep), none, none] h = some (.nx [some (.ref k), some (.int deep), some (.int x), none], h1) :=
      set_of ((call_of' (cons_of rfl (cons_of c0 nil_of)) rfl).trans q1)
    have c2 : tvM (op2M eqD (gv 2) (cM (.int 0))) [some (.ref k), some (.int deep), some (.int x), none] h1 = some (decide (x = 0), h1) := tv_of' ((op2_of' rfl rfl).trans (by rw [eqD_int]; rfl))
    have c3 : tvM (op2M ltD (gv 2) (cM (.int 3))) [some (.ref k), some (.int deep), some (.int x), none] h1 = some (decide (x < 3), h1) := tv_of' ((op2_of' rfl rfl).trans (by rw [ltD_int]; rfl))
    by_cases x0 : x = 0
    · rw [decide_eq_true x0] at c2
      obtain ⟨d, h2, p1, p2, p3, p4⟩ := pick_new (σ := [some (.ref k), some (.int deep), some (.int x), none]) (ms := consA (cM .non) (consA (cM (.int 0)) (consA (cM (.int 1)) (consA (op1M negD (cM (.int 5))) (consA (op2M powD (cM (.int 10)) (cM (.int 20))) nilA)))))
        (ds := [.non, .int 0, .int 1, .int (-5), .int (10 ^ 20)]) q4 hkc (by simp) (by decide) rfl rfl
      have hlf : leaf d = true := ?_
      refine ⟨d, h2, ?_, th_leaf hlf _, p3, q5.trans p4, fun ds z => by rw [z] at hlf; cases hlf⟩
      · unfold F__law_thing
        refine run_rt ?_
        show seqS _ _ [some (.ref k), some (.int deep), none, none] h = _
        rw [seq_nx e1]
        refine seq_rt ?_
        rw [if_of c2, if_pos rfl]
        exact ret_of p1
      · simp only [List.mem_cons, List.not_mem_nil, or_false] at p2
        rcases p2 with rfl | rfl | rfl | rfl | rfl <;> rfl
    · rw [decide_eq_false x0] at c2
      have s2 : ∀ {t u : Sm → M Fl}, seqS (ifS (tvM (op2M eqD (gv 2) (cM (.int 0)))) t skipS) u [some (.ref k), some (.int deep), some (.int x), none] h1 = u [some (.ref k), some (.int deep), some (.int x), none] h1 := fun {t u} => seq_nx (by rw [if_of c2, if_neg Bool.false_ne_true]; rfl)
      by_cases x3 : x < 3
      · rw [decide_eq_true x3] at c3
        obtain ⟨d, h2, p1, p2, p3, p4⟩ := pick_new (σ := [some (.ref k), some (.int deep), some (.int x), none]) (ms := consA (cM (.str "")) (consA (cM (.str "a")) (consA (cM (.str "ab")) (consA (cM (.str "b")) (consA (cM (.int 7)) (consA (cM (.int 8)) (consA (cM .non) nilA)))))))
          (ds := [.str "", .str "a", .str "ab", .str "b", .int 7, .int 8, .non]) q4 hkc (by simp) (by decide) rfl rfl
        have hlf : leaf d = true := ?_
        refine ⟨d, h2, ?_, th_leaf hlf _, p3, q5.trans p4, fun ds z => by rw [z] at hlf; cases hlf⟩
        · unfold F__law_thing
          refine run_rt ?_
          show seqS _ _ [some (.ref k), some (.int deep), none, none] h = _
          rw [seq_nx e1, s2]
          refine seq_rt ?_
          rw [if_of c3, if_pos rfl]
          exact ret_of p1
        · simp only [List.mem_cons, List.not_mem_nil, or_false] at p2
          rcases p2 with rfl | rfl | rfl | rfl | rfl | rfl | rfl <;> first | rfl | decide +kernel
      · rw [decide_eq_false x3] at c3
        have hd0 : deep > 0 := by
          by_cases z : deep > 0
          · exact z
          · rw [if_neg z] at q3; omega
        obtain ⟨m, rfl⟩ : ∃ m, deep = m + 1 := ⟨deep - 1, by omega⟩
        obtain ⟨n, rfl⟩ : ∃ n', n = n' + 1 := ⟨n - 1, by omega⟩
        obtain ⟨y, h2, r1, r2, r3, r4, r5, r6⟩ := draw_ok (b := 4) q4 (by decide) (by decide) hkc
        have ei : itR1 (consA (callM F__law_draw 2 (consA (gv 0) (consA (cM (.int 4)) nilA))) nilA) [some (.ref k), some (.int ((m + 1 : Nat) : Int)), some (.int x), none] h1 = some (((List.range y.toNat).map fun (i : Nat) => D.int i, none), h2) :=
          itR1_of (cons_of ((call_of' (cons_of rfl (cons_of rfl nil_of)) rfl).trans r1) nil_of) r2 (by omega)
        obtain ⟨ys, h3, t1, t2, t3, t4, t5⟩ := lcR_some (items := (List.range y.toNat).map fun (i : Nat) => D.int i) (i := 3) (σ := wipeM [some (.ref k), some (.int ((m + 1 : Nat) : Int)), some (.int x), none] [3]) (el := callM (F__law_thing (n + 1)) 2 (consA (gv 0) (consA (op2M subD (gv 1) (cM (.int 1))) nilA))) (I := StA k c cs) (P := fun _ y => th m y = true) (Fr.refl k) (fun _ _ _ => Fr.trans)
          (l := (List.range y.toNat).map fun (i : Nat) => D.int i) (fun d hd h s => by
            obtain ⟨i, hi, rfl⟩ := List.mem_map.mp hd
            obtain ⟨d, h', u1, u2, u3, u4, _⟩ := thing_ok hkc n m h (by omega) s
            refine ⟨d, h', ?_, u3, u4, u2⟩
            refine (call_of' (ds := [.ref k, .int m]) (cons_of rfl (cons_of ?_ nil_of)) rfl).trans u1
            show some (D.int (((m + 1 : Nat) : Int) - 1), h) = _
            rw [show ((m + 1 : Nat) : Int) - 1 = (m : Int) by omega]) h2 r4
        have hys : ys.length ≤ 3 := by rw [t4, List.length_map, List.length_range]; omega
        refine ⟨.tup ys, h3, ?_, ?_, t2, (q5.trans r5).trans t3, fun ds z => by cases z; exact hys⟩
        · unfold F__law_thing
          refine run_rt ?_
          show seqS _ _ [some (.ref k), some (.int ((m + 1 : Nat) : Int)), none, none] h = _
          rw [seq_nx e1, s2, seq_nx (by rw [if_of c3, if_neg Bool.false_ne_true]; rfl)]
          exact ret_of ((bc_of' (lcM_of ei t1 (Nat.le_trans hys (by decide)))).trans rfl)
        · show (decide (ys.length ≤ 9) && ys.all (th m)) = true
          rw [Bool.and_eq_true, List.all_eq_true]
          refine ⟨decide_eq_true (by omega), fun z hz => ?_⟩
          obtain ⟨j, hj, ej⟩ := List.getElem_of_mem hz
          have hj2 : j < ((List.range y.toNat).map fun (i : Nat) => D.int i).length := by rw [← t4]; exact hj
          exact t5 j _ z (List.getElem?_eq_getElem hj2) (by rw [List.getElem?_eq_getElem hj, ej])
end K28

set_option Elab.async false
set_option linter.all false
set_option maxRecDepth 100000
set_option autoImplicit false
namespace K28
open PySem L2 ML
mutual
/-- the rank of a thing -/
def rk : D → D
  | .non => .tup [.int 0]
  | .int i => .tup [.int 1, .int i]
  | .str x => .tup [.int 2, .str x]
  | .tup ds => .tup [.int 3, .tup (rks ds)]
  | d => d
def rks : List D → List D
  | [] => []
  | d :: r => rk d :: rks r
end
theorem rks_map : ∀ ds : List D, rks ds = ds.map rk
  | [] => rfl
  | d :: r => by rw [rks, rks_map r]; rfl
def isN : D → Bool
  | .non => true
  | _ => false
theorem tv_none {d : D} {σ : Sm} {h : Hm} (e : gv 0 σ h = some (d, h)) (hg : ∀ x, d ≠ .glob x) : tvM (op2M isND' (gv 0) (cM .non)) σ h = some (isN d, h) := by
  refine tv_of' ((op2_of' e rfl).trans ?_)
  cases d with
  | glob x => exact absurd rfl (hg x)
  | _ => rfl
theorem th_cases {n : Nat} {d : D} (h : th n d = true) : d = .non ∨ (∃ i, d = .int i) ∨ (∃ x, d = .str x ∧ (PyData.str x).canLay0 = true) ∨ ∃ m ds, n = m + 1 ∧ d = .tup ds ∧ ds.length ≤ 9 ∧ ∀ x ∈ ds, th m x = true := by
  cases n with
  | zero =>
    have h : leaf d = true := h
    cases d with
    | non => exact .inl rfl
    | int i => exact .inr (.inl ⟨i, rfl⟩)
    | str x => exact .inr (.inr (.inl ⟨x, rfl, h⟩))
    | _ => cases h
  | succ m =>
    cases d with
    | non => exact .inl rfl
    | int i => exact .inr (.inl ⟨i, rfl⟩)
    | str x => exact .inr (.inr (.inl ⟨x, rfl, h⟩))
    | tup ds =>
      have h : (decide (ds.length ≤ 9) && ds.all (th m)) = true := h
      rw [Bool.and_eq_true, List.all_eq_true] at h
      exact .inr (.inr (.inr ⟨m, ds, rfl, rfl, of_decide_eq_true h.1, h.2⟩))
    | _ => cases h
theorem kit_ii : kitB "int" "int" = some true := by decide +kernel
theorem kit_si : kitB "str" "int" = some false := by decide +kernel
theorem kit_ss : kitB "str" "str" = some true := by decide +kernel
theorem kit_ti : kitB "tuple" "int" = some false := by decide +kernel
theorem kit_ts : kitB "tuple" "str" = some false := by decide +kernel
theorem kit_tt : kitB "tuple" "tuple" = some true := by decide +kernel
theorem kit_it : kitB "int" "tuple" = some false := by decide +kernel
theorem kit_st : kitB "str" "tuple" = some false := by decide +kernel
theorem kit_is : kitB "int" "str" = some false := by decide +kernel
theorem kit_bb : kitB "bool" "bool" = some true := by decide +kernel
theorem rank_ok : ∀ (n : Nat) (d : D) (h : Hm), th n d = true → F_rank (n + 1) [d] h = some (rk d, h)
  | n, d, h, ht => by
    unfold F_rank
    refine run_rt ?_
    show seqS _ _ [some d, none] h = _
    rcases th_cases ht with rfl | ⟨i, rfl⟩ | ⟨x, rfl, _⟩ | ⟨m, ds, rfl, rfl, hl, hm⟩
    · refine seq_rt ?_
      rw [if_yes (tv_none (d := .non) rfl fun _ z => by cases z)]
      exact ret_of (tup_of (cons_of rfl nil_of) (by show 1 ≤ sizeLine; decide))
    · rw [seq_nx (if_no (tv_none (d := .int i) rfl fun _ z => by cases z))]
      refine seq_rt ?_
      rw [if_yes (tv_isi (d := .int i) rfl rfl kit_ii)]
      exact ret_of (tup_of (cons_of rfl (cons_of rfl nil_of)) (by show 2 ≤ sizeLine; decide))
    · rw [seq_nx (if_no (tv_none (d := .str x) rfl fun _ z => by cases z)), seq_nx (if_no (tv_isi (d := .str x) rfl rfl kit_si))]
      refine seq_rt ?_
      rw [if_yes (tv_isi (d := .str x) rfl rfl kit_ss)]
      exact ret_of (tup_of (cons_of rfl (cons_of rfl nil_of)) (by show 2 ≤ sizeLine; decide))
    · rw [seq_nx (if_no (tv_none (d := .tup ds) rfl fun _ z => by cases z)), seq_nx (if_no (tv_isi (d := .tup ds) rfl rfl kit_ti)), seq_nx (if_no (tv_isi (d := .tup ds) rfl rfl kit_ts))]
      have el : lcM (itV (gv 0)) (nameG 1) yesT (callM (F_rank (m + 1)) 1 (consA (gv 1) nilA)) [1] [some (.tup ds), none] h = some (ds.map rk, h) := by
        refine lcM_of (p := (ds, none)) rfl (lcR_map (fun k z => by cases z) fun d' hd' => ?_) (by rw [List.length_map]; exact Nat.le_trans hl (by decide))
        exact (call_of' (cons_of rfl nil_of) rfl).trans (rank_ok m d' h (hm d' hd'))
      refine ret_of ((tup_of (ds := [.int 3, .tup (ds.map rk)]) (cons_of rfl (cons_of ((bc_of' el).trans rfl) nil_of)) (by show 2 ≤ sizeLine; decide)).trans ?_)
      rw [rk, rks_map]
end K28

set_option Elab.async false
set_option linter.all false
set_option maxRecDepth 100000
set_option autoImplicit false
namespace K28
open PySem L2 ML
/-! ### things as data -/
theorem toPs_map : ∀ ds : List D, toPs ds = ds.map toP
  | [] => rfl
  | d :: r => by rw [toPs, toPs_map r]; rfl
theorem eqvAll_iff : ∀ (as bs : List D) (f : D → D), (∀ a ∈ as, ∀ b ∈ bs, (PyData.eqv (toP (f a)) (toP (f b)) = true ↔ a = b)) → (PyData.eqvAll (toPs (as.map f)) (toPs (bs.map f)) = true ↔ as = bs)
  | [], [], f, _ => by simp [toPs, PyData.eqvAll]
  | [], b :: bs, f, _ => by simp [toPs, PyData.eqvAll]
  | a :: as, [], f, _ => by simp [toPs, PyData.eqvAll]
  | a :: as, b :: bs, f, h => by
    rw [List.map_cons, List.map_cons, toPs, toPs, PyData.eqvAll, Bool.and_eq_true, h a (by simp) b (by simp), eqvAll_iff as bs f fun x hx y hy => h x (by simp [hx]) y (by simp [hy])]
    simp
theorem canLayAll_of : ∀ (as : List D) (f : D → D), (∀ a ∈ as, (toP (f a)).canLay0 = true) → PyData.canLayAll0 (toPs (as.map f)) = true
  | [], f, _ => by simp [toPs, PyData.canLayAll0]
  | a :: as, f, h => by
    rw [List.map_cons, toPs, PyData.canLayAll0, h a (by simp), canLayAll_of as f fun x hx => h x (by simp [hx])]
    rfl
theorem depthAll_of {n : Nat} : ∀ (as : List D) (f : D → D), (∀ a ∈ as, (toP (f a)).depth ≤ n) → PyData.depthAll (toPs (as.map f)) ≤ n
  | [], f, _ => by simp [toPs, PyData.depthAll]
  | a :: as, f, h => by
    rw [List.map_cons, toPs, PyData.depthAll]
    exact Nat.max_le.mpr ⟨h a (by simp), depthAll_of as f fun x hx => h x (by simp [hx])⟩
theorem map_id' (ds : List D) : ds.map (fun d => d) = ds := List.map_id' ds
theorem eqv_iff : ∀ (n : Nat) (a b : D), th n a = true → th n b = true → (PyData.eqv (toP a) (toP b) = true ↔ a = b)
  | n, a, b, ha, hb => by
    rcases th_cases ha with rfl | ⟨i, rfl⟩ | ⟨x, rfl, _⟩ | ⟨m, ds, rfl, rfl, hl, hm⟩ <;> rcases th_cases hb with rfl | ⟨j, rfl⟩ | ⟨y, rfl, _⟩ | ⟨m', es, e, rfl, hl', hm'⟩ <;>
      first
      | (simp [toP, PyData.eqv]; done)
      | skip
    · cases e
      have q := eqvAll_iff ds es (fun d => d) fun x hx y hy => eqv_iff m x y (hm x hx) (hm' y hy)
      rw [map_id', map_id'] at q
      rw [toP, toP, PyData.eqv, q]
      simp
theorem eqv_rk : ∀ (n : Nat) (a b : D), th n a = true → th n b = true → (PyData.eqv (toP (rk a)) (toP (rk b)) = true ↔ a = b)
  | n, a, b, ha, hb => by
    rcases th_cases ha with rfl | ⟨i, rfl⟩ | ⟨x, rfl, _⟩ | ⟨m, ds, rfl, rfl, hl, hm⟩ <;> rcases th_cases hb with rfl | ⟨j, rfl⟩ | ⟨y, rfl, _⟩ | ⟨m', es, e, rfl, hl', hm'⟩ <;>
      first
      | (simp [rk, toP, toPs, PyData.eqv, PyData.eqvAll]; done)
      | skip
    · cases e
      have q := eqvAll_iff ds es rk fun x hx y hy => eqv_rk m x y (hm x hx) (hm' y hy)
      simp only [rk, toP, toPs, PyData.eqv, PyData.eqvAll, rks_map, q, Bool.and_true, Bool.and_eq_true, beq_self_eq_true, true_and]
      simp
theorem lay_of : ∀ (n : Nat) (a : D), th n a = true → (toP a).canLay0 = true ∧ (toP a).depth ≤ n
  | n, a, ha => by
    rcases th_cases ha with rfl | ⟨i, rfl⟩ | ⟨x, rfl, hx⟩ | ⟨m, ds, rfl, rfl, hl, hm⟩
    · exact ⟨by rw [toP, PyData.canLay0], by rw [toP, PyData.depth]; omega⟩
    · exact ⟨by rw [toP, PyData.canLay0], by rw [toP, PyData.depth]; omega⟩
    · exact ⟨by rw [toP]; exact hx, by rw [toP, PyData.depth]; omega⟩
    · have q1 := canLayAll_of ds (fun d => d) fun x hx => (lay_of m x (hm x hx)).1
      have q2 := depthAll_of (n := m) ds (fun d => d) fun x hx => (lay_of m x (hm x hx)).2
      rw [map_id'] at q1 q2
      exact ⟨by rw [toP, PyData.canLay0]; exact q1, by rw [toP, PyData.depth]; omega⟩
theorem lay_rk : ∀ (n : Nat) (a : D), th n a = true → (toP (rk a)).canLay0 = true ∧ (toP (rk a)).depth ≤ 2 * n + 1
  | n, a, ha => by
    rcases th_cases ha with rfl | ⟨i, rfl⟩ | ⟨x, rfl, hx⟩ | ⟨m, ds, rfl, rfl, hl, hm⟩
    · exact ⟨by simp [rk, toP, toPs, PyData.canLay0, PyData.canLayAll0], by simp [rk, toP, toPs, PyData.depth, PyData.depthAll]⟩
    · exact ⟨by simp [rk, toP, toPs, PyData.canLay0, PyData.canLayAll0], by simp [rk, toP, toPs, PyData.depth, PyData.depthAll]⟩
    · exact ⟨by simp only [rk, toP, toPs, PyData.canLayAll0, Bool.and_true]; rw [PyData.canLay0]; simp only [PyData.canLayAll0, hx, Bool.and_true]; rw [PyData.canLay0], by simp [rk, toP, toPs, PyData.depth, PyData.depthAll]⟩
    · have q1 := canLayAll_of ds rk fun x hx => (lay_rk m x (hm x hx)).1
      have q2 := depthAll_of (n := 2 * m + 1) ds rk fun x hx => (lay_rk m x (hm x hx)).2
      rw [← rks_map] at q1 q2
      refine ⟨by simp [rk, toP, toPs, PyData.canLay0, PyData.canLayAll0, q1], ?_⟩
      simp only [rk, toP, toPs, PyData.depth, PyData.depthAll]
      omega
theorem ok_th {n : Nat} {a : D} (h : th n a = true) (hn : n ≤ 20) : okD a = true := by
  have q := lay_of n a h
  unfold okD SeqAt.shaped
  rw [q.1, decide_eq_true (by omega)]
  rfl
theorem ok_rk {n : Nat} {a : D} (h : th n a = true) (hn : n ≤ 20) : okD (rk a) = true := by
  have q := lay_rk n a h
  unfold okD SeqAt.shaped
  rw [q.1, decide_eq_true (by omega)]
  rfl
theorem ne_th {n : Nat} {a b : D} (ha : th n a = true) (hb : th n b = true) (hn : n ≤ 20) (h : Hm) : neD a b h = some (.bl (!decide (a = b)), h) := by
  unfold neD
  rw [if_pos ⟨ok_th ha hn, ok_th hb hn⟩]
  show some (D.bl (!PyData.eqv (toP a) (toP b)), h) = _
  have q := eqv_iff n a b ha hb
  by_cases e : a = b
  · rw [q.mpr e, decide_eq_true e]
  · rw [decide_eq_false e, Bool.eq_false_iff.mpr fun z => e (q.mp z)]
theorem eq_th {n : Nat} {a b : D} (ha : th n a = true) (hb : th n b = true) (hn : n ≤ 20) (h : Hm) : eqD a b h = some (.bl (decide (a = b)), h) := by
  unfold eqD
  rw [if_pos ⟨ok_th ha hn, ok_th hb hn⟩]
  show some (D.bl (PyData.eqv (toP a) (toP b)), h) = _
  have q := eqv_iff n a b ha hb
  by_cases e : a = b
  · rw [q.mpr e, decide_eq_true e]
  · rw [decide_eq_false e, Bool.eq_false_iff.mpr fun z => e (q.mp z)]
theorem eq_rk {n : Nat} {a b : D} (ha : th n a = true) (hb : th n b = true) (hn : n ≤ 20) (h : Hm) : eqD (rk a) (rk b) h = some (.bl (decide (a = b)), h) := by
  unfold eqD
  rw [if_pos ⟨ok_rk ha hn, ok_rk hb hn⟩]
  show some (D.bl (PyData.eqv (toP (rk a)) (toP (rk b))), h) = _
  have q := eqv_rk n a b ha hb
  by_cases e : a = b
  · rw [q.mpr e, decide_eq_true e]
  · rw [decide_eq_false e, Bool.eq_false_iff.mpr fun z => e (q.mp z)]
theorem lt_ok {a b : D} {k : Bool} (ha : okD a = true) (hb : okD b = true) (e : ltP (toP a) (toP b) = some k) (h : Hm) : ltD a b h = some (.bl k, h) := by
  unfold ltD
  rw [if_pos ⟨ha, hb⟩, e]
  rfl
end K28

set_option Elab.async false
set_option linter.all false
set_option maxRecDepth 100000
set_option autoImplicit false
namespace K28
open PySem L2 ML
def kd : D → Int
  | .non => 0
  | .tup _ => 3
  | .str _ => 2
  | _ => 1
theorem kind_ok {n : Nat} {d : D} (ht : th n d = true) (h : Hm) : F__law_kind [d] h = some (.int (kd d), h) := by
  unfold F__law_kind
  refine run_rt ?_
  show seqS _ _ [some d] h = _
  rcases th_cases ht with rfl | ⟨i, rfl⟩ | ⟨x, rfl, _⟩ | ⟨m, ds, rfl, rfl, hl, hm⟩
  · refine seq_rt ?_
    rw [if_yes (tv_none (d := .non) rfl fun _ z => by cases z)]
    rfl
  · rw [seq_nx (if_no (tv_none (d := .int i) rfl fun _ z => by cases z)), seq_nx (if_no (tv_isi (d := .int i) rfl rfl kit_it))]
    exact ret_of ((ifE_of (tv_isi (d := .int i) rfl rfl kit_is)).trans rfl)
  · rw [seq_nx (if_no (tv_none (d := .str x) rfl fun _ z => by cases z)), seq_nx (if_no (tv_isi (d := .str x) rfl rfl kit_st))]
    exact ret_of ((ifE_of (tv_isi (d := .str x) rfl rfl kit_ss)).trans rfl)
  · rw [seq_nx (if_no (tv_none (d := .tup ds) rfl fun _ z => by cases z))]
    refine seq_rt ?_
    rw [if_yes (tv_isi (d := .tup ds) rfl rfl kit_tt)]
    rfl
theorem rk_head {n : Nat} {d : D} (ht : th n d = true) : ∃ r, toP (rk d) = .tuple (.int (kd d) :: r) := by
  rcases th_cases ht with rfl | ⟨i, rfl⟩ | ⟨x, rfl, _⟩ | ⟨m, ds, rfl, rfl, hl, hm⟩ <;> exact ⟨_, rfl⟩
theorem str_irr (x : Str) : decide (x.cps.toList < x.cps.toList) = false := decide_eq_false (List.lt_irrefl _)
/-- the places of two tuples, from i on -/
theorem walk_ok {n : Nat} {ds es : List D} {items : List D} (hds : ∀ x ∈ ds, th n x = true) (hes : ∀ x ∈ es, th n x = true) (hn : n ≤ 20)
    (ih : ∀ (a b : D) (h : Hm), th n a = true → th n b = true → ∃ k, F__law_ahead (n + 1) [a, b] h = some (.bl k, h) ∧ ML.ltP (toP (rk a)) (toP (rk b)) = some k) (h : Hm) :
    ∀ (j i : Nat) (s2 : Option D), i + j = min ds.length es.length → ∃ k, ltPs (toPs (rks (ds.drop i))) (toPs (rks (es.drop i))) = some k ∧
      ((∃ s3, forR items none (nameG 2) (ifS (tvM (op2M neD (op2M ixD (gv 0) (gv 2)) (op2M ixD (gv 1) (gv 2)))) (retS (callM (F__law_ahead (n + 1)) 2 (consA (op2M ixD (gv 0) (gv 2)) (consA (op2M ixD (gv 1) (gv 2)) nilA)))) skipS) ((List.range' i j).map fun (i : Nat) => D.int i) [some (.tup ds), some (.tup es), s2] h = some (.nx [some (.tup ds), some (.tup es), s3], h) ∧ k = decide (ds.length < es.length)) ∨
       forR items none (nameG 2) (ifS (tvM (op2M neD (op2M ixD (gv 0) (gv 2)) (op2M ixD (gv 1) (gv 2)))) (retS (callM (F__law_ahead (n + 1)) 2 (consA (op2M ixD (gv 0) (gv 2)) (consA (op2M ixD (gv 1) (gv 2)) nilA)))) skipS) ((List.range' i j).map fun (i : Nat) => D.int i) [some (.tup ds), some (.tup es), s2] h = some (.rt (.bl k), h))
  | 0, i, s2, hi => by
    refine ⟨decide (ds.length < es.length), ?_, .inl ⟨s2, ?_, rfl⟩⟩
    · rcases Nat.lt_or_ge i ds.length with h1 | h1
      · have h2 : es.length ≤ i := by omega
        rw [List.drop_eq_getElem_cons h1, List.drop_eq_nil_of_le h2, rks, rks, toPs, toPs, ltPs, decide_eq_false (by omega)]
      · rcases Nat.lt_or_ge i es.length with h2 | h2
        · rw [List.drop_eq_getElem_cons h2, List.drop_eq_nil_of_le h1, rks, rks, toPs, toPs, ltPs, decide_eq_true (by omega)]
        · rw [List.drop_eq_nil_of_le h1, List.drop_eq_nil_of_le h2, rks, toPs, ltPs, decide_eq_false (by omega)]
    · unfold forR
      exact if_pos fun k z => by cases z
  | j + 1, i, s2, hi => by
    have h1 : i < ds.length := by omega
    have h2 : i < es.length := by omega
    have t1 := hds ds[i] (List.getElem_mem h1)
    have t2 := hes es[i] (List.getElem_mem h2)
    have g0 : op2M ixD (gv 0) (gv 2) [some (.tup ds), some (.tup es), some (.int (i : Nat))] h = some (ds[i], h) := by
      refine (op2_of' rfl rfl).trans ?_
      show (atI ds (i : Int)).map (fun d => (d, h)) = _
      rw [atI_nat (List.getElem?_eq_getElem h1)]
      rfl
    have g1 : op2M ixD (gv 1) (gv 2) [some (.tup ds), some (.tup es), some (.int (i : Nat))] h = some (es[i], h) := by
      refine (op2_of' rfl rfl).trans ?_
      show (atI es (i : Int)).map (fun d => (d, h)) = _
      rw [atI_nat (List.getElem?_eq_getElem h2)]
      rfl
    have c1 : tvM (op2M neD (op2M ixD (gv 0) (gv 2)) (op2M ixD (gv 1) (gv 2))) [some (.tup ds), some (.tup es), some (.int (i : Nat))] h = some (!decide (ds[i] = es[i]), h) := tv_of' ((op2_of' g0 g1).trans (ne_th t1 t2 hn h))
    rw [List.drop_eq_getElem_cons h1, List.drop_eq_getElem_cons h2, rks, rks, toPs, toPs, ltPs, List.range'_succ, List.map_cons]
    have unf : ∀ (b : Sm → M Fl) (l : List D) (x : D), forR items none (nameG 2) b (x :: l) [some (.tup ds), some (.tup es), s2] h = (match b [some (.tup ds), some (.tup es), some x] h with
      | none => none
      | some (.nx σ2, h2) => forR items none (nameG 2) b l σ2 h2
      | some (.ct σ2, h2) => forR items none (nameG 2) b l σ2 h2
      | some (.bk σ2, h2) => some (.nx σ2, h2)
      | some (.rt d, h2) => some (.rt d, h2)) := fun b l x => by
      rw [forR]
      exact if_pos fun k z => by cases z
    by_cases e : ds[i] = es[i]
    · obtain ⟨k, q1, q2⟩ := walk_ok hds hes hn ih h j (i + 1) (some (.int i)) (by omega)
      rw [if_pos ((eqv_rk n _ _ t1 t2).mpr e)]
      refine ⟨k, q1, ?_⟩
      rw [decide_eq_true e] at c1
      rw [unf, if_no c1]
      exact q2
    · rw [if_neg (fun z => e ((eqv_rk n _ _ t1 t2).mp z))]
      obtain ⟨k, q1, q2⟩ := ih ds[i] es[i] h t1 t2
      refine ⟨k, q2, .inr ?_⟩
      rw [decide_eq_false e] at c1
      have e2 : retS (callM (F__law_ahead (n + 1)) 2 (consA (op2M ixD (gv 0) (gv 2)) (consA (op2M ixD (gv 1) (gv 2)) nilA))) [some (.tup ds), some (.tup es), some (.int (i : Nat))] h = some (.rt (.bl k), h) :=
        ret_of ((call_of' (cons_of g0 (cons_of g1 nil_of)) rfl).trans q1)
      rw [unf, if_yes c1, e2]
theorem ahead_ok : ∀ (n : Nat) (a b : D) (h : Hm), n ≤ 20 → th n a = true → th n b = true → ∃ k, F__law_ahead (n + 1) [a, b] h = some (.bl k, h) ∧ ML.ltP (toP (rk a)) (toP (rk b)) = some k
  | n, a, b, h, hn, ha, hb => by
    obtain ⟨ra, ea⟩ := rk_head ha
    obtain ⟨rb, eb⟩ := rk_head hb
    have ka : callM F__law_kind 1 (consA (gv 0) nilA) [some a, some b, none] h = some (.int (kd a), h) := (call_of' (cons_of rfl nil_of) rfl).trans (kind_ok ha h)
    have kb : callM F__law_kind 1 (consA (gv 1) nilA) [some a, some b, none] h = some (.int (kd b), h) := (call_of' (cons_of rfl nil_of) rfl).trans (kind_ok hb h)
    have c1 : tvM (op2M neD (callM F__law_kind 1 (consA (gv 0) nilA)) (callM F__law_kind 1 (consA (gv 1) nilA))) [some a, some b, none] h = some (!decide (kd a = kd b), h) := tv_of' ((op2_of' ka kb).trans (by rw [neD_int]; rfl))
    unfold F__law_ahead
    by_cases e : kd a = kd b
    · rw [decide_eq_true e] at c1
      rcases th_cases ha with rfl | ⟨i, rfl⟩ | ⟨x, rfl, _⟩ | ⟨m, ds, rfl, rfl, hl, hm⟩ <;> rcases th_cases hb with rfl | ⟨j, rfl⟩ | ⟨y, rfl, _⟩ | ⟨m', es, em, rfl, hl', hm'⟩ <;>
        first
        | (exfalso; simp [kd] at e; done)
        | skip
      · refine ⟨false, run_rt ?_, rfl⟩
        show seqS _ _ [some .non, some .non, none] h = _
        rw [seq_nx (if_no c1)]
        refine seq_rt ?_
        rw [if_yes (tv_none (d := .non) rfl fun _ z => by cases z)]
        rfl
      · refine ⟨decide (i < j), run_rt ?_, ?_⟩
        · show seqS _ _ [some (.int i), some (.int j), none] h = _
          rw [seq_nx (if_no c1), seq_nx (if_no (tv_none (d := .int i) rfl fun _ z => by cases z))]
          refine seq_rt ?_
          rw [if_yes (notT_of (tv_isi (d := .int i) rfl rfl kit_it))]
          exact ret_of ((op2_of' rfl rfl).trans (by rw [ltD_int]; rfl))
        · simp only [rk, toP, toPs, ML.ltP, ltPs, PyData.eqv, beq_self_eq_true, if_true]
          by_cases z : i = j
          · subst z; simp
          · exact if_neg (by simpa using z)
      · refine ⟨decide (x.cps.toList < y.cps.toList), run_rt ?_, ?_⟩
        · show seqS _ _ [some (.str x), some (.str y), none] h = _
          rw [seq_nx (if_no c1), seq_nx (if_no (tv_none (d := .str x) rfl fun _ z => by cases z))]
          refine seq_rt ?_
          rw [if_yes (notT_of (tv_isi (d := .str x) rfl rfl kit_st))]
          exact ret_of ((op2_of' rfl rfl).trans (lt_ok (ok_th ha hn) (ok_th hb hn) (by rw [toP, toP, ML.ltP]) h))
        · simp only [rk, toP, toPs, ML.ltP, ltPs, PyData.eqv, beq_self_eq_true, if_true]
          by_cases z : x = y
          · subst z; simp
          · exact if_neg (by simpa using z)
      · cases em
        obtain ⟨k, w1, w2⟩ := walk_ok (items := (List.range (min ds.length es.length)).map fun (i : Nat) => D.int i) hm hm' (by omega) (fun a b h => ahead_ok m a b h (by omega)) h (min ds.length es.length) 0 none (by omega)
        rw [List.drop_zero, List.drop_zero] at w1
        have l0 : bcM lenD (consA (gv 0) nilA) [some (.tup ds), some (.tup es), none] h = some (.int ds.length, h) := rfl
        have l1 : bcM lenD (consA (gv 1) nilA) [some (.tup ds), some (.tup es), none] h = some (.int es.length, h) := rfl
        have mn : (if (es.length : Int) < ds.length then (es.length : Int) else ds.length) = ((min ds.length es.length : Nat) : Int) := by
          split <;> omega
        have it : itR1 (consA (bcM min2D (consA (bcM lenD (consA (gv 0) nilA)) (consA (bcM lenD (consA (gv 1) nilA)) nilA))) nilA) [some (.tup ds), some (.tup es), none] h = some (((List.range (min ds.length es.length)).map fun (i : Nat) => D.int i, none), h) := by
          have q := itR1_of (ms := consA (bcM min2D (consA (bcM lenD (consA (gv 0) nilA)) (consA (bcM lenD (consA (gv 1) nilA)) nilA))) nilA) (σ := [some (.tup ds), some (.tup es), none]) (h := h) (h1 := h) (j := ((min ds.length es.length : Nat) : Int))
            (cons_of ((bc_of' (cons_of l0 (cons_of l1 nil_of))).trans (by rw [← mn]; rfl)) nil_of) (by omega) (by omega)
          rw [Int.toNat_natCast] at q
          exact q
        refine ⟨k, run_rt ?_, ?_⟩
        · show seqS _ _ [some (.tup ds), some (.tup es), none] h = _
          rw [seq_nx (if_no c1), seq_nx (if_no (tv_none (d := .tup ds) rfl fun _ z => by cases z)), seq_nx (if_no (notT_of (tv_isi (d := .tup ds) rfl rfl kit_tt)))]
          rw [List.range_eq_range'] at it w2
          rcases w2 with ⟨s3, w2, ek⟩ | w2
          · rw [seq_nx (σ1 := [some (.tup ds), some (.tup es), s3]) (h1 := h)]
            · refine ret_of ((op2_of' rfl rfl).trans ?_)
              rw [ltD_int, ek]
              show some (D.bl (decide ((ds.length : Int) < (es.length : Int))), h) = _
              by_cases z : ds.length < es.length
              · rw [decide_eq_true z, decide_eq_true (by omega)]
              · rw [decide_eq_false z, decide_eq_false (by omega)]
            · unfold forS
              rw [bind_of it]
              exact w2
          · refine seq_rt ?_
            unfold forS
            rw [bind_of it]
            exact w2
        · simp only [rk, toP, toPs, ML.ltP, ltPs, PyData.eqv, beq_self_eq_true, if_true]
          by_cases z : PyData.eqvAll (toPs (rks ds)) (toPs (rks es)) = true
          · rw [ltPs_eqv _ _ z] at w1
            exact (if_pos z).trans w1
          · exact (if_neg z).trans w1
    · rw [decide_eq_false e] at c1
      refine ⟨decide (kd a < kd b), run_rt ?_, ?_⟩
      · show seqS _ _ [some a, some b, none] h = _
        refine seq_rt ?_
        rw [if_yes c1]
        exact ret_of ((op2_of' ka kb).trans (by rw [ltD_int]; rfl))
      · rw [ea, eb, ML.ltP, ltPs, if_neg (by simpa [PyData.eqv] using e), ML.ltP]
end K28

set_option Elab.async false
set_option linter.all false
set_option maxRecDepth 100000
set_option autoImplicit false
namespace K28
open PySem L2 ML
/-! ### the sort -/
theorem toTok {n : Nat} {a b : D} {k : Bool} (ha : th n a = true) (hb : th n b = true) (e : ML.ltP (toP (rk a)) (toP (rk b)) = some k) : PySem.W.dataLt (toP (rk a)) (toP (rk b)) = k := by
  obtain ⟨ra, ea⟩ := rk_head ha
  obtain ⟨rb, eb⟩ := rk_head hb
  have la := (lay_rk n a ha).1
  have lb := (lay_rk n b hb).1
  rw [ea, eb] at e ⊢
  rw [ea, PyData.canLay0] at la
  rw [eb, PyData.canLay0] at lb
  rw [ML.ltP] at e
  exact lt_tup_toks e la lb
theorem leK_total : PySem.W.TotalLe leK := by
  refine ⟨fun a b c h1 h2 => ?_, fun a b => ?_⟩
  · unfold leK PySem.W.dataLt at *
    simp only [Bool.not_eq_true'] at h1 h2 ⊢
    cases q : PyProof.Rows.lexLt PyProof.Rows.itemOrd (PySem.W.keyToks (toP c.1)) (PySem.W.keyToks (toP a.1)) with
    | false => rfl
    | true =>
      rcases PyProof.Rows.lex_negTrans (O := PyProof.Rows.itemOrd) _ (PySem.W.keyToks (toP b.1)) _ q with z | z
      · rw [h2] at z; cases z
      · rw [h1] at z; cases z
  · unfold leK PySem.W.dataLt
    simp only [Bool.not_eq_true']
    cases q : PyProof.Rows.lexLt PyProof.Rows.itemOrd (PySem.W.keyToks (toP b.1)) (PySem.W.keyToks (toP a.1)) with
    | false => exact .inl rfl
    | true =>
      refine .inr ?_
      cases q2 : PyProof.Rows.lexLt PyProof.Rows.itemOrd (PySem.W.keyToks (toP a.1)) (PySem.W.keyToks (toP b.1)) with
      | false => rfl
      | true =>
        have := PyProof.Rows.lex_trans (O := PyProof.Rows.itemOrd) _ _ _ q q2
        rw [PyProof.Rows.lex_irrefl] at this
        cases this
theorem keys_ok {h : Hm} : ∀ (ds : List D), (∀ d ∈ ds, th 5 d = true) → keysM (F_rank 6) ds h = some (ds.map rk, h)
  | [], _ => rfl
  | d :: ds, hd => by
    show (F_rank 6 [d] >>= _) h = _
    rw [bind_of (rank_ok 5 d h (hd d (by simp)))]
    show (keysM (F_rank 6) ds >>= _) h = _
    rw [bind_of (keys_ok ds fun x hx => hd x (by simp [hx]))]
    rfl
theorem okKeys_ok {ds : List D} (hd : ∀ d ∈ ds, th 5 d = true) : okKeys (ds.map rk) = true := by
  unfold okKeys
  rw [Bool.and_eq_true, List.all_eq_true, List.all_eq_true]
  refine ⟨fun x hx => ?_, fun x hx => ?_⟩
  · obtain ⟨d, hd', rfl⟩ := List.mem_map.mp hx
    rw [Bool.and_eq_true]
    refine ⟨?_, ok_rk (hd d hd') (by omega)⟩
    rcases th_cases (hd d hd') with rfl | ⟨i, rfl⟩ | ⟨x, rfl, _⟩ | ⟨m, ds, _, rfl, hl, hm⟩ <;> rfl
  · obtain ⟨d, hd', rfl⟩ := List.mem_map.mp hx
    rw [List.all_eq_true]
    intro y hy
    obtain ⟨e, he', rfl⟩ := List.mem_map.mp hy
    obtain ⟨k, _, q⟩ := ahead_ok 5 d e [] (by omega) (hd d hd') (hd e he')
    rw [q]
    rfl
theorem sort_ok {h : Hm} {ds : List D} (hd : ∀ d ∈ ds, th 5 d = true) (hl : ds.length ≤ 100) : ∃ out, sortK (F_rank 6) ds h = some (out, h) ∧ out.length = ds.length ∧ (∀ d ∈ out, th 5 d = true) ∧
    ∀ (i : Nat) (a b : D), out[i]? = some a → out[i + 1]? = some b → PySem.W.dataLt (toP (rk b)) (toP (rk a)) = false := by
  refine ⟨(((ds.map rk).zip ds).mergeSort leK).map (·.2), ?_, ?_, ?_, ?_⟩
  · unfold sortK
    rw [keys_ok ds hd]
    exact if_pos ⟨okKeys_ok hd, Nat.le_trans hl (by decide)⟩
  · rw [List.length_map, List.length_mergeSort, List.length_zip, List.length_map, Nat.min_self]
  · intro d hd'
    obtain ⟨p, hp, rfl⟩ := List.mem_map.mp hd'
    rw [List.mem_mergeSort] at hp
    exact hd _ (List.of_mem_zip hp).2
  · intro i a b ea eb
    rw [List.getElem?_map] at ea eb
    obtain ⟨p, ep, rfl⟩ := Option.map_eq_some_iff.mp ea
    obtain ⟨q, eq, rfl⟩ := Option.map_eq_some_iff.mp eb
    have hz : ∀ p ∈ (ds.map rk).zip ds, p.1 = rk p.2 := by
      intro p hp
      obtain ⟨j, hj, e⟩ := List.getElem_of_mem hp
      rw [← e, List.getElem_zip, List.getElem_map]
    have hm : ∀ {p : D × D}, p ∈ ((ds.map rk).zip ds).mergeSort leK → p.1 = rk p.2 := fun hp => hz _ ((List.mem_mergeSort).mp hp)
    have pw := PySem.W.sort_pairwise leK_total ((ds.map rk).zip ds)
    obtain ⟨hi, ei⟩ := List.getElem?_eq_some_iff.mp ep
    obtain ⟨hj, ej⟩ := List.getElem?_eq_some_iff.mp eq
    have z := List.pairwise_iff_getElem.mp pw i (i + 1) hi hj (Nat.lt_succ_self i)
    rw [ei, ej] at z
    rw [← hm (List.mem_of_getElem? ep), ← hm (List.mem_of_getElem? eq)]
    unfold leK at z
    simpa using z
end K28

set_option Elab.async false
set_option linter.all false
set_option maxRecDepth 100000
set_option autoImplicit false
namespace K28
open PySem L2 ML
theorem thing_at {k c : Nat} {cs : List Int} (hkc : c ≠ k) {deep : Nat} {i : Int} (hi : i = (deep : Int)) (hd : deep ≤ 4) {h : Hm} (s : StA k c cs h) {σ : Sm} (e : gv 1 σ h = some (.ref k, h)) : ∃ d h1, callM (F__law_thing 5) 2 (consA (gv 1) (consA (cM (.int i)) nilA)) σ h = some (d, h1) ∧ th deep d = true ∧ StA k c cs h1 ∧ Fr k h h1 ∧ ∀ ds, d = .tup ds → ds.length ≤ 3 := by
  subst hi
  obtain ⟨d, h1, q1, q2, q3, q4, q5⟩ := thing_ok hkc 4 deep h hd s
  exact ⟨d, h1, (call_of' (cons_of e (cons_of rfl nil_of)) rfl).trans q1, q2, q3, q4, q5⟩
theorem draw_at {k c : Nat} {cs : List Int} (hkc : c ≠ k) {h : Hm} (s : StA k c cs h) {σ : Sm} (e : gv 1 σ h = some (.ref k, h)) {b : Int} {m : Sm → M D} (eb : m σ h = some (.int b, h)) (h0 : 0 < b) (h1 : b < 1000) : ∃ n h1, callM F__law_draw 2 (consA (gv 1) (consA m nilA)) σ h = some (.int n, h1) ∧ 0 ≤ n ∧ n < b ∧ StA k c cs h1 ∧ Fr k h h1 := by
  obtain ⟨n, h1, q1, q2, q3, q4, q5, _⟩ := draw_ok s h0 (by omega) hkc
  exact ⟨n, h1, (call_of' (cons_of e (cons_of eb nil_of)) rfl).trans q1, q2, q3, q4, q5⟩
theorem pick_new1 {k c : Nat} {cs : List Int} {h : Hm} {ds : List D} {σ : Sm} {ms : Sm → M (List D)} (s : StA k c cs h) (hkc : c ≠ k) (h0 : ds ≠ []) (hl : ds.length < 1000) (e0 : gv 1 σ h = some (.ref k, h)) (e : ms σ h = some (ds, h)) :
    ∃ d h1, callM F__law_pick 2 (consA (gv 1) (consA (newM (lstM ms)) nilA)) σ h = some (d, h1) ∧ d ∈ ds ∧ StA k c cs h1 ∧ Fr k h h1 := by
  obtain ⟨a, l, m, ek, _, _⟩ := s.ex
  have hk : k < h.length := (List.getElem?_eq_some_iff.mp ek).1
  obtain ⟨d, h1, q1, q2, q3, q4, _⟩ := pick_ok (s.push [.lst ds]) hkc (j := h.length) (ds := ds) (by rw [List.getElem?_append_right (Nat.le_refl _), Nat.sub_self]; rfl) (by omega) h0 (by omega)
  refine ⟨d, h1, ?_, q2, q3, (Fr.push k h _).trans q4⟩
  rw [e_pick]
  exact (call_of' (cons_of e0 (cons_of (new_of (lst_of e (Nat.le_trans (Nat.le_of_lt hl) (by decide)))) nil_of)) rfl).trans q1
theorem is_ok (k : Bool) (h : Hm) : F__law_is [.bl k, .bl k] h = some (.bl true, h) := by
  unfold F__law_is
  refine run_rt (ret_of ?_)
  unfold andV
  show (tvM (isiM "bool" (gv 0)) [some (.bl k), some (.bl k)] >>= _) h = _
  rw [bind_of (tv_isi (d := .bl k) rfl rfl kit_bb)]
  refine (op2_of' rfl rfl).trans ?_
  cases k <;> rfl
theorem add_tup {xs ys : List D} (hl : xs.length + ys.length ≤ 100) (h : Hm) : addD (.tup xs) (.tup ys) h = some (.tup (xs ++ ys), h) := by
  show (if xs.length + ys.length ≤ sizeLine then (pure (.tup (xs ++ ys)) : M D) else M.bad) h = _
  rw [if_pos (Nat.le_trans hl (by decide))]
  rfl
theorem cut_len (ds : List D) (y : Int) : (cutL ds none (some y)).length ≤ ds.length ∧ ∀ x ∈ cutL ds none (some y), x ∈ ds := by
  unfold cutL
  refine ⟨?_, fun x hx => List.mem_of_mem_drop (List.mem_of_mem_take hx)⟩
  rw [List.length_take, List.length_drop]
  omega
/-- two, as the law makes it of one -/
theorem two_ok {k c : Nat} {cs : List Int} (hkc : c ≠ k) {h : Hm} (s : StA k c cs h) {d0 one two : D} (h1 : th 3 one = true) (l1 : ∀ ds, one = .tup ds → ds.length ≤ 3) (h2 : th 3 two = true) : ∃ two' h3,
    ifS (andT (tvM (isiM "tuple" (gv 2))) (tvM (op2M eqD (callM F__law_draw 2 (consA (gv 1) (consA (cM (.int 2)) nilA))) (cM (.int 0))))) (setS 3 (op2M addD (sliceM cutT (gv 2) noP (someP (callM F__law_draw 2 (consA (gv 1) (consA (op2M addD (bcM lenD (consA (gv 2) nilA)) (cM (.int 1))) nilA))))) (callM F__law_pick 2 (consA (gv 1) (consA (newM (lstM (consA (tupM nilA) (consA (tupM (consA (cM .non) nilA)) (consA (tupM (consA (cM (.str "a")) nilA)) nilA))))) nilA))))) skipS
      [some d0, some (.ref k), some one, some two, none, none, none] h = some (.nx [some d0, some (.ref k), some one, some two', none, none, none], h3) ∧ th 3 two' = true ∧ StA k c cs h3 := by
  by_cases ht : ∃ ds, one = .tup ds
  · obtain ⟨ds, rfl⟩ := ht
    have c1 : tvM (isiM "tuple" (gv 2)) [some d0, some (.ref k), some (.tup ds), some two, none, none, none] h = some (true, h) := tv_isi (d := .tup ds) rfl rfl kit_tt
    obtain ⟨x, h3, q1, q2, q3, q4, q5⟩ := draw_at hkc s (σ := [some d0, some (.ref k), some (.tup ds), some two, none, none, none]) rfl (b := 2) (m := cM (.int 2)) rfl (by decide) (by decide)
    have c2 : tvM (op2M eqD (callM F__law_draw 2 (consA (gv 1) (consA (cM (.int 2)) nilA))) (cM (.int 0))) [some d0, some (.ref k), some (.tup ds), some two, none, none, none] h = some (decide (x = 0), h3) := tv_of' ((op2_of' q1 rfl).trans (by rw [eqD_int]; rfl))
    have c3 := (tv_and (u := tvM (op2M eqD (callM F__law_draw 2 (consA (gv 1) (consA (cM (.int 2)) nilA))) (cM (.int 0)))) c1).trans ((if_pos rfl).trans c2)
    by_cases x0 : x = 0
    · rw [decide_eq_true x0] at c3
      obtain ⟨y, h4, r1, r2, r3, r4, r5⟩ := draw_at hkc q4 (σ := [some d0, some (.ref k), some (.tup ds), some two, none, none, none]) rfl (b := ds.length + 1) (m := op2M addD (bcM lenD (consA (gv 2) nilA)) (cM (.int 1))) rfl (by omega) (by have := l1 ds rfl; omega)
      have sl : sliceM cutT (gv 2) noP (someP (callM F__law_draw 2 (consA (gv 1) (consA (op2M addD (bcM lenD (consA (gv 2) nilA)) (cM (.int 1))) nilA)))) [some d0, some (.ref k), some (.tup ds), some two, none, none, none] h3 = some (.tup (cutL ds none (some y)), h4) := by
        unfold sliceM
        show (gv 2 _ >>= _) h3 = _
        rw [bind_of (show gv 2 [some d0, some (.ref k), some (.tup ds), some two, none, none, none] h3 = some (.tup ds, h3) from rfl)]
        rw [bind_of (show noP [some d0, some (.ref k), some (.tup ds), some two, none, none, none] h3 = some (none, h3) from rfl)]
        unfold someP
        rw [bind_app, bind_of r1]
        rfl
      obtain ⟨e, h5, p1, p2, p3, p4⟩ := pick_new1 (σ := [some d0, some (.ref k), some (.tup ds), some two, none, none, none]) (ms := consA (tupM nilA) (consA (tupM (consA (cM .non) nilA)) (consA (tupM (consA (cM (.str "a")) nilA)) nilA)))
        (ds := [.tup [], .tup [.non], .tup [.str "a"]]) r4 hkc (by simp) (by decide) rfl rfl
      obtain ⟨es, rfl, he, hel⟩ : ∃ es, e = .tup es ∧ (∀ x ∈ es, th 2 x = true) ∧ es.length ≤ 1 := by
        simp only [List.mem_cons, List.not_mem_nil, or_false] at p2
        rcases p2 with rfl | rfl | rfl
        · exact ⟨[], rfl, fun x hx => by simp at hx, by decide⟩
        · exact ⟨[.non], rfl, fun x hx => by rw [List.mem_singleton.mp hx]; rfl, by decide⟩
        · exact ⟨[.str "a"], rfl, fun x hx => by rw [List.mem_singleton.mp hx]; decide +kernel, by decide⟩
      have cl := cut_len ds y
      have dl := l1 ds rfl
      refine ⟨.tup (cutL ds none (some y) ++ es), h5, ?_, ?_, p3⟩
      · rw [if_yes c3]
        exact set_of ((op2_of' sl p1).trans (add_tup (by omega) h5))
      · show (decide ((cutL ds none (some y) ++ es).length ≤ 9) && (cutL ds none (some y) ++ es).all (th 2)) = true
        rw [Bool.and_eq_true, List.all_eq_true]
        refine ⟨decide_eq_true (by rw [List.length_append]; omega), fun x hx => ?_⟩
        rcases List.mem_append.mp hx with hx | hx
        · rcases th_cases h1 with z | ⟨i, z⟩ | ⟨x, z, _⟩ | ⟨m, ds', z1, z, hl, hm⟩
          · cases z
          · cases z
          · cases z
          · cases z; cases z1
            exact hm x (cl.2 x hx)
        · exact he x hx
    · rw [decide_eq_false x0] at c3
      exact ⟨two, h3, if_no c3, h2, q4⟩
  · have c1 : tvM (isiM "tuple" (gv 2)) [some d0, some (.ref k), some one, some two, none, none, none] h = some (false, h) := by
      rcases th_cases h1 with rfl | ⟨i, rfl⟩ | ⟨x, rfl, _⟩ | ⟨m, ds', z1, rfl, hl, hm⟩
      · exact tv_isi (d := .non) rfl rfl (by decide +kernel : kitB "NoneType" "tuple" = some false)
      · exact tv_isi (d := .int i) rfl rfl kit_it
      · exact tv_isi (d := .str x) rfl rfl kit_st
      · exact absurd ⟨ds', rfl⟩ ht
    have c3 := (tv_and (u := tvM (op2M eqD (callM F__law_draw 2 (consA (gv 1) (consA (cM (.int 2)) nilA))) (cM (.int 0)))) c1).trans (if_neg Bool.false_ne_true)
    exact ⟨two, h, if_no c3, h2, s⟩
end K28

set_option Elab.async false
set_option linter.all false
set_option maxRecDepth 100000
set_option autoImplicit false
namespace K28
open PySem L2 ML
theorem law_true : ∀ ns : List Int, ns.length ≤ 63 → ∃ h1, F_law [.fro (ns.map .int)] [] = some (.bl true, h1) := by
  intro ns hn
  have hkc : (0 : Nat) ≠ 1 := by decide
  -- the state, one, two
  have e1 : setS 1 (callM F__law_start 1 (consA (gv 0) nilA)) [some (.fro (ns.map .int)), none, none, none, none, none, none] [] = some (.nx [some (.fro (ns.map .int)), some (.ref 1), none, none, none, none, none], [.lst ((ns.map absI).map .int), stD 0 0 0 (7 + ns.length)]) := by
    refine set_of ((call_of' (cons_of rfl nil_of) rfl).trans ?_)
    rw [e_start]
    exact start_ok hn
  obtain ⟨one, h1, a1, a2, a3, a4, a5⟩ := thing_at hkc (i := 3) (deep := 3) rfl (by decide) (start_st (ns := ns)) (σ := [some (.fro (ns.map .int)), some (.ref 1), none, none, none, none, none]) rfl
  obtain ⟨two, h2, b1, b2, b3, b4, b5⟩ := thing_at hkc (i := 3) (deep := 3) rfl (by decide) a3 (σ := [some (.fro (ns.map .int)), some (.ref 1), some one, none, none, none, none]) rfl
  obtain ⟨two', h3, c1, c2, c3⟩ := two_ok hkc b3 (d0 := .fro (ns.map .int)) a2 a5 b2
  -- the order of one and two
  have t1 := th_mono a2 (show 3 ≤ 5 by decide)
  have t2 := th_mono c2 (show 3 ≤ 5 by decide)
  obtain ⟨k, q1, q2⟩ := ahead_ok 5 one two' h3 (by decide) t1 t2
  have r1 : callM (F_rank 6) 1 (consA (gv 2) nilA) [some (.fro (ns.map .int)), some (.ref 1), some one, some two', none, none, none] h3 = some (rk one, h3) := (call_of' (cons_of rfl nil_of) rfl).trans (rank_ok 5 one h3 t1)
  have r2 : callM (F_rank 6) 1 (consA (gv 3) nilA) [some (.fro (ns.map .int)), some (.ref 1), some one, some two', none, none, none] h3 = some (rk two', h3) := (call_of' (cons_of rfl nil_of) rfl).trans (rank_ok 5 two' h3 t2)
  have d1 : tvM (callM F__law_is 2 (consA (op2M ltD (callM (F_rank 6) 1 (consA (gv 2) nilA)) (callM (F_rank 6) 1 (consA (gv 3) nilA))) (consA (callM (F__law_ahead 6) 2 (consA (gv 2) (consA (gv 3) nilA))) nilA))) [some (.fro (ns.map .int)), some (.ref 1), some one, some two', none, none, none] h3 = some (true, h3) :=
    tv_of' ((call_of' (ds := [.bl k, .bl k]) (cons_of ((op2_of' r1 r2).trans (lt_ok (ok_rk t1 (by decide)) (ok_rk t2 (by decide)) q2 h3)) (cons_of ((call_of' (cons_of rfl (cons_of rfl nil_of)) rfl).trans q1) nil_of)) rfl).trans (is_ok k h3))
  have d2 : tvM (op2M neD (op2M eqD (callM (F_rank 6) 1 (consA (gv 2) nilA)) (callM (F_rank 6) 1 (consA (gv 3) nilA))) (op2M eqD (gv 2) (gv 3))) [some (.fro (ns.map .int)), some (.ref 1), some one, some two', none, none, none] h3 = some (false, h3) := by
    refine tv_of' ((op2_of' ((op2_of' r1 r2).trans (eq_rk t1 t2 (by decide) h3)) ((op2_of' rfl rfl).trans (eq_th t1 t2 (by decide) h3))).trans ?_)
    cases decide (one = two') <;> rfl
  have d3 := (orT_of (u := tvM (op2M neD (op2M eqD (callM (F_rank 6) 1 (consA (gv 2) nilA)) (callM (F_rank 6) 1 (consA (gv 3) nilA))) (op2M eqD (gv 2) (gv 3)))) (notT_of d1)).trans ((if_neg Bool.false_ne_true).trans d2)
  -- four things
  obtain ⟨x3, h4, f1, f2, f3, f4, _⟩ := thing_at hkc (i := 2) (deep := 2) rfl (by decide) c3 (σ := [some (.fro (ns.map .int)), some (.ref 1), some one, some two', none, none, none]) rfl
  obtain ⟨x4, h5, g1, g2, g3, g4, _⟩ := thing_at hkc (i := 1) (deep := 1) rfl (by decide) f3 (σ := [some (.fro (ns.map .int)), some (.ref 1), some one, some two', none, none, none]) rfl
  have e4 : setS 4 (newM (lstM (consA (gv 2) (consA (gv 3) (consA (callM (F__law_thing 5) 2 (consA (gv 1) (consA (cM (.int 2)) nilA))) (consA (callM (F__law_thing 5) 2 (consA (gv 1) (consA (cM (.int 1)) nilA))) nilA)))))) [some (.fro (ns.map .int)), some (.ref 1), some one, some two', none, none, none] h3
      = some (.nx [some (.fro (ns.map .int)), some (.ref 1), some one, some two', some (.ref h5.length), none, none], h5 ++ [.lst [one, two', x3, x4]]) :=
    set_of (new_of (lst_of (cons_of rfl (cons_of rfl (cons_of f1 (cons_of g1 nil_of)))) (by show 4 ≤ sizeLine; decide)))
  obtain ⟨out, s1, s2, s3, s4⟩ := sort_ok (h := h5 ++ [.lst [one, two', x3, x4]]) (ds := [one, two', x3, x4]) (fun d hd => by
    simp only [List.mem_cons, List.not_mem_nil, or_false] at hd
    rcases hd with rfl | rfl | rfl | rfl
    · exact t1
    · exact t2
    · exact th_mono f2 (by decide)
    · exact th_mono g2 (by decide)) (by show 4 ≤ 100; decide)
  have s2 : out.length = 4 := s2
  have li : listD (.ref h5.length) (h5 ++ [.lst [one, two', x3, x4]]) = some ([one, two', x3, x4], h5 ++ [.lst [one, two', x3, x4]]) := by
    unfold listD
    dsimp only
    rw [List.getElem?_append_right (Nat.le_refl _), Nat.sub_self]
    rfl
  have e5 : setS 5 (newM (sortKM (F_rank 6) (gv 4))) [some (.fro (ns.map .int)), some (.ref 1), some one, some two', some (.ref h5.length), none, none] (h5 ++ [.lst [one, two', x3, x4]])
      = some (.nx [some (.fro (ns.map .int)), some (.ref 1), some one, some two', some (.ref h5.length), some (.ref (h5 ++ [O.lst [one, two', x3, x4]]).length), none], (h5 ++ [.lst [one, two', x3, x4]]) ++ [.lst out]) := by
    refine set_of (new_of ?_)
    unfold sortKM
    show (gv 4 _ >>= _) _ = _
    rw [bind_of (show gv 4 [some (.fro (ns.map .int)), some (.ref 1), some one, some two', some (.ref h5.length), none, none] (h5 ++ [.lst [one, two', x3, x4]]) = some (.ref h5.length, h5 ++ [.lst [one, two', x3, x4]]) from rfl), bind_of li]
    exact s1
  generalize hh : h5 ++ [O.lst [one, two', x3, x4]] = h6 at *
  have lo : (h6 ++ [O.lst out])[h6.length]? = some (.lst out) := by
    rw [List.getElem?_append_right (Nat.le_refl _), Nat.sub_self]
    rfl
  have el : lcM (itR1 (consA (cM (.int 3)) nilA)) (nameG 6) yesT (callM (F__law_ahead 6) 2 (consA (op2M ixD (gv 5) (op2M addD (gv 6) (cM (.int 1)))) (consA (op2M ixD (gv 5) (gv 6)) nilA))) [6]
      [some (.fro (ns.map .int)), some (.ref 1), some one, some two', some (.ref h5.length), some (.ref h6.length), none] (h6 ++ [.lst out]) = some ([.bl false, .bl false, .bl false], h6 ++ [.lst out]) := by
    refine lcM_of (p := ((List.range 3).map fun (i : Nat) => D.int i, none)) (itR1_of (j := 3) (cons_of rfl nil_of) (by decide) (by decide)) (lcR_map (l := (List.range 3).map fun (i : Nat) => D.int i) (f := fun _ => .bl false) (fun k z => by cases z) fun d hd => ?_) (by show 3 ≤ sizeLine; decide)
    obtain ⟨i, hi, rfl⟩ := List.mem_map.mp hd
    have hi : i < 3 := List.mem_range.mp hi
    have i1 : i < out.length := by omega
    have i2 : i + 1 < out.length := by omega
    have x1 : op2M ixD (gv 5) (op2M addD (gv 6) (cM (.int 1))) [some (.fro (ns.map .int)), some (.ref 1), some one, some two', some (.ref h5.length), some (.ref h6.length), some (.int (i : Nat))] (h6 ++ [.lst out]) = some (out[i + 1], h6 ++ [.lst out]) :=
      (op2_of' rfl rfl).trans (ix_list lo (atI_nat (j := i + 1) (List.getElem?_eq_getElem i2)))
    have x2 : op2M ixD (gv 5) (gv 6) [some (.fro (ns.map .int)), some (.ref 1), some one, some two', some (.ref h5.length), some (.ref h6.length), some (.int (i : Nat))] (h6 ++ [.lst out]) = some (out[i], h6 ++ [.lst out]) :=
      (op2_of' rfl rfl).trans (ix_list lo (atI_nat (j := i) (List.getElem?_eq_getElem i1)))
    have u1 := s3 out[i + 1] (List.getElem_mem i2)
    have u2 := s3 out[i] (List.getElem_mem i1)
    obtain ⟨kk, v1, v2⟩ := ahead_ok 5 out[i + 1] out[i] (h6 ++ [.lst out]) (by decide) u1 u2
    have v3 := toTok u1 u2 v2
    rw [s4 i out[i] out[i + 1] (List.getElem?_eq_getElem i1) (List.getElem?_eq_getElem i2)] at v3
    rw [← v3] at v1
    exact (call_of' (cons_of x1 (cons_of x2 nil_of)) rfl).trans v1
  refine ⟨h6 ++ [.lst out], ?_⟩
  unfold F_law
  refine run_rt ?_
  show seqS _ _ [some (.fro (ns.map .int)), none, none, none, none, none, none] [] = _
  rw [seq_nx e1, seq_nx (set_of a1)]
  show seqS _ _ [some (.fro (ns.map .int)), some (.ref 1), some one, none, none, none, none] h1 = _
  rw [seq_nx (set_of b1)]
  show seqS _ _ [some (.fro (ns.map .int)), some (.ref 1), some one, some two, none, none, none] h2 = _
  rw [seq_nx c1, seq_nx (if_no d3), seq_nx e4, seq_nx e5]
  refine ret_of ?_
  unfold notV
  have an : tvM (bcM anyL (lcM (itR1 (consA (cM (.int 3)) nilA)) (nameG 6) yesT (callM (F__law_ahead 6) 2 (consA (op2M ixD (gv 5) (op2M addD (gv 6) (cM (.int 1)))) (consA (op2M ixD (gv 5) (gv 6)) nilA))) [6]))
      [some (.fro (ns.map .int)), some (.ref 1), some one, some two', some (.ref h5.length), some (.ref h6.length), none] (h6 ++ [.lst out]) = some (false, h6 ++ [.lst out]) := tv_of' ((bc_of' el).trans rfl)
  rw [bind_of an]
  rfl
end K28

set_option autoImplicit false
namespace K28
open PySem L2 ML
theorem all_mk {l : PySem.W.OpenLaw} {w : World} {K : PySem.W.Frag} {h : Heap} {mg : Str → Option Value} {fa : Addr} (X : K.In h) (G : h.Ns mainGlobals mg) (hfa : mg "law" = some (.ref fa))
    {f0 : Addr} {od0 an0 : Option Addr} {sl0 : Array (Option Value)} {oc0 kV0 dc0 pm0 cd0 ct0 : Value}
    (a0 : PySem.W.nsIn K mainGlobals "rank" = some (some (.ref f0))) (l0 : K.lookup f0 = some ⟨oc0, od0, .func (PySem.W.fnOf "rank" "rank" (defArgs s_rank) (defBody s_rank) (defScope s_rank) .none kV0 dc0 pm0 an0 cd0 ct0), sl0⟩) (c0 : PySem.W.codeIn K cd0 "rank" = true) (k0 : PySem.W.keepIn K (.ref f0) = true)
    {f1 : Addr} {od1 an1 : Option Addr} {sl1 : Array (Option Value)} {oc1 kV1 dc1 pm1 cd1 ct1 : Value}
    (a1 : PySem.W.nsIn K mainGlobals "_law_start" = some (some (.ref f1))) (l1 : K.lookup f1 = some ⟨oc1, od1, .func (PySem.W.fnOf "_law_start" "_law_start" (defArgs s__law_start) (defBody s__law_start) (defScope s__law_start) .none kV1 dc1 pm1 an1 cd1 ct1), sl1⟩) (c1 : PySem.W.codeIn K cd1 "_law_start" = true) (k1 : PySem.W.keepIn K (.ref f1) = true)
    {f2 : Addr} {od2 an2 : Option Addr} {sl2 : Array (Option Value)} {oc2 kV2 dc2 pm2 cd2 ct2 : Value}
    (a2 : PySem.W.nsIn K mainGlobals "_law_draw" = some (some (.ref f2))) (l2 : K.lookup f2 = some ⟨oc2, od2, .func (PySem.W.fnOf "_law_draw" "_law_draw" (defArgs s__law_draw) (defBody s__law_draw) (defScope s__law_draw) .none kV2 dc2 pm2 an2 cd2 ct2), sl2⟩) (c2 : PySem.W.codeIn K cd2 "_law_draw" = true) (k2 : PySem.W.keepIn K (.ref f2) = true)
    {f3 : Addr} {od3 an3 : Option Addr} {sl3 : Array (Option Value)} {oc3 kV3 dc3 pm3 cd3 ct3 : Value}
    (a3 : PySem.W.nsIn K mainGlobals "_law_pick" = some (some (.ref f3))) (l3 : K.lookup f3 = some ⟨oc3, od3, .func (PySem.W.fnOf "_law_pick" "_law_pick" (defArgs s__law_pick) (defBody s__law_pick) (defScope s__law_pick) .none kV3 dc3 pm3 an3 cd3 ct3), sl3⟩) (c3 : PySem.W.codeIn K cd3 "_law_pick" = true) (k3 : PySem.W.keepIn K (.ref f3) = true)
    {f4 : Addr} {od4 an4 : Option Addr} {sl4 : Array (Option Value)} {oc4 kV4 dc4 pm4 cd4 ct4 : Value}
    (a4 : PySem.W.nsIn K mainGlobals "_law_is" = some (some (.ref f4))) (l4 : K.lookup f4 = some ⟨oc4, od4, .func (PySem.W.fnOf "_law_is" "_law_is" (defArgs s__law_is) (defBody s__law_is) (defScope s__law_is) .none kV4 dc4 pm4 an4 cd4 ct4), sl4⟩) (c4 : PySem.W.codeIn K cd4 "_law_is" = true) (k4 : PySem.W.keepIn K (.ref f4) = true)
    {f5 : Addr} {od5 an5 : Option Addr} {sl5 : Array (Option Value)} {oc5 kV5 dc5 pm5 cd5 ct5 : Value}
    (a5 : PySem.W.nsIn K mainGlobals "_law_thing" = some (some (.ref f5))) (l5 : K.lookup f5 = some ⟨oc5, od5, .func (PySem.W.fnOf "_law_thing" "_law_thing" (defArgs s__law_thing) (defBody s__law_thing) (defScope s__law_thing) .none kV5 dc5 pm5 an5 cd5 ct5), sl5⟩) (c5 : PySem.W.codeIn K cd5 "_law_thing" = true) (k5 : PySem.W.keepIn K (.ref f5) = true)
    {f6 : Addr} {od6 an6 : Option Addr} {sl6 : Array (Option Value)} {oc6 kV6 dc6 pm6 cd6 ct6 : Value}
    (a6 : PySem.W.nsIn K mainGlobals "_law_kind" = some (some (.ref f6))) (l6 : K.lookup f6 = some ⟨oc6, od6, .func (PySem.W.fnOf "_law_kind" "_law_kind" (defArgs s__law_kind) (defBody s__law_kind) (defScope s__law_kind) .none kV6 dc6 pm6 an6 cd6 ct6), sl6⟩) (c6 : PySem.W.codeIn K cd6 "_law_kind" = true) (k6 : PySem.W.keepIn K (.ref f6) = true)
    {f7 : Addr} {od7 an7 : Option Addr} {sl7 : Array (Option Value)} {oc7 kV7 dc7 pm7 cd7 ct7 : Value}
    (a7 : PySem.W.nsIn K mainGlobals "_law_ahead" = some (some (.ref f7))) (l7 : K.lookup f7 = some ⟨oc7, od7, .func (PySem.W.fnOf "_law_ahead" "_law_ahead" (defArgs s__law_ahead) (defBody s__law_ahead) (defScope s__law_ahead) .none kV7 dc7 pm7 an7 cd7 ct7), sl7⟩) (c7 : PySem.W.codeIn K cd7 "_law_ahead" = true) (k7 : PySem.W.keepIn K (.ref f7) = true)
    {f8 : Addr} {od8 an8 : Option Addr} {sl8 : Array (Option Value)} {oc8 kV8 dc8 pm8 cd8 ct8 : Value}
    (a8 : PySem.W.nsIn K mainGlobals "law" = some (some (.ref f8))) (l8 : K.lookup f8 = some ⟨oc8, od8, .func (PySem.W.fnOf "law" "law" (defArgs s_law) (defBody s_law) (defScope s_law) .none kV8 dc8 pm8 an8 cd8 ct8), sl8⟩) (c8 : PySem.W.codeIn K cd8 "law" = true) (k8 : PySem.W.keepIn K (.ref f8) = true)
    (z_isinstance : PySem.W.nsIn K mainGlobals "isinstance" = some none)
    (z_int : PySem.W.nsIn K mainGlobals "int" = some none)
    (z_str : PySem.W.nsIn K mainGlobals "str" = some none)
    (z_tuple : PySem.W.nsIn K mainGlobals "tuple" = some none)
    (z_len : PySem.W.nsIn K mainGlobals "len" = some none)
    (z_abs : PySem.W.nsIn K mainGlobals "abs" = some none)
    (z_bool : PySem.W.nsIn K mainGlobals "bool" = some none)
    (z_range : PySem.W.nsIn K mainGlobals "range" = some none)
    (z_min : PySem.W.nsIn K mainGlobals "min" = some none)
    (z_sorted : PySem.W.nsIn K mainGlobals "sorted" = some none)
    (z_any : PySem.W.nsIn K mainGlobals "any" = some none) :
    ∃ fd : FuncData, (∀ (s : Shared) (v : Value), BindsTo s fd ⟨[v], []⟩ [("script", v)]) ∧ ∀ base : Heap, K.In base → base.Ns mainGlobals mg → FnOk l.prog w K mg base CX0 9 fa fd ["script"] (spLawM K) := by
  have e := hfa.symm.trans (PySem.W.mg_of X G a8)
  cases e
  let U : Us K mg := {
    a_rank := _, d_rank := _, F_rank := fun_mk (st := s_rank) l0 c0 k0, b_rank := (fun_mk (st := s_rank) l0 c0 k0).binds (ps := ["thing"]) fun _ _ _ _ _ _ us hl => match us, hl with | [_], _ => rfl, m_rank := PySem.W.mg_of X G a0,
    a__law_start := _, d__law_start := _, F__law_start := fun_mk (st := s__law_start) l1 c1 k1, b__law_start := (fun_mk (st := s__law_start) l1 c1 k1).binds (ps := ["script"]) fun _ _ _ _ _ _ us hl => match us, hl with | [_], _ => rfl, m__law_start := PySem.W.mg_of X G a1,
    a__law_draw := _, d__law_draw := _, F__law_draw := fun_mk (st := s__law_draw) l2 c2 k2, b__law_draw := (fun_mk (st := s__law_draw) l2 c2 k2).binds (ps := ["state", "bound"]) fun _ _ _ _ _ _ us hl => match us, hl with | [_, _], _ => rfl, m__law_draw := PySem.W.mg_of X G a2,
    a__law_pick := _, d__law_pick := _, F__law_pick := fun_mk (st := s__law_pick) l3 c3 k3, b__law_pick := (fun_mk (st := s__law_pick) l3 c3 k3).binds (ps := ["state", "things"]) fun _ _ _ _ _ _ us hl => match us, hl with | [_, _], _ => rfl, m__law_pick := PySem.W.mg_of X G a3,
    a__law_is := _, d__law_is := _, F__law_is := fun_mk (st := s__law_is) l4 c4 k4, b__law_is := (fun_mk (st := s__law_is) l4 c4 k4).binds (ps := ["actual", "due"]) fun _ _ _ _ _ _ us hl => match us, hl with | [_, _], _ => rfl, m__law_is := PySem.W.mg_of X G a4,
    a__law_thing := _, d__law_thing := _, F__law_thing := fun_mk (st := s__law_thing) l5 c5 k5, b__law_thing := (fun_mk (st := s__law_thing) l5 c5 k5).binds (ps := ["state", "deep"]) fun _ _ _ _ _ _ us hl => match us, hl with | [_, _], _ => rfl, m__law_thing := PySem.W.mg_of X G a5,
    a__law_kind := _, d__law_kind := _, F__law_kind := fun_mk (st := s__law_kind) l6 c6 k6, b__law_kind := (fun_mk (st := s__law_kind) l6 c6 k6).binds (ps := ["thing"]) fun _ _ _ _ _ _ us hl => match us, hl with | [_], _ => rfl, m__law_kind := PySem.W.mg_of X G a6,
    a__law_ahead := _, d__law_ahead := _, F__law_ahead := fun_mk (st := s__law_ahead) l7 c7 k7, b__law_ahead := (fun_mk (st := s__law_ahead) l7 c7 k7).binds (ps := ["one", "two"]) fun _ _ _ _ _ _ us hl => match us, hl with | [_, _], _ => rfl, m__law_ahead := PySem.W.mg_of X G a7,
    a_law := _, d_law := _, F_law := fun_mk (st := s_law) l8 c8 k8, b_law := (fun_mk (st := s_law) l8 c8 k8).binds (ps := ["script"]) fun _ _ _ _ _ _ us hl => match us, hl with | [_], _ => rfl, m_law := PySem.W.mg_of X G a8,
    z_isinstance := PySem.W.mg_none_of X G z_isinstance,
    z_int := PySem.W.mg_none_of X G z_int,
    z_str := PySem.W.mg_none_of X G z_str,
    z_tuple := PySem.W.mg_none_of X G z_tuple,
    z_len := PySem.W.mg_none_of X G z_len,
    z_abs := PySem.W.mg_none_of X G z_abs,
    z_bool := PySem.W.mg_none_of X G z_bool,
    z_range := PySem.W.mg_none_of X G z_range,
    z_min := PySem.W.mg_none_of X G z_min,
    z_sorted := PySem.W.mg_none_of X G z_sorted,
    z_any := PySem.W.mg_none_of X G z_any }
  refine ⟨PySem.W.fnOf "law" "law" (defArgs s_law) (defBody s_law) (defScope s_law) .none kV8 dc8 pm8 an8 cd8 ct8, fun s v => .of_eq rfl, fun base _ _ => ?_⟩
  exact (ok_law (P := l.prog) (w := w) (base := base) U).imp (law_in (T := ⟨K, mg⟩) law_true)
theorem walk {l : PySem.W.OpenLaw} {q : Program} {loose : List Str} {XP : (Str → Option Value) → Heap → Prop} {YP : World → Heap → Prop} {d : DefRec} {K : Params → PySem.W.Frag} (hn : l.most = some 63) (hdf : d.params.defaults = [])
    (hY : ∀ (w : World) (h : Heap), YP w h → (K w.params).In h)
    (F : ∀ (w : World) (mg : Str → Option Value) (fa : Addr) (h : Heap), (K w.params).In h → h.Ns mainGlobals mg → mg d.name = some (.ref fa) →
      ∃ fd : FuncData, (∀ (s : Shared) (u : Value), BindsTo s fd ⟨[u], []⟩ [("script", u)]) ∧ ∀ base : Heap, (K w.params).In base → base.Ns mainGlobals mg → FnOk l.prog w (K w.params) mg base CX0 9 fa fd ["script"] (spLawM (K w.params))) :
    PySem.W.WalkO q loose XP YP l.row.toRowW d [] (fun f vs => PySem.call f vs) := 
  L2.walk_of (n := 63) (k := 9) (x := "script") (CX := fun _ => CX0) (sp := fun w => spLawM (K w.params)) hn (by decide) hdf ⟨rfl, by decide, by decide⟩ hY F (fun _ _ a ns hl hO hS => ⟨a, ns, rfl, hO, hS, hl, fun _ => rfl⟩) fun _ _ _ _ _ z => z
end K28
open PySem PySem.W PyProof.Rows
set_option maxRecDepth 100000 in
set_option maxHeartbeats 0 in
theorem PySem.Challenge.cw_calltowers_k28_order_of_things_holds : PySem.Challenge.rw_calltowers_k28_order_of_things.Holds := by
  w_on; o_law; k_head; (case hw => w_witness2)
  k_fill
  refine K28.walk (l := PySem.Challenge.rw_calltowers_k28_order_of_things) rfl rfl (fun w h Y => PySem.W.kIn_of Y) ?F
  case F =>
    intro w mg fa h KX G hmg
    refine' K28.all_mk KX G hmg ?a0 ?l0 ?c0 ?k0 ?a1 ?l1 ?c1 ?k1 ?a2 ?l2 ?c2 ?k2 ?a3 ?l3 ?c3 ?k3 ?a4 ?l4 ?c4 ?k4 ?a5 ?l5 ?c5 ?k5 ?a6 ?l6 ?c6 ?k6 ?a7 ?l7 ?c7 ?k7 ?a8 ?l8 ?c8 ?k8 ?z_isinstance ?z_int ?z_str ?z_tuple ?z_len ?z_abs ?z_bool ?z_range ?z_min ?z_sorted ?z_any
    (case a0 => k_is); (case l0 => k_is); (case c0 => k_is); (case k0 => k_is)
    (case a1 => k_is); (case l1 => k_is); (case c1 => k_is); (case k1 => k_is)
    (case a2 => k_is); (case l2 => k_is); (case c2 => k_is); (case k2 => k_is)
    (case a3 => k_is); (case l3 => k_is); (case c3 => k_is); (case k3 => k_is)
    (case a4 => k_is); (case l4 => k_is); (case c4 => k_is); (case k4 => k_is)
    (case a5 => k_is); (case l5 => k_is); (case c5 => k_is); (case k5 => k_is)
    (case a6 => k_is); (case l6 => k_is); (case c6 => k_is); (case k6 => k_is)
    (case a7 => k_is); (case l7 => k_is); (case c7 => k_is); (case k7 => k_is)
    (case a8 => k_is); (case l8 => k_is); (case c8 => k_is); (case k8 => k_is)
    (case z_isinstance => k_is); (case z_int => k_is); (case z_str => k_is); (case z_tuple => k_is); (case z_len => k_is); (case z_abs => k_is); (case z_bool => k_is); (case z_range => k_is); (case z_min => k_is); (case z_sorted => k_is); (case z_any => k_is)
#print axioms PySem.Challenge.cw_calltowers_k28_order_of_things_holds

