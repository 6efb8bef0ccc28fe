/- Distances to a goal, by levels, said over predicates alone. -/
import Derived.Test.YtmbkjgfnnpopgabQueue
namespace Go.Proofs.Ytmbkjgfnnpopgab
set_option linter.unusedSimpArgs false
set_option linter.unusedVariables false
open Go.RowKit Go.Maps

def rch (D : Nat → Int) (p : Nat) : Bool := decide (0 ≤ D p)
def unr (n : Nat) (D : Nat → Int) : Nat := (List.range n).countP fun p => decide (D p < 0)

/-- What the distances say: the edges (u, v) with v = q and k ≤ u are still to be looked at. -/
structure BInv (n : Nat) (T : Nat → Nat → Bool) (goal : Nat) (D : Nat → Int) (l : List Nat) (q k : Nat) : Prop where
  gl : goal < n
  zero : D goal = 0
  lo : ∀ u, u < n → -1 ≤ D u ∧ D u < (cnt n (rch D) : Int)
  nx : ∀ u, u < n → 0 ≤ D u → u ≠ goal → ∃ v, v < n ∧ T u v = true ∧ 0 ≤ D v ∧ D v = D u - 1
  cl : ∀ u v, u < n → v < n → T u v = true → 0 ≤ D v → 0 ≤ D u ∨ v ∈ l ∨ (v = q ∧ k ≤ u)
  ls : ∀ v ∈ l, v < n ∧ 0 ≤ D v
  qs : q < n ∧ 0 ≤ D q

structure FarOk (n : Nat) (T : Nat → Nat → Bool) (goal : Nat) (D : Nat → Int) : Prop where
  gl : goal < n
  zero : D goal = 0
  lo : ∀ u, u < n → -1 ≤ D u ∧ D u < (n : Int)
  nx : ∀ u, u < n → 0 ≤ D u → u ≠ goal → ∃ v, v < n ∧ T u v = true ∧ 0 ≤ D v ∧ D v = D u - 1
  cl : ∀ u v, u < n → v < n → T u v = true → 0 ≤ D v → 0 ≤ D u

theorem BInv.start {n : Nat} (T : Nat → Nat → Bool) {goal : Nat} (hg : goal < n) : BInv n T goal (updI (fun _ => -1) goal 0) [goal] goal n := by
  have hs : updI (fun _ => -1) goal 0 goal = 0 := by unfold updI; simp
  have ho : ∀ u, u ≠ goal → updI (fun _ => -1) goal 0 u = -1 := fun u hu => by unfold updI; simp [hu]
  have hc : 0 < cnt n (rch (updI (fun _ => -1) goal 0)) := by
    unfold cnt
    exact List.countP_pos_iff.2 ⟨goal, List.mem_range.2 hg, by unfold rch; rw [hs]; rfl⟩
  refine ⟨hg, hs, fun u _ => ?_, fun u _ h0 hne => ?_, fun u v hu hv _ h0 => ?_, fun v hv => ?_, hg, by omega⟩
  · by_cases e : u = goal
    · subst e; omega
    · rw [ho u e]; omega
  · rw [ho u hne] at h0; omega
  · by_cases e : v = goal
    · right; left; simp [e]
    · rw [ho v e] at h0; omega
  · simp only [List.mem_singleton] at hv
    subst hv
    exact ⟨hg, by omega⟩
theorem BInv.pop {n : Nat} {T : Nat → Nat → Bool} {goal : Nat} {D : Nat → Int} {x : Nat} {l : List Nat} {q : Nat} (h : BInv n T goal D (x :: l) q n) : BInv n T goal D l x 0 := by
  refine ⟨h.gl, h.zero, h.lo, h.nx, fun u v hu hv ht h0 => ?_, fun v hv => h.ls v (by simp [hv]), h.ls x (by simp)⟩
  rcases h.cl u v hu hv ht h0 with h1 | h1 | ⟨_, h1⟩
  · exact .inl h1
  · rcases List.mem_cons.1 h1 with h1 | h1
    · exact .inr (.inr ⟨h1, Nat.zero_le _⟩)
    · exact .inr (.inl h1)
  · omega
theorem BInv.keep {n : Nat} {T : Nat → Nat → Bool} {goal : Nat} {D : Nat → Int} {l : List Nat} {q k : Nat} (h : BInv n T goal D l q k) (hk : T k q = false ∨ 0 ≤ D k) : BInv n T goal D l q (k + 1) := by
  refine ⟨h.gl, h.zero, h.lo, h.nx, fun u v hu hv ht h0 => ?_, h.ls, h.qs⟩
  rcases h.cl u v hu hv ht h0 with h1 | h1 | ⟨h1, h2⟩
  · exact .inl h1
  · exact .inr (.inl h1)
  · rcases Nat.lt_or_ge k u with h3 | h3
    · exact .inr (.inr ⟨h1, h3⟩)
    · obtain rfl : u = k := by omega
      subst h1
      rcases hk with hk | hk
      · rw [hk] at ht; cases ht
      · exact .inl hk
theorem BInv.add {n : Nat} {T : Nat → Nat → Bool} {goal : Nat} {D : Nat → Int} {l : List Nat} {q k : Nat} (h : BInv n T goal D l q k) (hk : k < n) (ht : T k q = true) (hd : D k < 0) : BInv n T goal (updI D k (D q + 1)) (l ++ [k]) q (k + 1) := by
  have hs : updI D k (D q + 1) k = D q + 1 := by unfold updI; simp
  have ho : ∀ u, u ≠ k → updI D k (D q + 1) u = D u := fun u hu => by unfold updI; simp [hu]
  have hqk : q ≠ k := fun e => by have := h.qs.2; rw [e] at this; omega
  have hgk : goal ≠ k := fun e => by have := h.zero; rw [e] at this; omega
  have hc : cnt n (rch (updI D k (D q + 1))) = cnt n (rch D) + 1 := by
    unfold cnt
    rw [← countP_one (f := rch D) (p := k) (by unfold rch; simpa using hd) List.nodup_range (List.mem_range.2 hk)]
    refine List.countP_congr fun x _ => ?_
    by_cases e : x = k
    · subst e; unfold rch; rw [hs]; have := h.qs.2; simp; omega
    · unfold rch; rw [ho x e]; simp [e]
  have hpos : ∀ u, 0 ≤ D u → 0 ≤ updI D k (D q + 1) u := fun u hu => by
    by_cases e : u = k
    · subst e; omega
    · rw [ho u e]; exact hu
  refine ⟨h.gl, by rw [ho goal hgk]; exact h.zero, fun u hu => ?_, fun u hu h0 hne => ?_, fun u v hu hv htt h0 => ?_, fun v hv => ?_, h.qs.1, hpos q h.qs.2⟩
  · rw [hc]
    by_cases e : u = k
    · subst e; rw [hs]; have := h.lo q h.qs.1; have := h.qs.2; omega
    · rw [ho u e]; have := h.lo u hu; omega
  · by_cases e : u = k
    · subst e
      exact ⟨q, h.qs.1, ht, hpos q h.qs.2, by rw [hs, ho q hqk]; omega⟩
    · rw [ho u e] at h0 ⊢
      obtain ⟨v, hv, h1, h2, h3⟩ := h.nx u hu h0 hne
      have hvk : v ≠ k := fun e => by rw [e] at h2; omega
      exact ⟨v, hv, h1, hpos v h2, by rw [ho v hvk]; exact h3⟩
  · by_cases e : v = k
    · right; left; simp [e]
    · rw [ho v e] at h0
      rcases h.cl u v hu hv htt h0 with h1 | h1 | ⟨h1, h2⟩
      · exact .inl (hpos u h1)
      · exact .inr (.inl (by simp [h1]))
      · rcases Nat.lt_or_ge k u with h3 | h3
        · exact .inr (.inr ⟨h1, h3⟩)
        · obtain rfl : u = k := by omega
          left; rw [hs]; have := h.qs.2; omega
  · rcases List.mem_append.1 hv with hv | hv
    · exact ⟨(h.ls v hv).1, hpos v (h.ls v hv).2⟩
    · simp only [List.mem_singleton] at hv
      subst hv
      exact ⟨hk, by rw [hs]; have := h.qs.2; omega⟩
theorem unr_add {n : Nat} {D : Nat → Int} {k : Nat} {x : Int} (hk : k < n) (hd : D k < 0) (hx : 0 ≤ x) : unr n (updI D k x) < unr n D := by
  unfold unr
  refine countP_lt (fun p _ hp => ?_) ⟨k, List.mem_range.2 hk, by simpa using hd, by unfold updI; simp; omega⟩
  unfold updI at hp
  split at hp
  · simp at hp; omega
  · exact hp
theorem BInv.done {n : Nat} {T : Nat → Nat → Bool} {goal : Nat} {D : Nat → Int} {q : Nat} (h : BInv n T goal D [] q n) : FarOk n T goal D :=
  ⟨h.gl, h.zero, fun u hu => by have := h.lo u hu; have := cnt_le n (rch D); omega, h.nx, fun u v hu hv ht h0 => by
    rcases h.cl u v hu hv ht h0 with h1 | h1 | ⟨_, h1⟩
    · exact h1
    · cases h1
    · omega⟩
theorem FarOk.reach {n : Nat} {T : Nat → Nat → Bool} {goal : Nat} {D : Nat → Int} (h : FarOk n T goal D) {a b : Nat} (hr : Reach (Ed n T) a b) : 0 ≤ D b → 0 ≤ D a := by
  induction hr with
  | refl => exact id
  | tail _ e ih => exact fun h0 => ih (h.cl _ _ e.1 e.2.1 e.2.2 h0)
end Go.Proofs.Ytmbkjgfnnpopgab
