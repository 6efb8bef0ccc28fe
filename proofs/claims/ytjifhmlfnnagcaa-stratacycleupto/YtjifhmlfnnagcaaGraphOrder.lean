/- The order in which components are told, said over predicates alone. -/
import Derived.Test.YtjifhmlfnnagcaaGraphRelease
namespace Go.Proofs.Ytjifhmlfnnagcaa
set_option linter.unusedSimpArgs false
set_option linter.unusedVariables false

/-- Does all that leads into r's component from others come from components of S? -/
def ReadyIn (n : Nat) (T : Nat → Nat → Bool) (H : Nat → Int) (S : List Nat) (r : Nat) : Prop := ∀ u v, u < n → v < n → T u v = true → H u ≠ H v → H v = r → (H u).toNat ∈ S
def restB (H : Nat → Int) (S : List Nat) (u : Nat) : Bool := !(S.contains (H u).toNat)

structure Greedy (n : Nat) (T : Nat → Nat → Bool) (H : Nat → Int) (reps : List Nat) : Prop where
  rep : ∀ r ∈ reps, r < n ∧ H r = r
  nd : reps.Nodup
  step : ∀ (k r : Nat), reps[k]? = some r → ReadyIn n T H (reps.take k) r ∧ ∀ q, q < n → H q = q → q < r → q ∉ reps.take k → ¬ ReadyIn n T H (reps.take k) q

theorem Greedy.nil (n : Nat) (T : Nat → Nat → Bool) (H : Nat → Int) : Greedy n T H [] := ⟨by simp, List.nodup_nil, by simp⟩
theorem Greedy.snoc {n : Nat} {T : Nat → Nat → Bool} {H : Nat → Int} {reps : List Nat} (h : Greedy n T H reps) {r : Nat} (hr : r < n) (hH : H r = r) (hn : r ∉ reps) (h1 : ReadyIn n T H reps r) (h2 : ∀ q, q < n → H q = q → q < r → q ∉ reps → ¬ ReadyIn n T H reps q) : Greedy n T H (reps ++ [r]) := by
  refine ⟨fun x hx => ?_, ?_, fun k x hk => ?_⟩
  · rcases List.mem_append.1 hx with h3 | h3
    · exact h.rep x h3
    · simp only [List.mem_singleton] at h3; rw [h3]; exact ⟨hr, hH⟩
  · rw [List.nodup_append]
    refine ⟨h.nd, by simp, fun a ha b hb e => ?_⟩
    simp only [List.mem_singleton] at hb
    rw [e, hb] at ha
    exact hn ha
  · rcases Nat.lt_or_ge k reps.length with hl | hl
    · rw [List.getElem?_append_left hl] at hk
      rw [List.take_append_of_le_length (Nat.le_of_lt hl)]
      exact h.step k x hk
    · rw [List.getElem?_append_right hl] at hk
      have h0 : k - reps.length = 0 := by
        have := (List.getElem?_eq_some_iff.1 hk).1
        simp at this; omega
      rw [h0] at hk
      simp only [List.getElem?_cons_zero, Option.some.injEq] at hk
      subst hk
      have : k = reps.length := by omega
      subst this
      rw [List.take_left' rfl]
      exact ⟨h1, h2⟩

theorem sum_pos {l : List Nat} : 0 < l.sum ↔ ∃ x ∈ l, 0 < x := by
  induction l with
  | nil => simp
  | cons a r ih =>
    rw [List.sum_cons]
    constructor
    · intro h
      by_cases ha : 0 < a
      · exact ⟨a, by simp, ha⟩
      · obtain ⟨x, hx, hp⟩ := ih.1 (by omega)
        exact ⟨x, by simp [hx], hp⟩
    · rintro ⟨x, hx, hp⟩
      rcases List.mem_cons.1 hx with h | h
      · omega
      · have := ih.2 ⟨x, h, hp⟩; omega

/-- Nothing is waited for just where it is ready. -/
theorem wt_zero {n : Nat} {T : Nat → Nat → Bool} {H : Nat → Int} {S : List Nat} {r : Nat} : wt n T H (restB H S) n r = 0 ↔ ReadyIn n T H S r := by
  have key : 0 < wt n T H (restB H S) n r ↔ ∃ u v, u < n ∧ v < n ∧ T u v = true ∧ H u ≠ H v ∧ H v = r ∧ (H u).toNat ∉ S := by
    unfold wt
    rw [sum_pos]
    constructor
    · rintro ⟨x, hx, hp⟩
      obtain ⟨u, hu, rfl⟩ := List.mem_map.1 hx
      split at hp
      · rename_i hS
        unfold rowC at hp
        obtain ⟨v, hv, ho⟩ := List.countP_pos_iff.1 hp
        unfold outL at ho
        simp only [Bool.and_eq_true, bne_iff_ne, ne_eq, beq_iff_eq] at ho
        refine ⟨u, v, List.mem_range.1 hu, List.mem_range.1 hv, ho.1, ho.2.1, ho.2.2, ?_⟩
        unfold restB at hS
        simpa using hS
      · omega
    · rintro ⟨u, v, hu, hv, h1, h2, h3, h4⟩
      refine ⟨_, List.mem_map.2 ⟨u, List.mem_range.2 hu, rfl⟩, ?_⟩
      rw [if_pos (by unfold restB; simpa using h4)]
      unfold rowC
      refine List.countP_pos_iff.2 ⟨v, List.mem_range.2 hv, ?_⟩
      unfold outL
      simp [h1, h2, h3]
      rw [← h3]; exact h2
  constructor
  · intro h0 u v hu hv h1 h2 h3
    refine Classical.byContradiction fun h4 => ?_
    have := key.2 ⟨u, v, hu, hv, h1, h2, h3, h4⟩
    omega
  · intro h
    rcases Nat.eq_zero_or_pos (wt n T H (restB H S) n r) with h0 | h0
    · exact h0
    · obtain ⟨u, v, hu, hv, h1, h2, h3, h4⟩ := key.1 h0
      exact absurd (h u v hu hv h1 h2 h3) h4

def memL (H : Nat → Int) (k r : Nat) : List Nat := (List.range k).filter fun v => H v == (r : Int)
theorem memL_succ (H : Nat → Int) (k r : Nat) : memL H (k + 1) r = memL H k r ++ (if H k == (r : Int) then [k] else []) := by
  unfold memL
  rw [List.range_succ, List.filter_append]
  congr 1
  cases h : (H k == (r : Int)) <;> simp [h]

/-- A component told takes what led out of it from what is waited for. -/
theorem wt_told {n : Nat} {T : Nat → Nat → Bool} {H : Nat → Int} {S : List Nat} {p r : Nat} (hH : ∀ v, v < n → 0 ≤ H v) (hp : p ∉ S) :
    ∀ k, k ≤ n → wt n T H (restB H S) k r = wt n T H (restB H (S ++ [p])) k r + sumC T H n r (memL H k p) := by
  intro k
  induction k with
  | zero => intro _; simp [wt, sumC, memL]
  | succ k ih =>
    intro hk
    rw [wt_succ, wt_succ, ih (by omega), memL_succ]
    have h0 := hH k (by omega)
    by_cases e : H k = p
    · have h1 : restB H S k = true := by unfold restB; rw [e]; simpa using hp
      have h2 : restB H (S ++ [p]) k = false := by unfold restB; rw [e]; simp
      have h3 : (H k == (p : Int)) = true := by simpa using e
      rw [h1, h2, h3]
      simp only [if_true, Bool.false_eq_true, if_false, sumC_snoc]
      omega
    · have h3 : (H k == (p : Int)) = false := by simpa using e
      have h4 : restB H (S ++ [p]) k = restB H S k := by
        unfold restB
        have : (H k).toNat ≠ p := by omega
        simp [this]
      rw [h3, h4]
      simp only [Bool.false_eq_true, if_false, List.append_nil]
      omega
end Go.Proofs.Ytjifhmlfnnagcaa
