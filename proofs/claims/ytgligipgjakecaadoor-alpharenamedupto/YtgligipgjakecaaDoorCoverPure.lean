/- Which shapes cover which: by the loosest row of the covered one. -/
import Derived.Test.YtgligipgjakecaaDoorShapePure
namespace Go.Proofs.YtgligipgjakecaaDoor
set_option linter.unusedSimpArgs false
set_option linter.unusedVariables false
open Go.RowKit

/-- The numbers below n that stand in a list. -/
def cntL (L : List Int) (n : Nat) : Nat := L.countP (fun x => decide (x < (n : Int)))
theorem cntL_le (L : List Int) (n : Nat) : cntL L n ≤ L.length := List.countP_le_length
theorem cntL_mono (L : List Int) (n : Nat) : cntL L n ≤ cntL L (n + 1) := by
  unfold cntL
  apply List.countP_mono_left
  intro x _ h
  simp only [decide_eq_true_eq] at h ⊢
  omega
theorem cntL_step : ∀ (L : List Int) (n : Nat), (n : Int) ∈ L → cntL L n + 1 ≤ cntL L (n + 1)
  | [], n, h => by cases h
  | x :: r, n, h => by
    have hm := cntL_mono r n
    unfold cntL at hm ⊢
    rw [List.countP_cons, List.countP_cons]
    by_cases hx : x = (n : Int)
    · subst hx
      have h1 : decide ((n : Int) < (n : Int)) = false := by simp
      have h2 : decide ((n : Int) < ((n + 1 : Nat) : Int)) = true := by simp; omega
      rw [h1, h2, if_pos rfl, if_neg (by decide)]
      omega
    · have hr : (n : Int) ∈ r := by
        rcases List.mem_cons.1 h with h | h
        · exact absurd h.symm hx
        · exact h
      have ih := cntL_step r n hr
      unfold cntL at ih
      have h1 : decide (x < ((n + 1 : Nat) : Int)) = decide (x < (n : Int)) := by
        rw [decide_eq_decide]; omega
      rw [h1]
      omega

/-- The places filled up to now: constants as they are; elsewhere numbers below n that stand in neither shape, the same ones just where the shape has the same. -/
structure LooseTo (xs bs : List Int) (row : List Int) (k n : Nat) : Prop where
  len : row.length = k
  con : ∀ (i : Nat) (x r : Int), bs[i]? = some x → row[i]? = some r → 0 ≤ x → r = x
  out : ∀ (i : Nat) (x r : Int), bs[i]? = some x → row[i]? = some r → x < 0 → r ∉ xs ∧ r ∉ bs ∧ 0 ≤ r ∧ r < (n : Int)
  eqv : ∀ (i j : Nat) (x y r s : Int), bs[i]? = some x → bs[j]? = some y → row[i]? = some r → row[j]? = some s → x < 0 → y < 0 → (r = s ↔ x = y)
  few : n ≤ k + cntL (xs ++ bs) n
  i64 : ∀ r ∈ row, I64 r

theorem LooseTo.start (xs bs : List Int) : LooseTo xs bs [] 0 0 := ⟨rfl, by simp, by simp, by simp, by simp, by simp⟩

theorem at_snoc {row : List Int} {k i : Nat} {v r : Int} (hl : row.length = k) (h : (row ++ [v])[i]? = some r) : (i < k ∧ row[i]? = some r) ∨ (i = k ∧ r = v) := by
  rcases Nat.lt_or_ge i row.length with h1 | h1
  · rw [List.getElem?_append_left h1] at h
    exact .inl ⟨by omega, h⟩
  · rw [List.getElem?_append_right h1] at h
    have h2 := (List.getElem?_eq_some_iff.1 h).1
    simp only [List.length_singleton] at h2
    have h3 : i - row.length = 0 := by omega
    rw [h3] at h
    simp only [List.getElem?_cons_zero, Option.some.injEq] at h
    exact .inr ⟨by omega, h.symm⟩

theorem LooseTo.const {xs bs row : List Int} {k n : Nat} {c : Int} (h : LooseTo xs bs row k n) (hc : bs[k]? = some c) (h0 : 0 ≤ c) (hi : I64 c) : LooseTo xs bs (row ++ [c]) (k + 1) n := by
  refine ⟨by rw [List.length_append, h.len]; rfl, ?_, ?_, ?_, by have := h.few; omega, ?_⟩
  · intro i x r hx hr hx0
    rcases at_snoc h.len hr with ⟨_, h2⟩ | ⟨h1, h2⟩
    · exact h.con i x r hx h2 hx0
    · subst h1; rw [hc] at hx; cases hx; exact h2
  · intro i x r hx hr hx0
    rcases at_snoc h.len hr with ⟨_, h2⟩ | ⟨h1, h2⟩
    · exact h.out i x r hx h2 hx0
    · subst h1; rw [hc] at hx; cases hx; omega
  · intro i j x y r s hx hy hr hs hx0 hy0
    rcases at_snoc h.len hr with ⟨_, h2⟩ | ⟨h1, h2⟩
    · rcases at_snoc h.len hs with ⟨_, h4⟩ | ⟨h3, h4⟩
      · exact h.eqv i j x y r s hx hy h2 h4 hx0 hy0
      · subst h3; rw [hc] at hy; cases hy; omega
    · subst h1; rw [hc] at hx; cases hx; omega
  · intro r hr
    rcases List.mem_append.1 hr with h1 | h1
    · exact h.i64 r h1
    · simp only [List.mem_singleton] at h1; subst h1; exact hi

theorem LooseTo.again {xs bs row : List Int} {k n j : Nat} {c v : Int} (h : LooseTo xs bs row k n) (hc : bs[k]? = some c) (h0 : c < 0) (hj : j < k) (hbj : bs[j]? = some c) (hv : row[j]? = some v) : LooseTo xs bs (row ++ [v]) (k + 1) n := by
  refine ⟨by rw [List.length_append, h.len]; rfl, ?_, ?_, ?_, by have := h.few; omega, ?_⟩
  · intro i x r hx hr hx0
    rcases at_snoc h.len hr with ⟨_, h2⟩ | ⟨h1, h2⟩
    · exact h.con i x r hx h2 hx0
    · subst h1; rw [hc] at hx; cases hx; omega
  · intro i x r hx hr hx0
    rcases at_snoc h.len hr with ⟨_, h2⟩ | ⟨h1, h2⟩
    · exact h.out i x r hx h2 hx0
    · rw [h2]; exact h.out j c v hbj hv h0
  · intro i i' x y r s hx hy hr hs hx0 hy0
    rcases at_snoc h.len hr with ⟨_, h2⟩ | ⟨h1, h2⟩
    · rcases at_snoc h.len hs with ⟨_, h4⟩ | ⟨h3, h4⟩
      · exact h.eqv i i' x y r s hx hy h2 h4 hx0 hy0
      · subst h3; rw [hc] at hy; cases hy; rw [h4]
        exact h.eqv i j x c r v hx hbj h2 hv hx0 h0
    · subst h1; rw [hc] at hx; cases hx; rw [h2]
      rcases at_snoc h.len hs with ⟨_, h4⟩ | ⟨h3, h4⟩
      · exact h.eqv j i' c y v s hbj hy hv h4 h0 hy0
      · subst h3; rw [hc] at hy; cases hy; rw [h4]; simp
  · intro r hr
    rcases List.mem_append.1 hr with h1 | h1
    · exact h.i64 r h1
    · simp only [List.mem_singleton] at h1; subst h1; exact h.i64 _ (List.mem_of_getElem? hv)

theorem LooseTo.fresh {xs bs row : List Int} {k n : Nat} (h : LooseTo xs bs row k n) (hv : ∀ (i : Nat) (c : Int), bs[i]? = some c → CellOk bs i c) (hc : bs[k]? = some (-1 - (k : Int))) (h1 : (n : Int) ∉ xs) (h2 : (n : Int) ∉ bs) (hi : I64 (n : Int)) : LooseTo xs bs (row ++ [(n : Int)]) (k + 1) (n + 1) := by
  refine ⟨by rw [List.length_append, h.len]; rfl, ?_, ?_, ?_, ?_, ?_⟩
  · intro i x r hx hr hx0
    rcases at_snoc h.len hr with ⟨_, h2⟩ | ⟨h1, h2⟩
    · exact h.con i x r hx h2 hx0
    · subst h1; rw [hc] at hx; cases hx; omega
  · intro i x r hx hr hx0
    rcases at_snoc h.len hr with ⟨_, h4⟩ | ⟨h3, h4⟩
    · obtain ⟨g1, g2, g3, g4⟩ := h.out i x r hx h4 hx0
      exact ⟨g1, g2, g3, by omega⟩
    · rw [h4]; exact ⟨h1, h2, by omega, by omega⟩
  · intro i j x y r s hx hy hr hs hx0 hy0
    have old : ∀ (i : Nat) (x r : Int), i < k → bs[i]? = some x → row[i]? = some r → x < 0 → r ≠ (n : Int) ∧ x ≠ -1 - (k : Int) := fun i x r hik hx hr hx0 => by
      obtain ⟨_, _, _, g4⟩ := h.out i x r hx hr hx0
      refine ⟨by omega, fun e => ?_⟩
      have := (hv i x hx hx0).1
      rw [e, at10_neg] at this
      omega
    rcases at_snoc h.len hr with ⟨g1, g2⟩ | ⟨g1, g2⟩
    · rcases at_snoc h.len hs with ⟨g3, g4⟩ | ⟨g3, g4⟩
      · exact h.eqv i j x y r s hx hy g2 g4 hx0 hy0
      · subst g3; rw [hc] at hy; cases hy; rw [g4]
        obtain ⟨o1, o2⟩ := old i x r g1 hx g2 hx0
        exact ⟨fun e => absurd e o1, fun e => absurd e o2⟩
    · subst g1; rw [hc] at hx; cases hx; rw [g2]
      rcases at_snoc h.len hs with ⟨g3, g4⟩ | ⟨g3, g4⟩
      · obtain ⟨o1, o2⟩ := old j y s g3 hy g4 hy0
        exact ⟨fun e => absurd e.symm o1, fun e => absurd e.symm o2⟩
      · subst g3; rw [hc] at hy; cases hy; rw [g4]; simp
  · have := h.few
    have := cntL_mono (xs ++ bs) n
    omega
  · intro r hr
    rcases List.mem_append.1 hr with h1 | h1
    · exact h.i64 r h1
    · simp only [List.mem_singleton] at h1; subst h1; exact hi

theorem LooseTo.skip {xs bs row : List Int} {k n : Nat} (h : LooseTo xs bs row k n) (hn : (n : Int) ∈ xs ∨ (n : Int) ∈ bs) : LooseTo xs bs row k (n + 1) := by
  refine ⟨h.len, h.con, fun i x r hx hr hx0 => ?_, h.eqv, ?_, h.i64⟩
  · obtain ⟨g1, g2, g3, g4⟩ := h.out i x r hx hr hx0
    exact ⟨g1, g2, g3, by omega⟩
  · have := h.few
    have := cntL_step (xs ++ bs) n (List.mem_append.2 hn)
    omega
theorem LooseTo.small {xs bs row : List Int} {k n : Nat} (h : LooseTo xs bs row k n) : n ≤ k + (xs.length + bs.length) := by
  have := h.few
  have := cntL_le (xs ++ bs) n
  rw [List.length_append] at this
  omega

theorem loose_fit {p : Int} {xs bs row : List Int} {n : Nat} (h : LooseTo xs bs row bs.length n) (hx : Vld p xs) : FitC xs row ↔ FitC xs bs := by
  have hlen := h.len
  constructor
  · rintro ⟨h1, h2⟩
    refine ⟨by omega, fun i c hc => ?_⟩
    have hi := (List.getElem?_eq_some_iff.1 hc).1
    obtain ⟨x, hxb⟩ : ∃ x, bs[i]? = some x := ⟨_, List.getElem?_eq_getElem (by omega)⟩
    obtain ⟨r, hr⟩ : ∃ r, row[i]? = some r := ⟨_, List.getElem?_eq_getElem (by omega)⟩
    have ha := h2 i c hc
    unfold Asks at ha ⊢
    rw [hr] at ha
    rw [hxb]
    by_cases hn : c < 0
    · rw [if_pos hn] at ha ⊢
      have hj := (hx.2 i c hc hn).1
      obtain ⟨y, hy⟩ : ∃ y, bs[at10 c]? = some y := ⟨_, List.getElem?_eq_getElem (by omega)⟩
      obtain ⟨s, hs⟩ : ∃ s, row[at10 c]? = some s := ⟨_, List.getElem?_eq_getElem (by omega)⟩
      rw [hs] at ha
      rw [hy]
      have e : r = s := by simpa using ha
      congr 1
      rcases Int.lt_or_le x 0 with hx0 | hx0
      · rcases Int.lt_or_le y 0 with hy0 | hy0
        · exact (h.eqv i _ x y r s hxb hy hr hs hx0 hy0).1 e
        · have h5 := h.con _ y s hy hs hy0
          have h6 := (h.out i x r hxb hr hx0).2.1
          rw [e, h5] at h6
          exact absurd (List.mem_of_getElem? hy) h6
      · have h5 := h.con i x r hxb hr hx0
        rcases Int.lt_or_le y 0 with hy0 | hy0
        · have h6 := (h.out _ y s hy hs hy0).2.1
          rw [← e, h5] at h6
          exact absurd (List.mem_of_getElem? hxb) h6
        · have h7 := h.con _ y s hy hs hy0
          omega
    · rw [if_neg hn] at ha ⊢
      have e : r = c := by simpa using ha
      congr 1
      rcases Int.lt_or_le x 0 with hx0 | hx0
      · have h6 := (h.out i x r hxb hr hx0).1
        rw [e] at h6
        exact absurd (List.mem_of_getElem? hc) h6
      · have h5 := h.con i x r hxb hr hx0
        omega
  · rintro ⟨h1, h2⟩
    refine ⟨by omega, fun i c hc => ?_⟩
    have hi := (List.getElem?_eq_some_iff.1 hc).1
    obtain ⟨x, hxb⟩ : ∃ x, bs[i]? = some x := ⟨_, List.getElem?_eq_getElem (by omega)⟩
    obtain ⟨r, hr⟩ : ∃ r, row[i]? = some r := ⟨_, List.getElem?_eq_getElem (by omega)⟩
    have ha := h2 i c hc
    unfold Asks at ha ⊢
    rw [hxb] at ha
    rw [hr]
    by_cases hn : c < 0
    · rw [if_pos hn] at ha ⊢
      have hj := (hx.2 i c hc hn).1
      obtain ⟨y, hy⟩ : ∃ y, bs[at10 c]? = some y := ⟨_, List.getElem?_eq_getElem (by omega)⟩
      obtain ⟨s, hs⟩ : ∃ s, row[at10 c]? = some s := ⟨_, List.getElem?_eq_getElem (by omega)⟩
      rw [hy] at ha
      rw [hs]
      have e : x = y := by simpa using ha
      subst e
      congr 1
      rcases Int.lt_or_le x 0 with hx0 | hx0
      · exact (h.eqv i _ x x r s hxb hy hr hs hx0 hx0).2 rfl
      · rw [h.con i x r hxb hr hx0, h.con _ x s hy hs hx0]
    · rw [if_neg hn] at ha ⊢
      have e : x = c := by simpa using ha
      subst e
      rw [h.con i x r hxb hr (by omega)]

/-- Covers: by the cells of the covered shape themselves. -/
noncomputable def covB (p : Int) (xs : List Int) (q : Int) (bs : List Int) : Bool := vldB q bs && fitB p xs q bs
theorem loose_fitB {p q : Int} {xs bs row : List Int} {n : Nat} (h : LooseTo xs bs row bs.length n) (hx : Vld p xs) (hb : Vld q bs) : fitB p xs q row = covB p xs q bs := by
  unfold covB
  rw [vldB_yes hb, Bool.true_and, Bool.eq_iff_iff, fitB_iff, fitB_iff, loose_fit h hx]
end Go.Proofs.YtgligipgjakecaaDoor
