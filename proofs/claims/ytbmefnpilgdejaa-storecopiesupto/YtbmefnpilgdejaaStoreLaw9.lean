/- Where, said of the rows. -/
import Derived.Test.YtbmefnpilgdejaaStoreLaw8
namespace Go.Proofs.Ytbmefnpilgdejaa
set_option linter.unusedSimpArgs false
set_option linter.unusedVariables false
open Go.RowKit Go.Maps

/-- Has a row this predicate, and x at the place j? -/
def hasAt (p j x : Int) (r : Rw) : Bool := decide (r.1 = p) && (decide (0 ≤ j) && decide (r.2[j.toNat]? = some x))
/-- At which places such rows stand. -/
def whP (W : List Rw) (p j x : Int) : List Int := (W.foldl (fun st r => (st.1 + 1, if hasAt p j x r = true then st.2 ++ [(st.1 : Int)] else st.2)) (0, ([] : List Int))).2
theorem whP_fst (W : List Rw) (p j x : Int) : (W.foldl (fun st r => (st.1 + 1, if hasAt p j x r = true then st.2 ++ [(st.1 : Int)] else st.2)) (0, ([] : List Int))).1 = W.length := by
  refine snoc_ind (P := fun W : List Rw => (W.foldl (fun st r => (st.1 + 1, if hasAt p j x r = true then st.2 ++ [(st.1 : Int)] else st.2)) (0, ([] : List Int))).1 = W.length) rfl (fun W r ih => ?_) W
  rw [List.foldl_append]
  simp [ih]
theorem whP_snoc (W : List Rw) (r : Rw) (p j x : Int) : whP (W ++ [r]) p j x = if hasAt p j x r = true then whP W p j x ++ [(W.length : Int)] else whP W p j x := by
  unfold whP
  rw [List.foldl_append]
  simp only [List.foldl_cons, List.foldl_nil, whP_fst]
theorem whP_nil (p j x : Int) : whP [] p j x = [] := rfl
theorem whP_len (W : List Rw) (p j x : Int) : (whP W p j x).length ≤ W.length ∧ ∀ y ∈ whP W p j x, 0 ≤ y ∧ y < W.length := by
  refine snoc_ind (P := fun W => (whP W p j x).length ≤ W.length ∧ ∀ y ∈ whP W p j x, 0 ≤ y ∧ y < W.length) ⟨by simp [whP_nil], by simp [whP_nil]⟩ (fun W r ih => ?_) W
  rw [whP_snoc]
  simp only [List.length_append, List.length_singleton]
  split
  · refine ⟨by rw [List.length_append, List.length_singleton]; omega, fun y hy => ?_⟩
    rcases List.mem_append.1 hy with h | h
    · have := ih.2 y h; omega
    · simp only [List.mem_singleton] at h; omega
  · exact ⟨by omega, fun y hy => by have := ih.2 y hy; omega⟩
theorem whP_none (W : List Rw) (p j x : Int) (h : W.any (hasAt p j x) = false) : whP W p j x = [] := by
  revert h
  refine snoc_ind (P := fun W => W.any (hasAt p j x) = false → whP W p j x = []) (fun _ => rfl) (fun W r ih h => ?_) W
  rw [List.any_append, Bool.or_eq_false_iff] at h
  have h2 : hasAt p j x r = false := by simpa using h.2
  rw [whP_snoc, if_neg (by rw [h2]; simp), ih h.1]

/-- What bring does to the index of the places. -/
theorem whF_at {F : Lit → List Int} {c : List Int} {n q p j x : Int} (hq : I64 q) (hp : I64 p) (hj : I64 j) (hx : I64 x) (hc : ∀ i, I64 (c.getD i 0)) : ∀ k : Nat, k ≤ 8 → whF F c n q k (litI [p, j, x]) = if q = p ∧ 0 ≤ j ∧ j < k ∧ c.getD (1 + j.toNat) 0 = x then F (litI [p, j, x]) ++ [n] else F (litI [p, j, x])
  | 0, _ => by rw [if_neg (by omega)]; rfl
  | k + 1, hk => by
    have ih := whF_at (F := F) (c := c) (n := n) hq hp hj hx hc k (by omega)
    simp only [whF]
    by_cases e : [p, j, x] = [q, (k : Int), c.getD (1 + k) 0]
    · simp only [List.cons.injEq, and_true] at e
      obtain ⟨rfl, rfl, rfl⟩ := e
      rw [setL_same, ih, if_neg (by omega), if_pos ⟨rfl, by omega, by omega, by rw [Int.toNat_natCast]⟩]
    · rw [setL_other _ _ (fun e2 => e (litI_inj3 rfl rfl (by intro a ha; simp at ha; rcases ha with rfl | rfl | rfl <;> assumption) (by
        intro a ha
        simp only [List.mem_cons, List.not_mem_nil, or_false] at ha
        rcases ha with rfl | rfl | rfl
        · exact hq
        · exact ⟨by omega, by omega⟩
        · exact hc _) e2)), ih]
      by_cases h : q = p ∧ 0 ≤ j ∧ j < (k : Int) ∧ c.getD (1 + j.toNat) 0 = x
      · rw [if_pos h, if_pos ⟨h.1, h.2.1, by omega, h.2.2.2⟩]
      · rw [if_neg h, if_neg]
        rintro ⟨h1, h2, h3, h4⟩
        by_cases h5 : j < (k : Int)
        · exact h ⟨h1, h2, h5, h4⟩
        · obtain rfl : j = (k : Int) := by omega
          rw [Int.toNat_natCast] at h4
          exact e (by rw [h1, h4])

theorem cells_I64 {q : Int} {l : List Int} (hq : I64 q) (hl : ∀ x ∈ l, I64 x) (i : Nat) : I64 ((cellsP q l).getD i 0) := by
  rw [List.getD_eq_getElem?_getD]
  cases h : (cellsP q l)[i]? with
  | none => exact ⟨by decide, by decide⟩
  | some y =>
    have hx := List.mem_of_getElem? h
    simp only [cellsP, List.mem_cons, List.mem_append, List.mem_replicate] at hx
    simp only [Option.getD_some]
    rcases hx with rfl | hx | ⟨_, rfl⟩
    · exact hq
    · exact hl y hx
    · exact ⟨by decide, by decide⟩

theorem cells_at {q : Int} {l : List Int} {j x : Int} : (0 ≤ j ∧ j < (l.length : Int) ∧ (cellsP q l).getD (1 + j.toNat) 0 = x) ↔ (0 ≤ j ∧ l[j.toNat]? = some x) := by
  constructor
  · rintro ⟨h1, h2, h3⟩
    refine ⟨h1, ?_⟩
    rw [← h3, List.getD_eq_getElem?_getD, cellsP, Nat.add_comm, List.getElem?_cons_succ, List.getElem?_append_left (by omega), List.getElem?_eq_getElem (by omega)]
    rfl
  · rintro ⟨h1, h2⟩
    have h3 := (List.getElem?_eq_some_iff.1 h2).1
    refine ⟨h1, by omega, ?_⟩
    rw [List.getD_eq_getElem?_getD, cellsP, Nat.add_comm, List.getElem?_cons_succ, List.getElem?_append_left h3, h2]
    rfl

theorem index_wh {ar : List Int} (hA : ∀ x ∈ ar, 0 ≤ x ∧ x ≤ 8) {p j x : Int} (hp : I64 p) (hj : I64 j) (hx : I64 x) (W : List Rw) (hm : ∀ r ∈ W, mayP ar r.1 r.2 = true ∧ I64 r.1 ∧ ∀ y ∈ r.2, I64 y) : (index ar (W.map cellsR)).2.2 (litI [p, j, x]) = whP W p j x := by
  revert hm
  refine snoc_ind (P := fun W => (∀ r ∈ W, mayP ar r.1 r.2 = true ∧ I64 r.1 ∧ ∀ y ∈ r.2, I64 y) → (index ar (W.map cellsR)).2.2 (litI [p, j, x]) = whP W p j x) (fun _ => rfl) (fun W r ih hm => ?_) W
  rw [List.map_append, List.map_singleton, index_snoc, whP_snoc]
  simp only [stepS, index_fst, List.length_map]
  obtain ⟨m1, m2, m3⟩ := hm r (by simp)
  obtain ⟨k, hk, ha, -⟩ := mayP_spec m1
  have h8 := hA _ (List.mem_of_getElem? ha)
  have e : (cellsR r).getD 0 0 = r.1 := rfl
  have e2 : arOf ar (cellsR r) = r.2.length := by
    unfold arOf
    rw [e, hk, Int.toNat_natCast, List.getD_eq_getElem?_getD, ha]
    rfl
  rw [e, e2, whF_at (c := cellsR r) m2 hp hj hx (cells_I64 m2 m3) _ (by omega), ih (fun r hr => hm r (by simp [hr]))]
  have e3 : (r.1 = p ∧ 0 ≤ j ∧ j < (r.2.length : Int) ∧ (cellsR r).getD (1 + j.toNat) 0 = x) ↔ hasAt p j x r = true := by
    unfold hasAt
    rw [Bool.and_eq_true, Bool.and_eq_true, decide_eq_true_eq, decide_eq_true_eq, decide_eq_true_eq, ← cells_at (q := r.1)]
    rfl
  by_cases h : hasAt p j x r = true
  · rw [if_pos h, if_pos (e3.2 h)]
  · rw [if_neg h, if_neg (fun h2 => h (e3.1 h2))]

theorem Keeps.rows {w : World} {p : Nat} {own : Own} {ar : List Int} {W : List Rw} {M : Nat} (h : Keeps w p own ar W M) : (∀ x ∈ ar, 0 ≤ x ∧ x ≤ 8) ∧ ∀ r ∈ W, mayP ar r.1 r.2 = true ∧ I64 r.1 ∧ ∀ y ∈ r.2, I64 y := by
  obtain ⟨_, _, _, hS, _⟩ := h.1
  refine ⟨hS.arI, fun r hr => ?_⟩
  have hm : mayP ar r.1 r.2 = true := List.all_eq_true.1 h.2 r hr
  obtain ⟨q, l, e, hm', hq, hl⟩ := hS.ok (cellsR r) (List.mem_map_of_mem hr)
  have e0 : r.1 = q := by
    have := congrArg (fun x => x.getD 0 0) e
    simpa [cellsR, cellsP, List.getD] using this
  refine ⟨hm, by rw [e0]; exact hq, fun y hy => ?_⟩
  obtain ⟨k, hk, ha, -⟩ := mayP_spec hm
  obtain ⟨k', hk', ha', -⟩ := mayP_spec hm'
  have : k = k' := by omega
  subst this
  have el : r.2.length = l.length := by
    have := ha.symm.trans ha'
    simp only [Option.some.injEq] at this
    omega
  have e1 : r.2 = l := by
    have := congrArg (fun x => (x.drop 1).take r.2.length) e
    simp only [cellsR, cellsP, List.drop_succ_cons, List.drop_zero, List.take_left] at this
    rw [this, el, List.take_left]
  rw [e1] at hy
  exact hl y hy

/-- Where, said of the rows. -/
theorem where_st {w : World} {p : Nat} {own : Own} {ar : List Int} {W : List Rw} {M : Nat} (h : Keeps w p own ar W M) (hM : M < 549755813888) {q j x : Int} (hq : I64 q) (hj : I64 j) (hx : I64 x) :
    Calls Try.prog 14 #[.pointer (some ⟨p, 0, none⟩), .int .i64 q, .int .i64 j, .int .i64 x] w fun e w' => ∃ ao cap, e = .returned (.slice ao (whP W q j x).length cap) ∧ IsInts w' ao (whP W q j x).length (whP W q j x) ∧ Below w.heap.size w w' := by
  have hl := whP_len W q j x
  have hn := h.num
  have hr := h.rows
  obtain ⟨L, S, hR, hS, _⟩ := h.1
  have e : S.W (litI [q, j, x]) = whP W q j x := by rw [hS.eW]; exact index_wh hr.1 hq hj hx W hr.2
  have := where_any hR hq hj hx (by rw [e]; omega) (by rw [e]; intro y hy; have := hl.2 y hy; exact ⟨by omega, by omega⟩)
  rw [e] at this
  refine this.mono ?_
  rintro e w' ⟨ao, cap, rfl, h1, h2, _⟩
  exact ⟨ao, cap, rfl, h1, h2⟩

/-- Rows of a store that have one predicate are of one length. -/
theorem may_len {ar : List Int} {a b : Rw} (ha : mayP ar a.1 a.2 = true) (hb : mayP ar b.1 b.2 = true) (h : a.1 = b.1) : a.2.length = b.2.length := by
  obtain ⟨k, hk, e, -⟩ := mayP_spec ha
  obtain ⟨k', hk', e', -⟩ := mayP_spec hb
  have : k = k' := by omega
  subst this
  have := e.symm.trans e'
  simp only [Option.some.injEq] at this
  omega
theorem whP_end {ar : List Int} {W : List Rw} (hm : ∀ r ∈ W, mayP ar r.1 r.2 = true) {r : Rw} (hr : r ∈ W) (x : Int) : whP W r.1 (r.2.length : Int) x = [] := by
  refine whP_none _ _ _ _ (List.any_eq_false.2 fun b hb => ?_)
  unfold hasAt
  simp only [Bool.and_eq_true, decide_eq_true_eq, Int.toNat_natCast]
  rintro ⟨h1, -, h3⟩
  have := may_len (hm b hb) (hm r hr) h1
  have := (List.getElem?_eq_some_iff.1 h3).1
  omega
theorem whP_neg (W : List Rw) (p x : Int) : whP W p (-1) x = [] := by
  refine whP_none _ _ _ _ (List.any_eq_false.2 fun b hb => ?_)
  unfold hasAt
  simp
end Go.Proofs.Ytbmefnpilgdejaa
