/- The document's Fit. -/
import Derived.Test.YtjifhmlfnnagcaaEdgeFit
namespace Go.Proofs.Ytjifhmlfnnagcaa
set_option linter.unusedSimpArgs false
set_option linter.unusedVariables false
open Go.RowKit

theorem eOut_false {n : Int} {x : Edg} (h : eOut n x = false) : 0 ≤ x.f ∧ x.f < n ∧ 0 ≤ x.t ∧ x.t < n := by
  unfold eOut eIn inB at h
  simp at h
  omega
theorem eOut_true {n : Int} {x : Edg} (h : eOut n x = true) : x.f < 0 ∨ (0 ≤ x.f ∧ n ≤ x.f) ∨ (0 ≤ x.f ∧ x.f < n ∧ x.t < 0) ∨ (0 ≤ x.f ∧ x.f < n ∧ 0 ≤ x.t ∧ n ≤ x.t) := by
  unfold eOut eIn inB at h
  simp at h
  omega
theorem any_at {α : Type} {p : α → Bool} {l : List α} {k : Nat} {x : α} (hx : l[k]? = some x) (he : p x = true) : l.any p = true := List.any_eq_true.2 ⟨x, List.mem_of_getElem? hx, he⟩
theorem any_no {α : Type} {p : α → Bool} {l : List α} (ha : ∀ y ∈ l.take l.length, p y = false) : l.any p = false := by
  rw [List.take_of_length_le (Nat.le_refl _)] at ha
  rw [List.any_eq_false]
  intro y hy
  simp [ha y hy]

set_option maxHeartbeats 1000000 in
theorem rfit_any {w : World} {v : Value} {es : List Edg} (h : Has elEdg w v es) (n : Int) :
    Calls Try.prog 20 #[.int .i64 n, v] w fun e w' => e = .returned (.bool (fitP n es)) ∧ Below w.heap.size w w' := by
  obtain ⟨va, vc, rfl, -, -, hlen⟩ := h.shape
  have HL := hide h
  clear h
  unfold fitP
  obtain ⟨a, ha⟩ : ∃ a, es.any (eOut n) = a := ⟨_, rfl⟩
  have HA := hide ha
  rw [ha]
  clear ha
  by_cases h0 : 0 ≤ n
  · by_cases h1 : n ≤ 128
    · have d0 : decide (0 ≤ n) = true := by simpa using h0
      have d1 : decide (n ≤ 128) = true := by simpa using h1
      rw [d0, d1]
      clear d0 d1
      simp only [Bool.true_and]
      go_enter Try.func20, Try.ntmps20
      go_wp2
      go_loopw [5] (fun i wl => ∃ k : Nat, k ≤ es.length ∧ i = .int .i64 k ∧ Hid (∀ x ∈ es.take k, eOut n x = false) ∧ Hid (Below w.heap.size w wl)) (fun i _ => es.length - (intOf i).toNat)
      case atStart => exact ⟨0, by omega, rfl, by show ∀ x ∈ es.take 0, eOut n x = false; simp, Below.refl _ _⟩
      case round =>
        obtain ⟨k, hk, rfl, HK, HB⟩ := hrel
        by_cases hlt : k < es.length
        · have hi : (k : Int) < (es.length : Int) := by omega
          have hi0 : (0 : Int) ≤ (k : Int) := by omega
          obtain ⟨b, off, rfl, -, -, hrow⟩ := HL.out.row (by omega)
          obtain ⟨x, hx⟩ : ∃ x, es[k]? = some x := ⟨_, List.getElem?_eq_getElem hlt⟩
          have y0 := kept_cell HB.out (hrow k x hx 0 _ rfl)
          have y1 := kept_cell HB.out (hrow k x hx 1 _ rfl)
          simp only [elEdg, Nat.add_zero] at y0 y1
          have HX := hide hx
          clear hrow hx
          cases he : eOut n x with
          | true =>
            have HE : Hid (a = true) := by show _ = _; rw [← HA.out]; exact any_at HX.out he
            rcases eOut_true he with g | ⟨g1, g⟩ | ⟨g1, g2, g⟩ | ⟨g1, g2, g3, g⟩
            · have q1 : decide (x.f < 0) = true := by simpa using g
              clear he g
              go_wp2
              go_ret
              exact ⟨by rw [HE.out]; rfl, HB.out⟩
            · have q1 : decide (x.f < 0) = false := by simpa using g1
              have q2 : decide (n ≤ x.f) = true := by simpa using g
              clear he g g1
              go_wp2
              go_ret
              exact ⟨by rw [HE.out]; rfl, HB.out⟩
            · have q1 : decide (x.f < 0) = false := by simpa using g1
              have q2 : decide (n ≤ x.f) = false := by simpa using g2
              have q3 : decide (x.t < 0) = true := by simpa using g
              clear he g g1 g2
              go_wp2
              go_ret
              exact ⟨by rw [HE.out]; rfl, HB.out⟩
            · have q1 : decide (x.f < 0) = false := by simpa using g1
              have q2 : decide (n ≤ x.f) = false := by simpa using g2
              have q3 : decide (x.t < 0) = false := by simpa using g3
              have q4 : decide (n ≤ x.t) = true := by simpa using g
              clear he g g1 g2 g3
              go_wp2
              go_ret
              exact ⟨by rw [HE.out]; rfl, HB.out⟩
          | false =>
            have HF2 := hide (all_snoc HX.out HK.out he)
            obtain ⟨g1, g2, g3, g4⟩ := eOut_false he
            have q1 : decide (x.f < 0) = false := by simpa using g1
            have q2 : decide (n ≤ x.f) = false := by simpa using g2
            have q3 : decide (x.t < 0) = false := by simpa using g3
            have q4 : decide (n ≤ x.t) = false := by simpa using g4
            clear he g1 g2 g3 g4
            go_wp2
            go_roundw
            case rel => exact ⟨k + 1, by omega, by go_num, HF2, HB⟩
            case measure => simp [intOf]; omega
        · obtain rfl : k = es.length := by omega
          have hi : ¬ (es.length : Int) < (es.length : Int) := by omega
          have HE : Hid (a = false) := by show _ = _; rw [← HA.out]; exact any_no HK.out
          go_wp2
          go_ret
          exact ⟨by rw [HE.out]; rfl, HB.out⟩
    · go_enter Try.func20, Try.ntmps20
      go_wp2
      go_ret
      exact ⟨by simp [show ¬ n ≤ 128 by omega], Below.refl _ _⟩
  · go_enter Try.func20, Try.ntmps20
    go_wp2
    go_ret
    exact ⟨by simp [show ¬ 0 ≤ n by omega], Below.refl _ _⟩
end Go.Proofs.Ytjifhmlfnnagcaa
