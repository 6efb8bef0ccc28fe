/- The document's Sum. -/
import Derived.Test.YtiacdadgnofhjabRefOf
import Derived.Test.YtiacdadgnofhjabRefCut
import Derived.Test.YtiacdadgnofhjabBoundSum
namespace Go.Proofs.Ytiacdadgnofhjab
set_option linter.unusedSimpArgs false
set_option linter.unusedVariables false
open Go.RowKit

set_option maxHeartbeats 1000000 in
theorem rsum_any {w : World} {v : Value} {l : List Nat} (h : Has elU w v l) (hl : l.length ≤ 1048576) :
    Calls Try.prog 5 #[v] w fun e w' => e = .returned (.int .u64 ((cutN l.sum : Nat) : Int)) ∧ Below w.heap.size w w' := by
  obtain ⟨va, vc, rfl, -, -, hlen⟩ := h.shape
  have HL := hide h
  clear h
  go_enter Try.func5, Try.ntmps5
  go_wp2
  go_loopw [3, 8] (fun v y wl => ∃ (k : Nat) (o : List Nat), k ≤ l.length ∧ y = .int .i64 k ∧ Hid (Dig o ∧ val o = (l.take k).sum ∧ o.length ≤ 4 + k) ∧ Hid (Grow elU 23 w.heap.size wl v o) ∧ Hid (Below w.heap.size w wl)) (fun _ y _ => l.length - (intOf y).toNat)
  case atStart => exact ⟨0, [], by omega, rfl, ⟨Dig.nil, by simp [val], by simp⟩, Grow.nil _ _ _ _, Below.refl _ _⟩
  case round =>
    obtain ⟨k, o, hk, rfl, P1, G1, B1⟩ := hrel
    obtain ⟨oa, oc, rfl, -, -⟩ := G1.out.shape
    by_cases hlt : k < l.length
    · have hi : (k : Int) < (l.length : Int) := by omega
      have hi0 : (0 : Int) ≤ (k : Int) := by omega
      obtain ⟨b, off, rfl, -, -, hrow⟩ := HL.out.row (by omega)
      obtain ⟨x, hx⟩ : ∃ x, l[k]? = some x := ⟨_, List.getElem?_eq_getElem hlt⟩
      have y0 := kept_cell B1.out (hrow k x hx 0 _ rfl)
      simp only [elU, Nat.add_zero, Nat.mul_one] at y0
      have H2 := hide (of_any (HL.out.ok (List.mem_of_getElem? hx)) wr)
      have HS := hide (sum_snoc9 hx)
      clear hrow hx
      go_wp2_with (first
        | (go_at_call 9; refine H2.out.mono ?_; rintro e w2 ⟨v2, rfl, l2, hg2, hd2, hv2, hl2, hb2⟩; obtain ⟨qa, qc, rfl, -, -⟩ := hg2.shape; have G2 := hide hg2; have P2 : Hid (Dig l2 ∧ val l2 = x ∧ l2.length ≤ 4) := ⟨hd2, hv2, hl2⟩; have B2 := hide (B1.out.trans (hb2.mono B1.out.size)); have G3 := hide (G1.out.kept hb2); clear hg2 hd2 hv2 hl2 hb2 H2 G1)
        | (go_at_call 8; refine (plus_any (G3.out.list (by have := P1.out.2.2; omega)) (G2.out.list (by have := P2.out.2.2; omega)) P1.out.1 P2.out.1 (by have := P1.out.2.2; have := P2.out.2.2; omega)).mono ?_; rintro e w3 ⟨v3, rfl, l3, hg3, hd3, hv3, hl3, hb3⟩; obtain ⟨ra, rc, rfl, -, -⟩ := hg3.shape; have G4 := hide (hg3.mono B2.out.size); have P3 : Hid (Dig l3 ∧ val l3 = (l.take (k + 1)).sum ∧ l3.length ≤ 4 + (k + 1)) := ⟨hd3, by rw [hv3, P1.out.2.1, P2.out.2.1, HS.out], by have := P1.out.2.2; have := P2.out.2.2; omega⟩; have B3 := hide (B2.out.trans (hb3.mono B2.out.size)); clear hg3 hd3 hv3 hl3 hb3))
      go_roundw
      case rel => exact ⟨k + 1, l3, by omega, by go_num, P3, G4, B3⟩
      case measure => simp [intOf]; omega
    · obtain rfl : k = l.length := by omega
      have hi : ¬ (l.length : Int) < (l.length : Int) := by omega
      have HC := hide (cut_any (G1.out.list (by have := P1.out.2.2; omega)) P1.out.1)
      have HE : Hid (l.sum = val o) := by show _ = _; rw [P1.out.2.1, List.take_of_length_le (Nat.le_refl _)]
      go_wp2_with (go_at_call 10; refine HC.out.mono ?_; rintro e w4 ⟨rfl, hw⟩; have hw := hw.symm; subst hw)
      go_ret
      exact ⟨by rw [HE.out]; rfl, B1.out⟩
end Go.Proofs.Ytiacdadgnofhjab
