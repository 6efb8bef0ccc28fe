/- The document's reason for an atom. -/
import Derived.Test.YtpkpajjdpiebfaaProg
import Derived.Test.YtpkpajjdpiebfaaWellAtom
namespace Go.Proofs.Ytpkpajjdpiebfaa
set_option linter.unusedSimpArgs false
set_option linter.unusedVariables false
open Go.RowKit

set_option maxHeartbeats 1000000 in
theorem ratom (a : Atm) (w : World) (h : a.at w) :
    Calls Try.prog 22 #[a.val] w fun e w' => e = .returned (.int .i64 (atomE a.p a.ts)) ∧ Below w.heap.size w w' := by
  obtain ⟨p, ao, len, cap, off0, ts⟩ := a
  obtain ⟨hp, -, h1⟩ := h
  dsimp only at hp h1
  have HN := hide (fun w1 => rname p w1 hp)
  have H1 := hide h1
  have hl : Hid (ts.length = len) := h1.1
  have hl2 : len ≤ 140737488351232 := by have := h1.2.1; omega
  clear h1
  unfold Atm.val
  dsimp only
  cases hn : isNameL p.toList
  · have HE : Hid (atomE p ts = 14) := by show atomE _ _ = 14; unfold atomE; rw [hn]; rfl
    rw [HE.out]
    rw [hn] at HN
    clear HE
    go_enter Try.func22, Try.ntmps22
    go_wp2_with (go_at_call 39; refine (HN.out _).mono ?_; rintro e w' ⟨rfl, hw'⟩; have hw' := hw'.symm; subst hw')
    go_ret
    exact ⟨rfl, below1 _ _⟩
  · rw [hn] at HN
    by_cases h8 : 8 < len
    · have HE : Hid (atomE p ts = 22) := by show atomE _ _ = 22; unfold atomE; rw [hn, hl.out]; simp [h8]
      rw [HE.out]
      have hi : (8 : Int) < (len : Int) := by omega
      clear HE
      go_enter Try.func22, Try.ntmps22
      go_wp2_with (go_at_call 39; refine (HN.out _).mono ?_; rintro e w' ⟨rfl, hw'⟩; have hw' := hw'.symm; subst hw')
      go_ret
      exact ⟨rfl, below1 _ _⟩
    · have HE : Hid (atomE p ts = firstE termE ts) := by show atomE _ _ = _; unfold atomE; rw [hn, hl.out]; simp [h8]
      rw [HE.out]
      have hi : ¬ (8 : Int) < (len : Int) := by omega
      clear HE
      go_enter Try.func22, Try.ntmps22
      go_wp2_with (go_at_call 39; refine (HN.out _).mono ?_; rintro e w' ⟨rfl, hw'⟩; have hw' := hw'.symm; subst hw')
      clear HN
      go_loopw [3] (fun i wr => ∃ k : Nat, k ≤ len ∧ i = .int .i64 k ∧ Hid (∀ y ∈ ts.take k, termE y = 0) ∧ Hid (Below (w.alloc (.cells #[.string p, .slice ao len cap, .int .i64 off0] 44)).heap.size (w.alloc (.cells #[.string p, .slice ao len cap, .int .i64 off0] 44)) wr)) (fun i _ => len - (intOf i).toNat)
      case atStart => exact ⟨0, Nat.zero_le _, rfl, fun y hy => by simp at hy, Below.refl _ _⟩
      case round =>
        obtain ⟨k, hk, rfl, HA, HB⟩ := hrel
        have c1 := kept_cell HB.out (show (w.alloc (.cells #[.string p, .slice ao len cap, .int .i64 off0] 44)).cell? ⟨w.heap.size, 1, none⟩ = some (.slice ao len cap) from by go_simp)
        have HB2 := hide (below1t HB.out)
        by_cases hlt : k < len
        · have hi : (k : Int) < (len : Int) := by omega
          obtain ⟨hlen, -, hok, hrow⟩ := H1.out
          obtain ⟨b, off, rfl, hr⟩ := hrow (by omega)
          obtain ⟨t, ht⟩ : ∃ t, ts[k]? = some t := ⟨_, List.getElem?_eq_getElem (by omega)⟩
          obtain ⟨x0, x1, x2, x3⟩ := (hr k t ht).kept HB2.out
          have HT : Hid (∀ w1, Calls Try.prog 40 #[t.val] w1 fun e w' => e = .returned (.int .i64 (termE t)) ∧ Below w1.heap.size w1 w') := fun w1 => rterm t w1 (hok t (List.mem_of_getElem? ht))
          unfold Trm.val at HT
          by_cases hz : termE t = 0
          · have HN := hide (take_zero_more HA.out ht hz)
            rw [hz] at HT
            clear hz HA hlen hok hrow hr ht
            go_wp2_with (go_at_call 40; refine (HT.out _).mono ?_; rintro e w' ⟨rfl, hb⟩)
            go_roundw
            case rel => exact ⟨k + 1, by omega, by go_num, HN, hide (belowt HB.out hb)⟩
            case measure => simp [intOf]; omega
          · have HF := hide (firstE_at HA.out ht hz)
            have hz' : (termE t != 0) = true := by simpa using hz
            clear hz HA hlen hok hrow hr ht
            go_wp2_with (go_at_call 40; refine (HT.out _).mono ?_; rintro e w' ⟨rfl, hb⟩)
            go_ret
            exact ⟨by rw [HF.out]; rfl, belowt HB2.out hb⟩
        · have hi : ¬ (k : Int) < (len : Int) := by omega
          have HF : Hid (firstE termE ts = 0) := firstE_zero fun y hy => HA.out y (by rw [List.take_of_length_le (by have := H1.out.1; omega)]; exact hy)
          go_wp2
          go_ret
          exact ⟨by rw [HF.out]; rfl, HB2.out⟩
end Go.Proofs.Ytpkpajjdpiebfaa
