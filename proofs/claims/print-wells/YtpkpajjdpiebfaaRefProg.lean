/- The document's reasons for a clause and a program. -/
import Derived.Test.YtpkpajjdpiebfaaProg
import Derived.Test.YtpkpajjdpiebfaaWellProg
namespace Go.Proofs.Ytpkpajjdpiebfaa
set_option linter.unusedSimpArgs false
set_option linter.unusedVariables false
open Go.RowKit

set_option maxHeartbeats 2000000 in
theorem rclause (c : Cls) (w : World) (h : c.at w) :
    Calls Try.prog 15 #[c.val] w fun e w' => e = .returned (.int .i64 (clauseE c)) ∧ Below w.heap.size w w' := by
  obtain ⟨⟨p, hao, hlen, hcap, hoff, hts⟩, ao, len, cap, ts⟩ := c
  obtain ⟨h1, h2⟩ := h
  have HA := hide (fun w1 (hb : Below w.heap.size w w1) => ratom ⟨p, hao, hlen, hcap, hoff, hts⟩ w1 (h1.kept hb))
  have H1 : Hid (IsLtrs w ao len ts) := h2
  have hl : Hid (ts.length = len) := h2.1
  have hl2 : len ≤ 140737488351232 := by have := h2.2.1; dsimp only at this; omega
  clear h1 h2
  unfold Atm.val at HA
  unfold Cls.val
  dsimp only at HA ⊢
  have HX := hide (fun w' (hb : Below (w.alloc (.cells #[.string p, .slice hao hlen hcap, .int .i64 hoff, .slice ao len cap] 47)).heap.size (w.alloc (.cells #[.string p, .slice hao hlen hcap, .int .i64 hoff, .slice ao len cap] 47)) w') => kept_cell hb (show (w.alloc (.cells #[.string p, .slice hao hlen hcap, .int .i64 hoff, .slice ao len cap] 47)).cell? ⟨w.heap.size, 3, none⟩ = some (.slice ao len cap) from by go_simp))
  by_cases hz : atomE p hts = 0
  · rw [hz] at HA
    by_cases h8 : 16 < len
    · have HE : Hid (clauseE ⟨⟨p, hao, hlen, hcap, hoff, hts⟩, ao, len, cap, ts⟩ = 23) := by show clauseE _ = _; unfold clauseE bodyE; dsimp only; rw [hl.out]; simp [hz, h8]
      rw [HE.out]
      have hi : (16 : Int) < (len : Int) := by omega
      clear HE hz
      go_enter Try.func15, Try.ntmps15
      go_wp2_with (go_at_call 22; refine (HA.out _ (below1 _ _)).mono ?_; rintro e w' ⟨rfl, hb1⟩; have c3 := HX.out _ hb1)
      go_ret
      exact ⟨rfl, below1t hb1⟩
    · have HE : Hid (clauseE ⟨⟨p, hao, hlen, hcap, hoff, hts⟩, ao, len, cap, ts⟩ = firstE litE ts) := by show clauseE _ = _; unfold clauseE bodyE; dsimp only; rw [hl.out]; simp [hz, h8]
      rw [HE.out]
      have hi : ¬ (16 : Int) < (len : Int) := by omega
      clear HE hz
      go_enter Try.func15, Try.ntmps15
      go_wp2_with (go_at_call 22; refine (HA.out _ (below1 _ _)).mono ?_; rintro e w' ⟨rfl, hb1⟩; have c3 := HX.out _ hb1)
      have HB0 := hide hb1
      clear HA HX hb1 c3
      go_loopw [3, 4] (fun _ i wr => ∃ k : Nat, k ≤ len ∧ i = .int .i64 k ∧ Hid (∀ y ∈ ts.take k, litE y = 0) ∧ Hid (Below (w.alloc (.cells #[.string p, .slice hao hlen hcap, .int .i64 hoff, .slice ao len cap] 47)).heap.size (w.alloc (.cells #[.string p, .slice hao hlen hcap, .int .i64 hoff, .slice ao len cap] 47)) wr)) (fun _ i _ => len - (intOf i).toNat)
      case atStart => exact ⟨0, Nat.zero_le _, rfl, fun y hy => by simp at hy, HB0.out⟩
      case round =>
        obtain ⟨k, hk, rfl, HA, HB⟩ := hrel
        have c1 := kept_cell HB.out (show (w.alloc (.cells #[.string p, .slice hao hlen hcap, .int .i64 hoff, .slice ao len cap] 47)).cell? ⟨w.heap.size, 3, none⟩ = some (.slice ao len cap) from by go_simp)
        have HB2 := hide (below1t HB.out)
        by_cases hlt : k < len
        · have hi : (k : Int) < (len : Int) := by omega
          obtain ⟨hlen, -, hok, hrow⟩ := H1.out
          obtain ⟨b, off, rfl, hr⟩ := hrow (by omega)
          obtain ⟨t, ht⟩ : ∃ t, ts[k]? = some t := ⟨_, List.getElem?_eq_getElem (by omega)⟩
          obtain ⟨x0, x1, x2, x3, x4, ⟨x5, x6, x7, x8⟩, ⟨x9, x10, x11, x12⟩, x13⟩ := (hr k t ht).kept HB2.out
          rw [show off + k * 14 + 5 + 1 = off + k * 14 + 6 from rfl] at x6
          rw [show off + k * 14 + 5 + 2 = off + k * 14 + 7 from rfl] at x7
          rw [show off + k * 14 + 5 + 3 = off + k * 14 + 8 from rfl] at x8
          rw [show off + k * 14 + 9 + 1 = off + k * 14 + 10 from rfl] at x10
          rw [show off + k * 14 + 9 + 2 = off + k * 14 + 11 from rfl] at x11
          rw [show off + k * 14 + 9 + 3 = off + k * 14 + 12 from rfl] at x12
          have HT : Hid (∀ w1, Below w.heap.size w w1 → Calls Try.prog 23 #[t.val] w1 fun e w' => e = .returned (.int .i64 (litE t)) ∧ Below w1.heap.size w1 w') := fun w1 hb => rlit t w1 ((hok t (List.mem_of_getElem? ht)).kept hb)
          unfold Ltr.val at HT
          by_cases hz : litE t = 0
          · have HN := hide (take_zero_more HA.out ht hz)
            rw [hz] at HT
            clear hz HA hlen hok hrow hr ht
            go_wp2_with (go_at_call 23; refine (HT.out _ HB2.out).mono ?_; rintro e w' ⟨rfl, hb⟩)
            go_roundw
            case rel => exact ⟨k + 1, by omega, by go_num, HN, hide (belowt HB.out hb)⟩
            case measure => simp [intOf]; omega
          · have HF := hide (firstE_at HA.out ht hz)
            have hz' : (litE t != 0) = true := by simpa using hz
            clear hz HA hlen hok hrow hr ht
            go_wp2_with (go_at_call 23; refine (HT.out _ HB2.out).mono ?_; rintro e w' ⟨rfl, hb⟩)
            go_ret
            exact ⟨by rw [HF.out]; rfl, belowt HB2.out hb⟩
        · have hi : ¬ (k : Int) < (len : Int) := by omega
          have HF : Hid (firstE litE ts = 0) := firstE_zero fun y hy => HA.out y (by rw [List.take_of_length_le (by have := H1.out.1; omega)]; exact hy)
          go_wp2
          go_ret
          exact ⟨by rw [HF.out]; rfl, HB2.out⟩
  · have HE : Hid (clauseE ⟨⟨p, hao, hlen, hcap, hoff, hts⟩, ao, len, cap, ts⟩ = atomE p hts) := by show clauseE _ = _; unfold clauseE; simp [hz]
    rw [HE.out]
    have hz' : (atomE p hts != 0) = true := by simpa using hz
    clear HE hz
    go_enter Try.func15, Try.ntmps15
    go_wp2_with (go_at_call 22; refine (HA.out _ (below1 _ _)).mono ?_; rintro e w' ⟨rfl, hb1⟩)
    go_ret
    exact ⟨rfl, below1t hb1⟩

set_option maxHeartbeats 2000000 in
theorem rwell (ao : Option Addr) (len cap : Nat) (ts : List Cls) (w : World) (h : IsClss w ao len ts) :
    Calls Try.prog 8 #[.agg #[.slice ao len cap]] w fun e w' => e = .returned (.int .i64 (progE ts)) ∧ Below w.heap.size w w' := by
  have H1 := hide h
  have hl : Hid (ts.length = len) := h.1
  have hl2 : len ≤ 140737488351232 := by have := h.2.1; omega
  clear h
  by_cases h8 : 512 < len
  · have HE : Hid (progE ts = 24) := by show progE _ = _; unfold progE; rw [hl.out]; simp [h8]
    rw [HE.out]
    have hi : (512 : Int) < (len : Int) := by omega
    clear HE
    go_enter Try.func8, Try.ntmps8
    go_wp2
    go_ret
    exact ⟨rfl, below1 _ _⟩
  · have HE : Hid (progE ts = firstE clauseE ts) := by show progE _ = _; unfold progE; rw [hl.out]; simp [h8]
    rw [HE.out]
    have hi : ¬ (512 : Int) < (len : Int) := by omega
    clear HE
    go_enter Try.func8, Try.ntmps8
    go_wp2
    go_loopw [3] (fun i wr => ∃ k : Nat, k ≤ len ∧ i = .int .i64 k ∧ Hid (∀ y ∈ ts.take k, clauseE y = 0) ∧ Hid (Below (w.alloc (.cells #[.slice ao len cap] 32)).heap.size (w.alloc (.cells #[.slice ao len cap] 32)) wr)) (fun i _ => len - (intOf i).toNat)
    case atStart => exact ⟨0, Nat.zero_le _, rfl, fun y hy => by simp at hy, Below.refl _ _⟩
    case round =>
      obtain ⟨k, hk, rfl, HA, HB⟩ := hrel
      have c1 := kept_cell HB.out (show (w.alloc (.cells #[.slice ao len cap] 32)).cell? ⟨w.heap.size, 0, none⟩ = some (.slice ao len cap) from by go_simp)
      have HB2 := hide (below1t HB.out)
      by_cases hlt : k < len
      · have hi : (k : Int) < (len : Int) := by omega
        obtain ⟨hlen, -, hok, hrow⟩ := H1.out
        obtain ⟨b, off, rfl, hr⟩ := hrow (by omega)
        obtain ⟨t, ht⟩ : ∃ t, ts[k]? = some t := ⟨_, List.getElem?_eq_getElem (by omega)⟩
        obtain ⟨x0, x1, x2, x3⟩ := (hr k t ht).kept HB2.out
        have HT : Hid (∀ w1, Below w.heap.size w w1 → Calls Try.prog 15 #[t.val] w1 fun e w' => e = .returned (.int .i64 (clauseE t)) ∧ Below w1.heap.size w1 w') := fun w1 hb => rclause t w1 ((hok t (List.mem_of_getElem? ht)).kept hb)
        unfold Cls.val at HT
        by_cases hz : clauseE t = 0
        · have HN := hide (take_zero_more HA.out ht hz)
          rw [hz] at HT
          clear hz HA hlen hok hrow hr ht
          go_wp2_with (go_at_call 15; refine (HT.out _ HB2.out).mono ?_; rintro e w' ⟨rfl, hb⟩)
          go_roundw
          case rel => exact ⟨k + 1, by omega, by go_num, HN, hide (belowt HB.out hb)⟩
          case measure => simp [intOf]; omega
        · have HF := hide (firstE_at HA.out ht hz)
          have hz' : (clauseE t != 0) = true := by simpa using hz
          clear hz HA hlen hok hrow hr ht
          go_wp2_with (go_at_call 15; refine (HT.out _ HB2.out).mono ?_; rintro e w' ⟨rfl, hb⟩)
          go_ret
          exact ⟨by rw [HF.out]; rfl, belowt HB2.out hb⟩
      · have hi : ¬ (k : Int) < (len : Int) := by omega
        have HF : Hid (firstE clauseE ts = 0) := firstE_zero fun y hy => HA.out y (by rw [List.take_of_length_le (by have := H1.out.1; omega)]; exact hy)
        go_wp2
        go_ret
        exact ⟨by rw [HF.out]; rfl, HB2.out⟩

theorem printWells_walk (ao : Option Addr) (len cap : Nat) (ts : List Cls) (w : World) (h : IsClss w ao len ts) :
    Calls Try.prog 4 #[.agg #[.slice ao len cap]] w fun e w' => e = .returned (.bool true) ∧ Below w.heap.size w w' := by
  have HR := hide (fun w1 (hb : Below w.heap.size w w1) => rwell ao len cap ts w1 (h.kept hb))
  have HP := hide (fun w1 (hb : Below w.heap.size w w1) => well_any ao len cap ts w1 (h.kept hb))
  clear h
  go_enter Try.func4, Try.ntmps4
  go_wp2_with (first | (go_at_call 8; refine (HR.out _ (below1 _ _)).mono ?_; rintro e w' ⟨rfl, hb1⟩; have c0 := kept_cell hb1 (show (w.alloc (.cells #[.slice ao len cap] 32)).cell? ⟨w.heap.size, 0, none⟩ = some (.slice ao len cap) from by go_simp)) | (go_at_call 9; refine (HP.out _ (below1t hb1)).mono ?_; rintro e w' ⟨rfl, hb2⟩))
  go_ret
  exact ⟨ret_bool (by simp), below1t (belowt hb1 hb2)⟩
end Go.Proofs.Ytpkpajjdpiebfaa
