/- sym.Text and the document's Text: the same text. -/
import Derived.Test.YtleakainhpgldaaDoorProg
import Derived.Test.YtleakainhpgldaaDoorRefDec
import Derived.Test.YtleakainhpgldaaDoorSymRead
namespace Go.Proofs.YtleakainhpgldaaDoor
set_option linter.unusedSimpArgs false
set_option linter.unusedVariables false
open Go.RowKit

def textC (c : Con) : ByteArray := if validC c then (if c.k = 1 then ⟨(Lib.itoa c.n).toArray⟩ else if c.k = 2 then c.s else strOf (quotI c.s)) else ⟨#[]⟩

theorem valid_kind {c : Con} (h : validC c = true) : c.k = 1 ∨ c.k = 2 ∨ (c.k = 3 ∧ c.s.size ≤ 255) := by
  unfold validC at h
  by_cases h1 : c.k = 1
  · exact .inl h1
  · rw [if_neg h1] at h
    by_cases h2 : c.k = 2
    · exact .inr (.inl h2)
    · rw [if_neg h2] at h
      by_cases h3 : c.k = 3
      · rw [if_pos h3] at h
        simp only [Bool.and_eq_true, decide_eq_true_eq] at h
        exact .inr (.inr ⟨h3, h.2⟩)
      · rw [if_neg h3] at h; cases h

set_option maxHeartbeats 1000000 in
theorem symText_any (c : Con) (w : World) (hc : c.ok) (ht : TabLaid w) :
    Calls Tryd.prog 8 #[c.val] w fun e w' => e = .returned (.string (textC c)) ∧ Below w.heap.size w w' := by
  obtain ⟨k, n, s⟩ := c
  have HV := hide (fun w => valid_any ⟨k, n, s⟩ w hc)
  have HF : Hid (∀ w1, Below w.heap.size w w1 → Calls Tryd.prog 15 #[.int .i64 n, .int .i64 10] w1 fun e w' => e = .returned (.string ⟨(Lib.itoa n).toArray⟩) ∧ Below w1.heap.size w1 w') := fun w1 hb => format_any n w1 hc.2.1 (ht.kept hb)
  have HX := hide (fun w' (hb : Below (w.alloc (.cells #[.int .i64 k, .int .i64 n, .string s] 23)).heap.size (w.alloc (.cells #[.int .i64 k, .int .i64 n, .string s] 23)) w') => conAt_kept (conAt_new w ⟨k, n, s⟩ 23) hb)
  clear hc ht
  unfold Con.val at *
  cases hv : validC ⟨k, n, s⟩
  · have HE : Hid (textC ⟨k, n, s⟩ = ⟨#[]⟩) := by show textC _ = _; unfold textC; rw [hv]; rfl
    rw [HE.out]
    dsimp only at HV
    rw [hv] at HV
    clear HE hv
    go_enter Tryd.func8, Tryd.ntmps8
    go_wp2_with (go_at_call 7; refine (HV.out _).mono ?_; rintro e w' ⟨rfl, hb1⟩; obtain ⟨x0, x1, x2⟩ := HX.out _ hb1)
    go_ret
    exact ⟨rfl, (below1 _ _).trans (hb1.mono (by simp))⟩
  · have hk := valid_kind hv
    dsimp only at HV hk
    rw [hv] at HV
    rcases hk with rfl | rfl | ⟨rfl, hs⟩
    · have HE : Hid (textC ⟨1, n, s⟩ = ⟨(Lib.itoa n).toArray⟩) := by show textC _ = _; unfold textC; rw [hv]; rfl
      rw [HE.out]
      clear HE hv
      go_enter Tryd.func8, Tryd.ntmps8
      go_wp2_with (first | (go_at_call 7; refine (HV.out _).mono ?_; rintro e w' ⟨rfl, hb1⟩; obtain ⟨x0, x1, x2⟩ := HX.out _ hb1) | (go_at_call 15; refine (HF.out _ ((below1 _ _).trans (hb1.mono (by simp)))).mono ?_; rintro e w' ⟨rfl, hb2⟩))
      go_ret
      exact ⟨rfl, (below1 _ _).trans ((hb1.trans (hb2.mono hb1.size)).mono (by simp))⟩
    · have HE : Hid (textC ⟨2, n, s⟩ = s) := by show textC _ = _; unfold textC; rw [hv]; rfl
      rw [HE.out]
      clear HE hv
      go_enter Tryd.func8, Tryd.ntmps8
      go_wp2_with (go_at_call 7; refine (HV.out _).mono ?_; rintro e w' ⟨rfl, hb1⟩; obtain ⟨x0, x1, x2⟩ := HX.out _ hb1)
      go_ret
      exact ⟨rfl, (below1 _ _).trans (hb1.mono (by simp))⟩
    · have HE : Hid (textC ⟨3, n, s⟩ = strOf (quotI s)) := by show textC _ = _; unfold textC; rw [hv]; rfl
      have HQ := hide (fun w1 => quoted_any s w1 hs)
      rw [HE.out]
      clear HE hv
      go_enter Tryd.func8, Tryd.ntmps8
      go_wp2_with (first | (go_at_call 7; refine (HV.out _).mono ?_; rintro e w' ⟨rfl, hb1⟩; obtain ⟨x0, x1, x2⟩ := HX.out _ hb1) | (go_at_call 16; refine (HQ.out _).mono ?_; rintro e w' ⟨rfl, hb2⟩))
      go_ret
      exact ⟨rfl, (below1 _ _).trans ((hb1.trans (hb2.mono hb1.size)).mono (by simp))⟩

theorem quot_split (s : ByteArray) : strOf (quotI s) = (strOf (34 :: (intsOf s).flatMap escI)) ++ strOf [34] := by
  unfold quotI
  rw [strOf_app]

set_option maxHeartbeats 2000000 in
set_option maxRecDepth 100000 in
theorem rtext (c : Con) (w : World) (hc : c.ok) :
    Calls Tryd.prog 21 #[c.val] w fun e w' => e = .returned (.string (textC c)) ∧ Below w.heap.size w w' := by
  obtain ⟨k, n, s⟩ := c
  have HV := hide (fun w => rvalid ⟨k, n, s⟩ w hc)
  have HD : Hid (∀ w1, Calls Tryd.prog 32 #[.int .i64 n] w1 fun e w' => e = .returned (.string ⟨(Lib.itoa n).toArray⟩) ∧ Below w1.heap.size w1 w') := fun w1 => decimal_any n w1 hc.2.1
  have HX := hide (fun w' (hb : Below (w.alloc (.cells #[.int .i64 k, .int .i64 n, .string s] 23)).heap.size (w.alloc (.cells #[.int .i64 k, .int .i64 n, .string s] 23)) w') => conAt_kept (conAt_new w ⟨k, n, s⟩ 23) hb)
  clear hc
  unfold Con.val at *
  cases hv : validC ⟨k, n, s⟩
  · have HE : Hid (textC ⟨k, n, s⟩ = ⟨#[]⟩) := by show textC _ = _; unfold textC; rw [hv]; rfl
    rw [HE.out]
    dsimp only at HV
    rw [hv] at HV
    clear HE hv
    go_enter Tryd.func21, Tryd.ntmps21
    go_wp2_with (go_at_call 31; refine (HV.out _).mono ?_; rintro e w' ⟨rfl, hb1⟩; obtain ⟨x0, x1, x2⟩ := HX.out _ hb1)
    go_ret
    exact ⟨rfl, (below1 _ _).trans (hb1.mono (by simp))⟩
  · have hk := valid_kind hv
    dsimp only at HV hk
    rw [hv] at HV
    rcases hk with rfl | rfl | ⟨rfl, hs⟩
    · have HE : Hid (textC ⟨1, n, s⟩ = ⟨(Lib.itoa n).toArray⟩) := by show textC _ = _; unfold textC; rw [hv]; rfl
      rw [HE.out]
      clear HE hv
      go_enter Tryd.func21, Tryd.ntmps21
      go_wp2_with (first | (go_at_call 31; refine (HV.out _).mono ?_; rintro e w' ⟨rfl, hb1⟩; obtain ⟨x0, x1, x2⟩ := HX.out _ hb1) | (go_at_call 32; refine (HD.out _).mono ?_; rintro e w' ⟨rfl, hb2⟩))
      go_ret
      exact ⟨rfl, (below1 _ _).trans ((hb1.trans (hb2.mono hb1.size)).mono (by simp))⟩
    · have HE : Hid (textC ⟨2, n, s⟩ = s) := by show textC _ = _; unfold textC; rw [hv]; rfl
      rw [HE.out]
      clear HE hv
      go_enter Tryd.func21, Tryd.ntmps21
      go_wp2_with (go_at_call 31; refine (HV.out _).mono ?_; rintro e w' ⟨rfl, hb1⟩; obtain ⟨x0, x1, x2⟩ := HX.out _ hb1)
      go_ret
      exact ⟨rfl, (below1 _ _).trans (hb1.mono (by simp))⟩
    · have HE : Hid (textC ⟨3, n, s⟩ = strOf (34 :: (intsOf s).flatMap escI) ++ ⟨#[34]⟩) := by show textC _ = _; unfold textC; rw [hv]; exact quot_split s
      rw [HE.out]
      clear HE hv
      go_enter Tryd.func21, Tryd.ntmps21
      go_wp2_with (go_at_call 31; refine (HV.out _).mono ?_; rintro e w' ⟨rfl, hb1⟩; obtain ⟨x0, x1, x2⟩ := HX.out _ hb1)
      have HB0 := hide hb1
      clear HV HD hb1 x0 x1 x2
      go_loopw [3, 4] (fun v i wr => ∃ (k : Nat) (Y : ByteArray), k ≤ s.size ∧ Y.size ≤ 1 + 4 * k ∧ i = .int .i64 k ∧ v = .string Y ∧ Hid (Y = strOf (34 :: ((intsOf s).take k).flatMap escI)) ∧ Hid (Below (w.alloc (.cells #[.int .i64 3, .int .i64 n, .string s] 23)).heap.size (w.alloc (.cells #[.int .i64 3, .int .i64 n, .string s] 23)) wr)) (fun _ i _ => s.size - (intOf i).toNat)
      case atStart => exact ⟨0, ⟨#[34]⟩, by omega, by decide, rfl, rfl, rfl, HB0.out⟩
      case round =>
        obtain ⟨k, Y, hk, hY, rfl, rfl, HY, HB⟩ := hrel
        obtain ⟨x0, x1, x2⟩ := HX.out _ HB.out
        by_cases hlt : k < s.size
        · have hi : (k : Int) < (s.size : Int) := by omega
          have hb : (0 : Int) ≤ (s[k].toNat : Int) ∧ (s[k].toNat : Int) ≤ 255 := by have := s[k].toNat_lt; omega
          obtain ⟨X, hX⟩ : ∃ X, X = strOf (escI (s[k].toNat : Int)) := ⟨_, rfl⟩
          have HL := hide (fun w1 => letter_any (s[k].toNat : Int) w1 hb)
          rw [← hX] at HL
          have hXs : X.size ≤ 4 := by rw [hX, strOf_size]; exact escI_len _
          have HY2 : Hid (Y ++ X = strOf (34 :: ((intsOf s).take (k + 1)).flatMap escI)) := by
            show _ = _
            rw [HY.out, hX, ← strOf_app, intsOf_take s k hlt, List.flatMap_append]
            simp
          have hsz : (Y ++ X).size ≤ 1 + 4 * (k + 1) := by rw [ByteArray.size_append]; omega
          clear hX
          go_wp2_with (go_at_call 33; refine (HL.out _).mono ?_; rintro e w' ⟨rfl, hb2⟩)
          go_roundw
          case rel => exact ⟨k + 1, _, by omega, hsz, by go_num, rfl, HY2, hide (HB.out.trans (hb2.mono HB.out.size))⟩
          case measure => simp [intOf]; omega
        · have hi : ¬ (k : Int) < (s.size : Int) := by omega
          have HF : Hid (Y = strOf (34 :: (intsOf s).flatMap escI)) := by
            have := HY.out
            rw [List.take_of_length_le (by rw [intsOf_len]; omega)] at this
            exact this
          go_wp2
          go_ret
          exact ⟨by rw [← HF.out]; rfl, (below1 _ _).trans (HB.out.mono (by simp))⟩
end Go.Proofs.YtleakainhpgldaaDoor
