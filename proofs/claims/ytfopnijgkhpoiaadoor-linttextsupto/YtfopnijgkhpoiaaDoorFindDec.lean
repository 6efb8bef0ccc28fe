/- The document's decimal: an integer's digits (edictref01.Text of an integer, edictref18.decimal). -/
import Derived.Test.YtfopnijgkhpoiaaDoorProg
import Derived.Test.YtfopnijgkhpoiaaDoorFindPure
import Derived.Test.YtfopnijgkhpoiaaDoorBox
namespace Go.Proofs.YtfopnijgkhpoiaaDoor
set_option linter.unusedSimpArgs false
set_option linter.unusedVariables false
open Go.RowKit

theorem dec_small {a : Nat} (h : a < 10) : Lib.decDigits a = [UInt8.ofNat (48 + a)] := by rw [Lib.decDigits, dif_pos h]
theorem dec_big {a : Nat} (h : ¬ a < 10) : Lib.decDigits a = Lib.decDigits (a / 10) ++ [UInt8.ofNat (48 + a % 10)] := by rw [Lib.decDigits, dif_neg h]

theorem str_digit (d : Nat) (acc : List UInt8) : strOf [(48 + (d : Int))] ++ (⟨acc.toArray⟩ : ByteArray) = ⟨(UInt8.ofNat (48 + d) :: acc).toArray⟩ := by
  apply bytes_ext
  rw [ByteArray.data_append, Array.toList_append, strOf_data]
  simp [byteOf, show (48 + (d : Int)).toNat = 48 + d from by omega]

set_option maxHeartbeats 4000000 in
set_option maxRecDepth 100000 in
theorem decimal_any (n : Int) (w : World) (hn : I64 n) :
    Calls Tryd.prog 18 #[.int .i64 n] w fun e w' => e = .returned (.string ⟨(Lib.itoa n).toArray⟩) ∧ Below w.heap.size w w' := by
  obtain ⟨hn1, hn2⟩ := hn
  have HI : Hid (Lib.itoa n = if n < 0 then 45 :: Lib.decDigits n.natAbs else Lib.decDigits n.natAbs) := by
    show _ = _
    unfold Lib.itoa
    by_cases h : n < 0
    · rw [if_pos h, if_pos h]
    · rw [if_neg h, if_neg h, show n.toNat = n.natAbs from by omega]
  go_enter Tryd.func18, Tryd.ntmps18
  go_wp2
  go_loopw [3, 4, 5] (fun s m _ wr => ∃ (a : Nat) (acc : List UInt8) (Y : ByteArray), Y.size ≤ 21 ∧ (a : Int) ≤ 9223372036854775808 ∧ (m = .int .i64 a ∨ m = .int .i64 (-(a : Int))) ∧ (-9223372036854775808 ≤ intOf m ∧ intOf m ≤ 9223372036854775807) ∧ s = .string Y ∧ Hid (Y = ⟨acc.toArray⟩) ∧ Hid (Lib.decDigits n.natAbs = Lib.decDigits a ++ acc) ∧ Hid (Below w.heap.size w wr)) (fun _ m _ _ => (intOf m).natAbs)
  case atStart => exact ⟨n.natAbs, [], ⟨#[]⟩, Nat.zero_le _, by omega, by rcases Int.natAbs_eq n with h | h; exact .inl (by rw [← h]); exact .inr (by rw [← h]), ⟨hn1, hn2⟩, rfl, rfl, by show _ = _; simp, Below.refl _ _⟩
  case round =>
    obtain ⟨a, acc, Y, hY, ha, hm, hb, rfl, HY, HD, HB⟩ := hrel
    rcases hm with rfl | rfl
    · obtain ⟨X, hX⟩ : ∃ X, X = strOf [48 + (a : Int) % 10] := ⟨_, rfl⟩
      have hconv : (convert 32 9 (.slice (some ⟨wr.heap.size, 0, none⟩) 1 1)).run Tryd.prog (wr.alloc (.cells #[.int .u8 (48 + (a : Int) % 10)] 5)) = .ok (.string X) (wr.alloc (.cells #[.int .u8 (48 + (a : Int) % 10)] 5)) := by rw [hX]; exact lit_string wr [48 + (a : Int) % 10] 1 rfl
      have hX1 : X.size = 1 := by rw [hX, strOf_size]; rfl
      have HS : Hid (X ++ Y = ⟨(UInt8.ofNat (48 + a % 10) :: acc).toArray⟩) := by show _ = _; rw [hX, HY.out]; exact str_digit (a % 10) acc
      have HB2 := hide (HB.out.alloc HB.out.size (.cells #[.int .u8 (48 + (a : Int) % 10)] 5))
      clear hX
      dsimp only [intOf] at hb
      by_cases h10 : a < 10
      · have hz : (a : Int) / 10 = 0 := by omega
        have HF : Hid (Lib.decDigits n.natAbs = UInt8.ofNat (48 + a % 10) :: acc) := by
          show _ = _
          rw [HD.out, dec_small h10, show a % 10 = a from by omega]; rfl
        by_cases hneg : n < 0
        · have HR : Hid ((⟨#[45]⟩ : ByteArray) ++ (X ++ Y) = ⟨(Lib.itoa n).toArray⟩) := by
            show _ = _
            rw [HI.out, if_pos hneg, HS.out, HF.out]
            exact bytes_ext (by rw [ByteArray.data_append, Array.toList_append]; rfl)
          have hsz : (X ++ Y).size ≤ 22 := by rw [ByteArray.size_append]; omega
          go_wp2
          go_ret
          exact ⟨by rw [← HR.out]; rfl, HB2.out⟩
        · have HR : Hid (X ++ Y = ⟨(Lib.itoa n).toArray⟩) := by
            show _ = _
            rw [HI.out, if_neg hneg, HS.out, HF.out]
          go_wp2
          go_ret
          exact ⟨by rw [← HR.out]; rfl, HB2.out⟩
      · have hz : ((a : Int) / 10 == 0) = false := by simp; omega
        have HF : Hid (Lib.decDigits n.natAbs = Lib.decDigits (a / 10) ++ UInt8.ofNat (48 + a % 10) :: acc) := by
          show _ = _
          rw [HD.out, dec_big h10]; simp
        have hsz : (X ++ Y).size ≤ 21 := by
          have h1 := Lib.itoa_length_le n hn1 hn2
          have h2 : (Lib.decDigits n.natAbs).length ≤ 21 := by
            rw [HI.out] at h1
            by_cases hneg : n < 0
            · rw [if_pos hneg, List.length_cons] at h1; omega
            · rw [if_neg hneg] at h1; exact h1
          rw [HF.out, List.length_append] at h2
          have h3 : (X ++ Y).size = (UInt8.ofNat (48 + a % 10) :: acc).length := by rw [HS.out]; rfl
          omega
        go_wp2
        go_roundw
        case rel => exact ⟨a / 10, _, _, hsz, by omega, .inl (by go_num), by simp [intOf]; omega, rfl, HS, HF, HB2⟩
        case measure => simp [intOf]; omega
    · obtain ⟨X, hX⟩ : ∃ X, X = strOf [48 + (a : Int) % 10] := ⟨_, rfl⟩
      have hconv : (convert 32 9 (.slice (some ⟨wr.heap.size, 0, none⟩) 1 1)).run Tryd.prog (wr.alloc (.cells #[.int .u8 (48 + (a : Int) % 10)] 5)) = .ok (.string X) (wr.alloc (.cells #[.int .u8 (48 + (a : Int) % 10)] 5)) := by rw [hX]; exact lit_string wr [48 + (a : Int) % 10] 1 rfl
      have hX1 : X.size = 1 := by rw [hX, strOf_size]; rfl
      have HS : Hid (X ++ Y = ⟨(UInt8.ofNat (48 + a % 10) :: acc).toArray⟩) := by show _ = _; rw [hX, HY.out]; exact str_digit (a % 10) acc
      have HB2 := hide (HB.out.alloc HB.out.size (.cells #[.int .u8 (48 + (a : Int) % 10)] 5))
      clear hX
      dsimp only [intOf] at hb
      by_cases h0 : (a : Int) % 10 = 0
      · have hconv0 : (convert 32 9 (.slice (some ⟨wr.heap.size, 0, none⟩) 1 1)).run Tryd.prog (wr.alloc (.cells #[.int .u8 48] 5)) = .ok (.string X) (wr.alloc (.cells #[.int .u8 48] 5)) := by
          have := hconv
          rw [h0] at this
          exact this
        have HB2 : Hid (Below w.heap.size w (wr.alloc (.cells #[.int .u8 48] 5))) := HB.out.alloc HB.out.size _
        clear hconv
        by_cases h10 : a < 10
        · have hz : (a : Int) / 10 = 0 := by omega
          have HF : Hid (Lib.decDigits n.natAbs = UInt8.ofNat (48 + a % 10) :: acc) := by
            show _ = _
            rw [HD.out, dec_small h10, show a % 10 = a from by omega]; rfl
          by_cases hneg : n < 0
          · have HR : Hid ((⟨#[45]⟩ : ByteArray) ++ (X ++ Y) = ⟨(Lib.itoa n).toArray⟩) := by
              show _ = _
              rw [HI.out, if_pos hneg, HS.out, HF.out]
              exact bytes_ext (by rw [ByteArray.data_append, Array.toList_append]; rfl)
            have hsz : (X ++ Y).size ≤ 22 := by rw [ByteArray.size_append]; omega
            go_wp2
            go_ret
            exact ⟨by rw [← HR.out]; rfl, HB2.out⟩
          · have HR : Hid (X ++ Y = ⟨(Lib.itoa n).toArray⟩) := by
              show _ = _
              rw [HI.out, if_neg hneg, HS.out, HF.out]
            go_wp2
            go_ret
            exact ⟨by rw [← HR.out]; rfl, HB2.out⟩
        · have hz : ((a : Int) / 10 == 0) = false := by simp; omega
          have HF : Hid (Lib.decDigits n.natAbs = Lib.decDigits (a / 10) ++ UInt8.ofNat (48 + a % 10) :: acc) := by
            show _ = _
            rw [HD.out, dec_big h10]; simp
          have hsz : (X ++ Y).size ≤ 21 := by
            have h1 := Lib.itoa_length_le n hn1 hn2
            have h2 : (Lib.decDigits n.natAbs).length ≤ 21 := by
              rw [HI.out] at h1
              by_cases hneg : n < 0
              · rw [if_pos hneg, List.length_cons] at h1; omega
              · rw [if_neg hneg] at h1; exact h1
            rw [HF.out, List.length_append] at h2
            have h3 : (X ++ Y).size = (UInt8.ofNat (48 + a % 10) :: acc).length := by rw [HS.out]; rfl
            omega
          go_wp2
          go_roundw
          case rel => exact ⟨a / 10, _, _, hsz, by omega, .inr (by go_num), by simp [intOf]; omega, rfl, HS, HF, HB2⟩
          case measure => simp [intOf]; omega

      · have h1 : 0 < (a : Int) % 10 := by omega
        clear h0
        by_cases h10 : a < 10
        · have hz : (a : Int) / 10 = 0 := by omega
          have HF : Hid (Lib.decDigits n.natAbs = UInt8.ofNat (48 + a % 10) :: acc) := by
            show _ = _
            rw [HD.out, dec_small h10, show a % 10 = a from by omega]; rfl
          by_cases hneg : n < 0
          · have HR : Hid ((⟨#[45]⟩ : ByteArray) ++ (X ++ Y) = ⟨(Lib.itoa n).toArray⟩) := by
              show _ = _
              rw [HI.out, if_pos hneg, HS.out, HF.out]
              exact bytes_ext (by rw [ByteArray.data_append, Array.toList_append]; rfl)
            have hsz : (X ++ Y).size ≤ 22 := by rw [ByteArray.size_append]; omega
            go_wp2
            go_ret
            exact ⟨by rw [← HR.out]; rfl, HB2.out⟩
          · have HR : Hid (X ++ Y = ⟨(Lib.itoa n).toArray⟩) := by
              show _ = _
              rw [HI.out, if_neg hneg, HS.out, HF.out]
            go_wp2
            go_ret
            exact ⟨by rw [← HR.out]; rfl, HB2.out⟩
        · have hz : ((a : Int) / 10 == 0) = false := by simp; omega
          have HF : Hid (Lib.decDigits n.natAbs = Lib.decDigits (a / 10) ++ UInt8.ofNat (48 + a % 10) :: acc) := by
            show _ = _
            rw [HD.out, dec_big h10]; simp
          have hsz : (X ++ Y).size ≤ 21 := by
            have h1 := Lib.itoa_length_le n hn1 hn2
            have h2 : (Lib.decDigits n.natAbs).length ≤ 21 := by
              rw [HI.out] at h1
              by_cases hneg : n < 0
              · rw [if_pos hneg, List.length_cons] at h1; omega
              · rw [if_neg hneg] at h1; exact h1
            rw [HF.out, List.length_append] at h2
            have h3 : (X ++ Y).size = (UInt8.ofNat (48 + a % 10) :: acc).length := by rw [HS.out]; rfl
            omega
          go_wp2
          go_roundw
          case rel => exact ⟨a / 10, _, _, hsz, by omega, .inr (by go_num), by simp [intOf]; omega, rfl, HS, HF, HB2⟩
          case measure => simp [intOf]; omega

set_option maxHeartbeats 2000000 in
set_option maxRecDepth 100000 in
theorem rvalid_int (n : Int) (w : World) :
    Calls Tryd.prog 17 #[.agg #[.int .i64 1, .int .i64 n, .string ⟨#[]⟩]] w fun e w' => e = .returned (.bool true) ∧ Below w.heap.size w w' := by
  go_enter Tryd.func17, Tryd.ntmps17
  go_wp2
  go_ret
  exact ⟨rfl, (Below.refl _ _).alloc (Nat.le_refl _) _⟩

set_option maxHeartbeats 2000000 in
set_option maxRecDepth 100000 in
theorem rtext_int (n : Int) (w : World) (hn : I64 n) :
    Calls Tryd.prog 12 #[.agg #[.int .i64 1, .int .i64 n, .string ⟨#[]⟩]] w fun e w' => e = .returned (.string ⟨(Lib.itoa n).toArray⟩) ∧ Below w.heap.size w w' := by
  have HV := hide (fun w => rvalid_int n w)
  have HD := hide (fun w => decimal_any n w hn)
  have HX := hide (fun w' (hb : Below (w.alloc (.cells #[.int .i64 1, .int .i64 n, .string ⟨#[]⟩] 39)).heap.size (w.alloc (.cells #[.int .i64 1, .int .i64 n, .string ⟨#[]⟩] 39)) w') => conAt_kept (conAt_new w ⟨1, n, ⟨#[]⟩⟩ 39) hb)
  clear hn
  go_enter Tryd.func12, Tryd.ntmps12
  go_wp2_with (first | (go_at_call 17; refine (HV.out _).mono ?_; rintro e w' ⟨rfl, hb1⟩; obtain ⟨x0, x1, x2⟩ := HX.out _ hb1) | (go_at_call 18; refine (HD.out _).mono ?_; rintro e w' ⟨rfl, hb2⟩))
  go_ret
  exact ⟨rfl, ((Below.refl _ _).alloc (Nat.le_refl _) _).trans ((hb1.trans (hb2.mono hb1.size)).mono (by simp))⟩

set_option maxHeartbeats 2000000 in
set_option maxRecDepth 100000 in
theorem dec18 (n : Int) (w : World) (hn : I64 n) :
    Calls Tryd.prog 8 #[.int .i64 n] w fun e w' => e = .returned (.string ⟨(Lib.itoa n).toArray⟩) ∧ Below w.heap.size w w' := by
  have HT := hide (fun w => rtext_int n w hn)
  have hn' := hn
  unfold I64 at hn'
  clear hn
  go_enter Tryd.func8, Tryd.ntmps8
  go_wp2_with (go_at_call 12; refine (HT.out _).mono ?_; rintro e w' ⟨rfl, hb1⟩)
  go_ret
  exact ⟨rfl, hb1⟩
end Go.Proofs.YtfopnijgkhpoiaaDoor
