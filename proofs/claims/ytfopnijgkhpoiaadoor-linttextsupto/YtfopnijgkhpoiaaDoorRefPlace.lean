/- The document's Place, at every text and every offset: line and column by one walk over the bytes ahead. -/
import Derived.Test.YtfopnijgkhpoiaaDoorProg
import Derived.Test.YtfopnijgkhpoiaaDoorPlacePure
namespace Go.Proofs.YtfopnijgkhpoiaaDoor
set_option linter.unusedSimpArgs false
set_option linter.unusedVariables false
open Go.RowKit

set_option maxHeartbeats 400000 in
theorem refPlace_any (s : ByteArray) (off : Int) (w : World) (hs : s.size ≤ 140737488351232) (ho : -9223372036854775808 ≤ off ∧ off ≤ 9223372036854775807) :
    Calls Tryd.prog 7 #[.string s, .int .i64 off] w fun e w' => e = .returned (.tuple #[.int .i64 (placeW s off).1, .int .i64 (placeW s off).2]) ∧ w' = w := by
  by_cases hl : (65536 : Int) < (s.size : Int)
  · rw [show placeW s off = (0, 0) from if_neg (by omega)]
    go_enter Tryd.func7, Tryd.ntmps7
    go_wp2
    go_ret2
    exact ⟨rfl, rfl⟩
  by_cases hn : off < 0
  · rw [show placeW s off = (0, 0) from if_neg (by omega)]
    go_enter Tryd.func7, Tryd.ntmps7
    go_wp2
    go_ret2
    exact ⟨rfl, rfl⟩
  by_cases hg : (s.size : Int) < off
  · rw [show placeW s off = (0, 0) from if_neg (by omega)]
    go_enter Tryd.func7, Tryd.ntmps7
    go_wp2
    go_ret2
    exact ⟨rfl, rfl⟩
  obtain ⟨o, rfl⟩ : ∃ o : Nat, off = o := ⟨off.toNat, by omega⟩
  have hR : Hid (placeW s (o : Int) = (((placeL (s.data.toList.take o)).1 : Int), ((placeL (s.data.toList.take o)).2 : Int))) := by
    show placeW s (o : Int) = _
    exact if_pos ⟨by omega, by omega, by omega⟩
  rw [hR.out]
  clear ho
  go_enter Tryd.func7, Tryd.ntmps7
  go_wp2
  go_loop [6, 7, 8] (fun a b i => ∃ k : Nat, k ≤ o ∧ i = .int .i64 k ∧ a = .int .i64 ((placeL (s.data.toList.take k)).1 : Nat) ∧ b = .int .i64 ((placeL (s.data.toList.take k)).2 : Nat)) (fun _ _ i => o - (intOf i).toNat)
  case atStart => exact ⟨0, Nat.zero_le _, rfl, rfl, rfl⟩
  case round =>
    obtain ⟨k, hk, rfl, rfl, rfl⟩ := hrel
    by_cases hlt : k < o
    · have hi : (k : Int) < (o : Int) := by omega
      have hks : k < s.size := by omega
      have hks' : (k : Int) < (s.size : Int) := by omega
      obtain ⟨b1, b2, b3, b4⟩ := placeL_le s k (by omega)
      have hq := hide (placeL_snoc (s.data.toList.take k) s[k])
      have hq2 := hide (takeB_snoc s k hks)
      generalize hP : placeL (s.data.toList.take k) = P at *
      obtain ⟨x, y⟩ := P
      replace hP := hide hP
      simp only at b1 b2 b3 b4
      by_cases hb : (s[k].toNat : Int) = 10
      · have e : ((s[k].toNat : Int) == 10) = true := by simpa using hb
        have hq3 : Hid (placeL (s.data.toList.take (k + 1)) = (x + 1, 1)) := by
          show _ = _
          rw [hq2.out, hq.out]; exact if_pos (by omega)
        go_wp2
        go_round
        case rel => exact ⟨k + 1, by omega, by go_num, by rw [hq3.out]; go_num, by rw [hq3.out]; rfl⟩
        case measure => simp [intOf]; omega
      · have e : ((s[k].toNat : Int) == 10) = false := by simpa using hb
        have hq3 : Hid (placeL (s.data.toList.take (k + 1)) = (x, y + 1)) := by
          show _ = _
          rw [hq2.out, hq.out]; exact if_neg (by omega)
        go_wp2
        go_round
        case rel => exact ⟨k + 1, by omega, by go_num, by rw [hq3.out], by rw [hq3.out]; go_num⟩
        case measure => simp [intOf]; omega
    · have hi : ¬ (k : Int) < (o : Int) := by omega
      obtain rfl : k = o := by omega
      go_wp2
      go_ret2
      exact ⟨rfl, rfl⟩

end Go.Proofs.YtfopnijgkhpoiaaDoor
