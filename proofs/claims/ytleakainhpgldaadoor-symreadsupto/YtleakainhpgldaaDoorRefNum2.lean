/- The document's number: the walk. -/
import Derived.Test.YtleakainhpgldaaDoorProg
import Derived.Test.YtleakainhpgldaaDoorRefNum
import Derived.Test.YtleakainhpgldaaDoorRefValid
import Derived.Test.YtleakainhpgldaaDoorLooseAny
namespace Go.Proofs.YtleakainhpgldaaDoor
set_option linter.unusedSimpArgs false
set_option linter.unusedVariables false
open Go.RowKit

theorem wrap64_i64 (x : Int) : I64 (wrap64 x) := by unfold I64 wrap64; omega

set_option maxHeartbeats 4000000 in
set_option maxRecDepth 100000 in
theorem number_any (s : ByteArray) (w : World) (hs : s.size ≤ 2000000) :
    Calls Tryd.prog 20 #[.string s] w fun e w' => (∃ r, e = .returned (.int .i64 r) ∧ I64 r ∧ ∀ n, I64 n → s.data.toList = Lib.itoa n → r = n) ∧ w' = w := by
  go_enter Tryd.func20, Tryd.ntmps20
  go_wp2
  go_loopw [3, 4] (fun nv i wr => ∃ (k : Nat) (v : Int), k ≤ s.size ∧ nv = .int .i64 v ∧ i = .int .i64 k ∧ Hid (I64 v) ∧ Hid (NInv s k v) ∧ wr = w) (fun _ i _ => s.size - (intOf i).toNat)
  case atStart => exact ⟨0, 0, Nat.zero_le _, rfl, rfl, i64_0, NInv.start, rfl⟩
  case round =>
    obtain ⟨k, v, hk, rfl, rfl, HV, HI, rfl⟩ := hrel
    by_cases hlt : k < s.size
    · have hi : (k : Int) < (s.size : Int) := by omega
      have hxl : s[k].toNat < 256 := (s[k]).toNat_lt
      by_cases hd : 48 ≤ s[k].toNat ∧ s[k].toNat ≤ 57
      · have HI2 := hide (HI.out.digit hlt hd)
        obtain ⟨x, hx⟩ : ∃ x : Int, (s[k].toNat : Int) = x := ⟨_, rfl⟩
        rw [hx] at HI2
        have b1 : 48 ≤ x := by omega
        have b2 : x ≤ 57 := by omega
        have HD := hide (fun W => rdig x W (by omega))
        rw [show digN x = true from by simp [digN]; omega] at HD
        clear hd hxl
        go_wp2_with (go_at_call 30; refine (HD.out _).mono ?_; rintro e w' ⟨rfl, hw'⟩; have hw' := hw'.symm; subst hw')
        go_roundw
        case rel => exact ⟨k + 1, _, by omega, rfl, by go_num, wrap64_i64 _, HI2.out, trivial⟩
        case measure => simp [intOf]; omega
      · have HI2 := hide (HI.out.other hlt hd)
        obtain ⟨x, hx⟩ : ∃ x : Int, (s[k].toNat : Int) = x := ⟨_, rfl⟩
        have HD := hide (fun W => rdig x W (by omega))
        rw [show digN x = false from by simp [digN]; omega] at HD
        clear hd hxl
        go_wp2_with (go_at_call 30; refine (HD.out _).mono ?_; rintro e w' ⟨rfl, hw'⟩; have hw' := hw'.symm; subst hw')
        go_roundw
        case rel => exact ⟨k + 1, v, by omega, rfl, by go_num, HV.out, HI2.out, trivial⟩
        case measure => simp [intOf]; omega
    · have hi : ¬ (k : Int) < (s.size : Int) := by omega
      have HE := hide (HI.out.done (by omega))
      clear HI
      by_cases hz : s.size = 0
      · have hz1 : ¬ (0 : Int) < (s.size : Int) := by omega
        have HR : Hid (∀ n, I64 n → s.data.toList = Lib.itoa n → wrap64 (-v) = n) := fun n hn e => by
          exfalso
          obtain ⟨b, r, eb, _⟩ := itoa_head n
          have hl : s.data.toList.length = s.size := rfl
          rw [e, eb] at hl
          simp at hl
          omega
        clear hz
        go_wp2
        go_ret
        exact ⟨⟨_, rfl, wrap64_i64 _, HR.out⟩, rfl⟩
      · have hz1 : (0 : Int) < (s.size : Int) := by omega
        have hh : ∀ n, s.data.toList = Lib.itoa n → (n < 0 ↔ s[0].toNat = 45) := fun n e => by
          have hsk : s.data.toList[0]? = some s[0] := by rw [List.getElem?_eq_getElem (by simp; omega)]; rfl
          rw [e] at hsk
          by_cases h0 : n < 0
          · unfold Lib.itoa at hsk
            rw [if_pos h0] at hsk
            simp at hsk
            exact ⟨fun _ => by rw [← hsk]; rfl, fun _ => h0⟩
          · unfold Lib.itoa at hsk
            rw [if_neg h0] at hsk
            obtain ⟨b, r, eb, hb⟩ := num_head n.toNat
            rw [eb] at hsk
            simp at hsk
            rw [← hsk]
            exact ⟨fun h => absurd h h0, fun h => by omega⟩
        by_cases hm : s[0].toNat = 45
        · have HR : Hid (∀ n, I64 n → s.data.toList = Lib.itoa n → v = n) := fun n hn e => by
            have h1 := HE.out n hn e
            have h2 := (hh n e).2 hm
            omega
          have hq : (s[0].toNat : Int) = 45 := by omega
          have HV2 := hide HV.out
          clear hh hm hz
          go_wp2
          go_ret
          exact ⟨⟨_, rfl, HV2.out, HR.out⟩, rfl⟩
        · have HR : Hid (∀ n, I64 n → s.data.toList = Lib.itoa n → wrap64 (-v) = n) := fun n hn e => by
            have h1 := HE.out n hn e
            have h2 : ¬ n < 0 := fun h => hm ((hh n e).1 h)
            rw [h1, show -(-(n.natAbs : Int)) = n by omega]
            exact wrap64_id hn
          obtain ⟨y, hy⟩ : ∃ y : Int, (s[0].toNat : Int) = y := ⟨_, rfl⟩
          have y45 : (y == 45) = false := by simp; omega
          clear hh hm hz
          go_wp2
          go_ret
          exact ⟨⟨_, rfl, wrap64_i64 _, HR.out⟩, rfl⟩
end Go.Proofs.YtleakainhpgldaaDoor
