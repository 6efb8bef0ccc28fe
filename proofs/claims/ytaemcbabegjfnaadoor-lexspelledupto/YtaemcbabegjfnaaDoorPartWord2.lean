/- LexSpelled's own wordOK. -/
import Derived.Test.YtaemcbabegjfnaaDoorProg
import Derived.Test.YtaemcbabegjfnaaDoorPartWord
namespace Go.Proofs.YtaemcbabegjfnaaDoor
set_option linter.unusedSimpArgs false
set_option linter.unusedVariables false
open Go.RowKit

theorem wb_empty {s : ByteArray} (name : Bool) (h : s.data.toList = []) : wordB s.data.toList name = false := by rw [h]; rfl
theorem wb_long {s : ByteArray} (name : Bool) (h : 64 < s.size) : wordB s.data.toList name = false := by
  have hl : s.data.toList.length = s.size := rfl
  cases e : s.data.toList with
  | nil => rfl
  | cons b r =>
    rw [e] at hl
    unfold wordB
    simp only
    rw [decide_eq_false (by omega)]
    rfl
theorem wb_not {s : ByteArray} (name : Bool) (h : s.data.toList = [110, 111, 116]) : wordB s.data.toList name = false := by
  rw [h]
  unfold wordB
  simp
theorem wb_first {s : ByteArray} (name : Bool) (h0 : 0 < s.size) (h : (if name then bLow ((s[0].toNat : Nat) : Int) else (bUp ((s[0].toNat : Nat) : Int) || ((s[0].toNat : Nat) : Int) == 95)) = false) : wordB s.data.toList name = false := by
  obtain ⟨⟨l⟩⟩ := s
  cases l with
  | nil => exact absurd h0 (by decide)
  | cons b r =>
    have hb : (⟨⟨b :: r⟩⟩ : ByteArray)[0] = b := rfl
    rw [hb] at h
    unfold wordB
    simp only
    rw [h]
    simp
theorem wb_bad {s : ByteArray} (name : Bool) {j : Nat} (hj : j < s.size) (h : bWord ((s[j].toNat : Nat) : Int) = false) : wordB s.data.toList name = false := by
  have hm : s[j] ∈ s.data.toList := by
    have : s.data.toList[j]? = some s[j] := by rw [List.getElem?_eq_getElem hj]; rfl
    exact List.mem_of_getElem? this
  cases e : s.data.toList with
  | nil => rfl
  | cons b r =>
    rw [e] at hm
    unfold wordB
    simp only
    have : (b :: r).all (fun c => bWord (c.toNat : Int)) = false := by
      rw [List.all_eq_false]
      exact ⟨s[j], hm, by simpa using h⟩
    rw [this]
    simp
theorem wb_good {s : ByteArray} (name : Bool) (h0 : 0 < s.size) (h64 : ¬ 64 < s.size) (hn : s.data.toList ≠ [110, 111, 116]) (h : (if name then bLow ((s[0].toNat : Nat) : Int) else (bUp ((s[0].toNat : Nat) : Int) || ((s[0].toNat : Nat) : Int) == 95)) = true) (ha : ∀ j (hj : j < s.size), bWord ((s[j].toNat : Nat) : Int) = true) : wordB s.data.toList name = true := by
  obtain ⟨⟨l⟩⟩ := s
  cases l with
  | nil => exact absurd h0 (by decide)
  | cons b r =>
    have hb : (⟨⟨b :: r⟩⟩ : ByteArray)[0] = b := rfl
    rw [hb] at h
    unfold wordB
    simp only [Bool.and_eq_true, decide_eq_true_eq]
    refine ⟨by have h1 : ¬ 64 < (b :: r).length := h64; omega, hn, h, ?_⟩
    rw [List.all_eq_true]
    intro c hc
    obtain ⟨i, hi⟩ := List.getElem?_of_mem hc
    have hlt := (List.getElem?_eq_some_iff.1 hi).1
    have := ha i hlt
    have e : (⟨⟨b :: r⟩⟩ : ByteArray)[i] = c := (List.getElem?_eq_some_iff.1 hi).2
    rw [e] at this
    exact this
def firstB (s : ByteArray) (name : Bool) : Bool := if h : 0 < s.size then (if name then bLow ((s[0].toNat : Nat) : Int) else (bUp ((s[0].toNat : Nat) : Int) || ((s[0].toNat : Nat) : Int) == 95)) else false

set_option maxRecDepth 100000 in
set_option maxHeartbeats 8000000 in
theorem wordOK_any (s : ByteArray) (name : Bool) (w : World) (hs : s.size ≤ 1073741824) : Calls Tryd.prog 9 #[.string s, .bool name] w fun e w' => e = .returned (.bool (wordB s.data.toList name)) ∧ w' = w := by
  obtain ⟨B, hB⟩ : ∃ B, B = wordB s.data.toList name := ⟨_, rfl⟩
  rw [← hB]
  have HB := hide hB
  clear hB
  by_cases h0 : s.data.toList = []
  · have HF : Hid (B = false) := by show _ = _; rw [HB.out, wb_empty name h0]
    have e0 : (s.toList == []) = true := by rw [ByteArray.toList_eq]; rw [h0]; rfl
    clear h0
    go_enter Tryd.func9, Tryd.ntmps9
    go_wp2
    go_ret
    exact ⟨by rw [HF.out]; rfl, rfl⟩
  have e0 : (s.toList == []) = false := by rw [ByteArray.toList_eq]; simpa using h0
  by_cases h1 : 64 < s.size
  · have HF : Hid (B = false) := by show _ = _; rw [HB.out, wb_long name h1]
    have e1 : (64 : Int) < (s.size : Int) := by omega
    clear h0 h1
    go_enter Tryd.func9, Tryd.ntmps9
    go_wp2
    go_ret
    exact ⟨by rw [HF.out]; rfl, rfl⟩
  have e1 : ¬ (64 : Int) < (s.size : Int) := by omega
  by_cases h2 : s.data.toList = [110, 111, 116]
  · have HF : Hid (B = false) := by show _ = _; rw [HB.out, wb_not name h2]
    have e2 : (s.toList == [110, 111, 116]) = true := by rw [ByteArray.toList_eq, h2]; rfl
    clear h0 h1 h2
    go_enter Tryd.func9, Tryd.ntmps9
    go_wp2
    go_ret
    exact ⟨by rw [HF.out]; rfl, rfl⟩
  have e2 : (s.toList == [110, 111, 116]) = false := by rw [ByteArray.toList_eq]; simpa using h2
  have HN := hide h2
  have H1 := hide h1
  have hpos : 0 < s.size := by
    have : s.data.toList.length = s.size := rfl
    have := List.length_pos_iff.2 h0
    omega
  clear h0 h1 h2
  go_enter Tryd.func9, Tryd.ntmps9
  go_wp2
  go_loopw [5] (fun i wl => ∃ j : Nat, j ≤ s.size ∧ i = .int .i64 j ∧ Hid (∀ k (hk : k < s.size), k < j → bWord ((s[k].toNat : Nat) : Int) = true) ∧ Hid (0 < j → firstB s name = true) ∧ wl = w) (fun i _ => s.size - (intOf i).toNat)
  case atStart => exact ⟨0, by omega, rfl, fun k hk h => absurd h (by omega), fun h => absurd h (by omega), rfl⟩
  case round =>
    obtain ⟨j, hj, rfl, HA, HF1, rfl⟩ := hrel
    by_cases hlt : j < s.size
    · have hi : (j : Int) < (s.size : Int) := by omega
      have hi0 : (0 : Int) ≤ (j : Int) := by omega
      have HFst : Hid (j = 0 → firstB s name = (if name then bLow ((s[j].toNat : Nat) : Int) else (bUp ((s[j].toNat : Nat) : Int) || ((s[j].toNat : Nat) : Int) == 95))) := fun e => by
        subst e
        unfold firstB
        rw [dif_pos hlt]
      have HBad : Hid (bWord ((s[j].toNat : Nat) : Int) = false → B = false) := fun h => by rw [HB.out]; exact wb_bad name hlt h
      have HBf : Hid (firstB s name = false → B = false) := fun h => by
        rw [HB.out]
        unfold firstB at h
        rw [dif_pos hpos] at h
        exact wb_first name hpos h
      have hcb := s[j].toNat_lt
      obtain ⟨n, hn⟩ : ∃ n : Int, n = ((s[j].toNat : Nat) : Int) := ⟨_, rfl⟩
      have hnb : 0 ≤ n ∧ n ≤ 255 := by omega
      have HN2 := hide hn
      have HA2 : Hid (bWord n = true → ∀ k (hk : k < s.size), k < j + 1 → bWord ((s[k].toNat : Nat) : Int) = true) := fun h k hk hkj => by
        rcases Nat.lt_or_ge k j with h3 | h3
        · exact HA.out k hk h3
        · obtain rfl : k = j := by omega
          rw [← HN2.out]; exact h
      rw [← hn] at HFst HBad
      have hidx : ((s[j]'hlt).toNat : Int) = n := hn.symm
      clear hcb hn
      have hcls : (0 ≤ n ∧ n ≤ 47) ∨ (48 ≤ n ∧ n ≤ 57) ∨ (58 ≤ n ∧ n ≤ 64) ∨ (65 ≤ n ∧ n ≤ 90) ∨ (91 ≤ n ∧ n ≤ 94) ∨ (95 ≤ n ∧ n ≤ 95) ∨ (96 ≤ n ∧ n ≤ 96) ∨ (97 ≤ n ∧ n ≤ 122) ∨ (123 ≤ n ∧ n ≤ 255) := by omega
      rcases hcls with ⟨q1, q2⟩ | ⟨q1, q2⟩ | ⟨q1, q2⟩ | ⟨q1, q2⟩ | ⟨q1, q2⟩ | ⟨q1, q2⟩ | ⟨q1, q2⟩ | ⟨q1, q2⟩ | ⟨q1, q2⟩
      · clear hnb
        have a97 : ¬ 97 ≤ n := by omega
        have a122 : n ≤ 122 := by omega
        have a65 : ¬ 65 ≤ n := by omega
        have a90 : n ≤ 90 := by omega
        have a48 : n < 48 := by omega
        have a57 : ¬ 57 < n := by omega
        have a95 : (n == 95) = false := by simp; omega
        have hw : bWord n = false := by unfold bWord bLow bUp bDig; simp; omega
        have hlw : bLow n = false := by unfold bLow; simp; omega
        have hup : (bUp n || n == 95) = false := by unfold bUp; simp; omega
        have HW := hide hw
        have HLw := hide hlw
        have HUp := hide hup
        clear hw hlw hup q1 q2
        cases name with
        | false =>
          by_cases hz : j = 0
          · have ez : ((j : Int) == 0) = true := by simp [hz]
            have HZ := hide hz
            clear hz
            have HR := hide (HBf.out (by rw [HFst.out HZ.out]; exact HUp.out))
            go_wp2
            go_ret
            exact ⟨by rw [HR.out]; rfl, rfl⟩
          · have ez : ((j : Int) == 0) = false := by simp [hz]
            have HZ := hide hz
            clear hz
            have HR := hide (HBad.out HW.out)
            go_wp2
            go_ret
            exact ⟨by rw [HR.out]; rfl, rfl⟩
        | true =>
          by_cases hz : j = 0
          · have ez : ((j : Int) == 0) = true := by simp [hz]
            have HZ := hide hz
            clear hz
            have HR := hide (HBf.out (by rw [HFst.out HZ.out]; exact HLw.out))
            go_wp2
            go_ret
            exact ⟨by rw [HR.out]; rfl, rfl⟩
          · have ez : ((j : Int) == 0) = false := by simp [hz]
            have HZ := hide hz
            clear hz
            have HR := hide (HBad.out HW.out)
            go_wp2
            go_ret
            exact ⟨by rw [HR.out]; rfl, rfl⟩
      · clear hnb
        have a97 : ¬ 97 ≤ n := by omega
        have a122 : n ≤ 122 := by omega
        have a65 : ¬ 65 ≤ n := by omega
        have a90 : n ≤ 90 := by omega
        have a48 : ¬ n < 48 := by omega
        have a57 : ¬ 57 < n := by omega
        have a95 : (n == 95) = false := by simp; omega
        have hw : bWord n = true := by unfold bWord bLow bUp bDig; simp; omega
        have hlw : bLow n = false := by unfold bLow; simp; omega
        have hup : (bUp n || n == 95) = false := by unfold bUp; simp; omega
        have HW := hide hw
        have HLw := hide hlw
        have HUp := hide hup
        clear hw hlw hup q1 q2
        cases name with
        | false =>
          by_cases hz : j = 0
          · have ez : ((j : Int) == 0) = true := by simp [hz]
            have HZ := hide hz
            clear hz
            have HR := hide (HBf.out (by rw [HFst.out HZ.out]; exact HUp.out))
            go_wp2
            go_ret
            exact ⟨by rw [HR.out]; rfl, rfl⟩
          · have ez : ((j : Int) == 0) = false := by simp [hz]
            have HZ := hide hz
            clear hz
            have HNx := hide (HA2.out HW.out)
            have HFx : Hid (0 < j + 1 → firstB s false = true) := fun _ => HF1.out (by have := HZ.out; omega)
            go_wp2
            go_roundw
            case rel => exact ⟨j + 1, by omega, by go_num, HNx, HFx, by trivial⟩
            case measure => simp [intOf]; omega
        | true =>
          by_cases hz : j = 0
          · have ez : ((j : Int) == 0) = true := by simp [hz]
            have HZ := hide hz
            clear hz
            have HR := hide (HBf.out (by rw [HFst.out HZ.out]; exact HLw.out))
            go_wp2
            go_ret
            exact ⟨by rw [HR.out]; rfl, rfl⟩
          · have ez : ((j : Int) == 0) = false := by simp [hz]
            have HZ := hide hz
            clear hz
            have HNx := hide (HA2.out HW.out)
            have HFx : Hid (0 < j + 1 → firstB s true = true) := fun _ => HF1.out (by have := HZ.out; omega)
            go_wp2
            go_roundw
            case rel => exact ⟨j + 1, by omega, by go_num, HNx, HFx, by trivial⟩
            case measure => simp [intOf]; omega
      · clear hnb
        have a97 : ¬ 97 ≤ n := by omega
        have a122 : n ≤ 122 := by omega
        have a65 : ¬ 65 ≤ n := by omega
        have a90 : n ≤ 90 := by omega
        have a48 : ¬ n < 48 := by omega
        have a57 : 57 < n := by omega
        have a95 : (n == 95) = false := by simp; omega
        have hw : bWord n = false := by unfold bWord bLow bUp bDig; simp; omega
        have hlw : bLow n = false := by unfold bLow; simp; omega
        have hup : (bUp n || n == 95) = false := by unfold bUp; simp; omega
        have HW := hide hw
        have HLw := hide hlw
        have HUp := hide hup
        clear hw hlw hup q1 q2
        cases name with
        | false =>
          by_cases hz : j = 0
          · have ez : ((j : Int) == 0) = true := by simp [hz]
            have HZ := hide hz
            clear hz
            have HR := hide (HBf.out (by rw [HFst.out HZ.out]; exact HUp.out))
            go_wp2
            go_ret
            exact ⟨by rw [HR.out]; rfl, rfl⟩
          · have ez : ((j : Int) == 0) = false := by simp [hz]
            have HZ := hide hz
            clear hz
            have HR := hide (HBad.out HW.out)
            go_wp2
            go_ret
            exact ⟨by rw [HR.out]; rfl, rfl⟩
        | true =>
          by_cases hz : j = 0
          · have ez : ((j : Int) == 0) = true := by simp [hz]
            have HZ := hide hz
            clear hz
            have HR := hide (HBf.out (by rw [HFst.out HZ.out]; exact HLw.out))
            go_wp2
            go_ret
            exact ⟨by rw [HR.out]; rfl, rfl⟩
          · have ez : ((j : Int) == 0) = false := by simp [hz]
            have HZ := hide hz
            clear hz
            have HR := hide (HBad.out HW.out)
            go_wp2
            go_ret
            exact ⟨by rw [HR.out]; rfl, rfl⟩
      · clear hnb
        have a97 : ¬ 97 ≤ n := by omega
        have a122 : n ≤ 122 := by omega
        have a65 : 65 ≤ n := by omega
        have a90 : n ≤ 90 := by omega
        have a48 : ¬ n < 48 := by omega
        have a57 : 57 < n := by omega
        have a95 : (n == 95) = false := by simp; omega
        have hw : bWord n = true := by unfold bWord bLow bUp bDig; simp; omega
        have hlw : bLow n = false := by unfold bLow; simp; omega
        have hup : (bUp n || n == 95) = true := by unfold bUp; simp; omega
        have HW := hide hw
        have HLw := hide hlw
        have HUp := hide hup
        clear hw hlw hup q1 q2
        cases name with
        | false =>
          by_cases hz : j = 0
          · have ez : ((j : Int) == 0) = true := by simp [hz]
            have HZ := hide hz
            clear hz
            have HNx := hide (HA2.out HW.out)
            have HFx : Hid (0 < j + 1 → firstB s false = true) := fun _ => by rw [HFst.out HZ.out]; exact HUp.out
            go_wp2
            go_roundw
            case rel => exact ⟨j + 1, by omega, by go_num, HNx, HFx, by trivial⟩
            case measure => simp [intOf]; omega
          · have ez : ((j : Int) == 0) = false := by simp [hz]
            have HZ := hide hz
            clear hz
            have HNx := hide (HA2.out HW.out)
            have HFx : Hid (0 < j + 1 → firstB s false = true) := fun _ => HF1.out (by have := HZ.out; omega)
            go_wp2
            go_roundw
            case rel => exact ⟨j + 1, by omega, by go_num, HNx, HFx, by trivial⟩
            case measure => simp [intOf]; omega
        | true =>
          by_cases hz : j = 0
          · have ez : ((j : Int) == 0) = true := by simp [hz]
            have HZ := hide hz
            clear hz
            have HR := hide (HBf.out (by rw [HFst.out HZ.out]; exact HLw.out))
            go_wp2
            go_ret
            exact ⟨by rw [HR.out]; rfl, rfl⟩
          · have ez : ((j : Int) == 0) = false := by simp [hz]
            have HZ := hide hz
            clear hz
            have HNx := hide (HA2.out HW.out)
            have HFx : Hid (0 < j + 1 → firstB s true = true) := fun _ => HF1.out (by have := HZ.out; omega)
            go_wp2
            go_roundw
            case rel => exact ⟨j + 1, by omega, by go_num, HNx, HFx, by trivial⟩
            case measure => simp [intOf]; omega
      · clear hnb
        have a97 : ¬ 97 ≤ n := by omega
        have a122 : n ≤ 122 := by omega
        have a65 : 65 ≤ n := by omega
        have a90 : ¬ n ≤ 90 := by omega
        have a48 : ¬ n < 48 := by omega
        have a57 : 57 < n := by omega
        have a95 : (n == 95) = false := by simp; omega
        have hw : bWord n = false := by unfold bWord bLow bUp bDig; simp; omega
        have hlw : bLow n = false := by unfold bLow; simp; omega
        have hup : (bUp n || n == 95) = false := by unfold bUp; simp; omega
        have HW := hide hw
        have HLw := hide hlw
        have HUp := hide hup
        clear hw hlw hup q1 q2
        cases name with
        | false =>
          by_cases hz : j = 0
          · have ez : ((j : Int) == 0) = true := by simp [hz]
            have HZ := hide hz
            clear hz
            have HR := hide (HBf.out (by rw [HFst.out HZ.out]; exact HUp.out))
            go_wp2
            go_ret
            exact ⟨by rw [HR.out]; rfl, rfl⟩
          · have ez : ((j : Int) == 0) = false := by simp [hz]
            have HZ := hide hz
            clear hz
            have HR := hide (HBad.out HW.out)
            go_wp2
            go_ret
            exact ⟨by rw [HR.out]; rfl, rfl⟩
        | true =>
          by_cases hz : j = 0
          · have ez : ((j : Int) == 0) = true := by simp [hz]
            have HZ := hide hz
            clear hz
            have HR := hide (HBf.out (by rw [HFst.out HZ.out]; exact HLw.out))
            go_wp2
            go_ret
            exact ⟨by rw [HR.out]; rfl, rfl⟩
          · have ez : ((j : Int) == 0) = false := by simp [hz]
            have HZ := hide hz
            clear hz
            have HR := hide (HBad.out HW.out)
            go_wp2
            go_ret
            exact ⟨by rw [HR.out]; rfl, rfl⟩
      · clear hnb
        have a97 : ¬ 97 ≤ n := by omega
        have a122 : n ≤ 122 := by omega
        have a65 : 65 ≤ n := by omega
        have a90 : ¬ n ≤ 90 := by omega
        have a48 : ¬ n < 48 := by omega
        have a57 : 57 < n := by omega
        have a95 : (n == 95) = true := by simp; omega
        have hw : bWord n = true := by unfold bWord bLow bUp bDig; simp; omega
        have hlw : bLow n = false := by unfold bLow; simp; omega
        have hup : (bUp n || n == 95) = true := by unfold bUp; simp; omega
        have HW := hide hw
        have HLw := hide hlw
        have HUp := hide hup
        clear hw hlw hup q1 q2
        cases name with
        | false =>
          by_cases hz : j = 0
          · have ez : ((j : Int) == 0) = true := by simp [hz]
            have HZ := hide hz
            clear hz
            have HNx := hide (HA2.out HW.out)
            have HFx : Hid (0 < j + 1 → firstB s false = true) := fun _ => by rw [HFst.out HZ.out]; exact HUp.out
            go_wp2
            go_roundw
            case rel => exact ⟨j + 1, by omega, by go_num, HNx, HFx, by trivial⟩
            case measure => simp [intOf]; omega
          · have ez : ((j : Int) == 0) = false := by simp [hz]
            have HZ := hide hz
            clear hz
            have HNx := hide (HA2.out HW.out)
            have HFx : Hid (0 < j + 1 → firstB s false = true) := fun _ => HF1.out (by have := HZ.out; omega)
            go_wp2
            go_roundw
            case rel => exact ⟨j + 1, by omega, by go_num, HNx, HFx, by trivial⟩
            case measure => simp [intOf]; omega
        | true =>
          by_cases hz : j = 0
          · have ez : ((j : Int) == 0) = true := by simp [hz]
            have HZ := hide hz
            clear hz
            have HR := hide (HBf.out (by rw [HFst.out HZ.out]; exact HLw.out))
            go_wp2
            go_ret
            exact ⟨by rw [HR.out]; rfl, rfl⟩
          · have ez : ((j : Int) == 0) = false := by simp [hz]
            have HZ := hide hz
            clear hz
            have HNx := hide (HA2.out HW.out)
            have HFx : Hid (0 < j + 1 → firstB s true = true) := fun _ => HF1.out (by have := HZ.out; omega)
            go_wp2
            go_roundw
            case rel => exact ⟨j + 1, by omega, by go_num, HNx, HFx, by trivial⟩
            case measure => simp [intOf]; omega
      · clear hnb
        have a97 : ¬ 97 ≤ n := by omega
        have a122 : n ≤ 122 := by omega
        have a65 : 65 ≤ n := by omega
        have a90 : ¬ n ≤ 90 := by omega
        have a48 : ¬ n < 48 := by omega
        have a57 : 57 < n := by omega
        have a95 : (n == 95) = false := by simp; omega
        have hw : bWord n = false := by unfold bWord bLow bUp bDig; simp; omega
        have hlw : bLow n = false := by unfold bLow; simp; omega
        have hup : (bUp n || n == 95) = false := by unfold bUp; simp; omega
        have HW := hide hw
        have HLw := hide hlw
        have HUp := hide hup
        clear hw hlw hup q1 q2
        cases name with
        | false =>
          by_cases hz : j = 0
          · have ez : ((j : Int) == 0) = true := by simp [hz]
            have HZ := hide hz
            clear hz
            have HR := hide (HBf.out (by rw [HFst.out HZ.out]; exact HUp.out))
            go_wp2
            go_ret
            exact ⟨by rw [HR.out]; rfl, rfl⟩
          · have ez : ((j : Int) == 0) = false := by simp [hz]
            have HZ := hide hz
            clear hz
            have HR := hide (HBad.out HW.out)
            go_wp2
            go_ret
            exact ⟨by rw [HR.out]; rfl, rfl⟩
        | true =>
          by_cases hz : j = 0
          · have ez : ((j : Int) == 0) = true := by simp [hz]
            have HZ := hide hz
            clear hz
            have HR := hide (HBf.out (by rw [HFst.out HZ.out]; exact HLw.out))
            go_wp2
            go_ret
            exact ⟨by rw [HR.out]; rfl, rfl⟩
          · have ez : ((j : Int) == 0) = false := by simp [hz]
            have HZ := hide hz
            clear hz
            have HR := hide (HBad.out HW.out)
            go_wp2
            go_ret
            exact ⟨by rw [HR.out]; rfl, rfl⟩
      · clear hnb
        have a97 : 97 ≤ n := by omega
        have a122 : n ≤ 122 := by omega
        have a65 : 65 ≤ n := by omega
        have a90 : ¬ n ≤ 90 := by omega
        have a48 : ¬ n < 48 := by omega
        have a57 : 57 < n := by omega
        have a95 : (n == 95) = false := by simp; omega
        have hw : bWord n = true := by unfold bWord bLow bUp bDig; simp; omega
        have hlw : bLow n = true := by unfold bLow; simp; omega
        have hup : (bUp n || n == 95) = false := by unfold bUp; simp; omega
        have HW := hide hw
        have HLw := hide hlw
        have HUp := hide hup
        clear hw hlw hup q1 q2
        cases name with
        | false =>
          by_cases hz : j = 0
          · have ez : ((j : Int) == 0) = true := by simp [hz]
            have HZ := hide hz
            clear hz
            have HR := hide (HBf.out (by rw [HFst.out HZ.out]; exact HUp.out))
            go_wp2
            go_ret
            exact ⟨by rw [HR.out]; rfl, rfl⟩
          · have ez : ((j : Int) == 0) = false := by simp [hz]
            have HZ := hide hz
            clear hz
            have HNx := hide (HA2.out HW.out)
            have HFx : Hid (0 < j + 1 → firstB s false = true) := fun _ => HF1.out (by have := HZ.out; omega)
            go_wp2
            go_roundw
            case rel => exact ⟨j + 1, by omega, by go_num, HNx, HFx, by trivial⟩
            case measure => simp [intOf]; omega
        | true =>
          by_cases hz : j = 0
          · have ez : ((j : Int) == 0) = true := by simp [hz]
            have HZ := hide hz
            clear hz
            have HNx := hide (HA2.out HW.out)
            have HFx : Hid (0 < j + 1 → firstB s true = true) := fun _ => by rw [HFst.out HZ.out]; exact HLw.out
            go_wp2
            go_roundw
            case rel => exact ⟨j + 1, by omega, by go_num, HNx, HFx, by trivial⟩
            case measure => simp [intOf]; omega
          · have ez : ((j : Int) == 0) = false := by simp [hz]
            have HZ := hide hz
            clear hz
            have HNx := hide (HA2.out HW.out)
            have HFx : Hid (0 < j + 1 → firstB s true = true) := fun _ => HF1.out (by have := HZ.out; omega)
            go_wp2
            go_roundw
            case rel => exact ⟨j + 1, by omega, by go_num, HNx, HFx, by trivial⟩
            case measure => simp [intOf]; omega
      · clear hnb
        have a97 : 97 ≤ n := by omega
        have a122 : ¬ n ≤ 122 := by omega
        have a65 : 65 ≤ n := by omega
        have a90 : ¬ n ≤ 90 := by omega
        have a48 : ¬ n < 48 := by omega
        have a57 : 57 < n := by omega
        have a95 : (n == 95) = false := by simp; omega
        have hw : bWord n = false := by unfold bWord bLow bUp bDig; simp; omega
        have hlw : bLow n = false := by unfold bLow; simp; omega
        have hup : (bUp n || n == 95) = false := by unfold bUp; simp; omega
        have HW := hide hw
        have HLw := hide hlw
        have HUp := hide hup
        clear hw hlw hup q1 q2
        cases name with
        | false =>
          by_cases hz : j = 0
          · have ez : ((j : Int) == 0) = true := by simp [hz]
            have HZ := hide hz
            clear hz
            have HR := hide (HBf.out (by rw [HFst.out HZ.out]; exact HUp.out))
            go_wp2
            go_ret
            exact ⟨by rw [HR.out]; rfl, rfl⟩
          · have ez : ((j : Int) == 0) = false := by simp [hz]
            have HZ := hide hz
            clear hz
            have HR := hide (HBad.out HW.out)
            go_wp2
            go_ret
            exact ⟨by rw [HR.out]; rfl, rfl⟩
        | true =>
          by_cases hz : j = 0
          · have ez : ((j : Int) == 0) = true := by simp [hz]
            have HZ := hide hz
            clear hz
            have HR := hide (HBf.out (by rw [HFst.out HZ.out]; exact HLw.out))
            go_wp2
            go_ret
            exact ⟨by rw [HR.out]; rfl, rfl⟩
          · have ez : ((j : Int) == 0) = false := by simp [hz]
            have HZ := hide hz
            clear hz
            have HR := hide (HBad.out HW.out)
            go_wp2
            go_ret
            exact ⟨by rw [HR.out]; rfl, rfl⟩
    · obtain rfl : j = s.size := by omega
      have hi : ¬ ((s.size : Nat) : Int) < (s.size : Int) := by omega
      have HT : Hid (B = true) := by
        show _ = _
        rw [HB.out]
        have h1 := HF1.out hpos
        unfold firstB at h1
        rw [dif_pos hpos] at h1
        exact wb_good name hpos H1.out HN.out h1 fun k hk => HA.out k hk hk
      go_wp2
      go_ret
      exact ⟨by rw [HT.out]; rfl, rfl⟩
end Go.Proofs.YtaemcbabegjfnaaDoor
