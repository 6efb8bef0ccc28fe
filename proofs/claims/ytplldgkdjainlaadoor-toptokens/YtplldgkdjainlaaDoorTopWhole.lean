/- What whole of edicttop answers. -/
import Derived.Test.YtplldgkdjainlaaDoorProg
import Derived.Test.YtplldgkdjainlaaDoorNumPure
import Derived.Deep.LoopGhost
namespace Go.Proofs.YtplldgkdjainlaaDoor
set_option linter.unusedSimpArgs false
set_option linter.unusedVariables false
open Go.RowKit

/-- Digits with a sign that int64 holds, and their value. -/
def wholeOk (s : ByteArray) : Bool := match Lib.parseIntB 64 s.data.toList with | .ok _ => true | _ => false
def wholeV (s : ByteArray) : Int := match Lib.parseIntB 64 s.data.toList with | .ok v => v | _ => 0
def WholeAns (s : ByteArray) (e : Ending) : Prop := ∃ v, e = .returned (.tuple #[.int .i64 v, .bool (wholeOk s)]) ∧ (wholeOk s = true → v = wholeV s)
theorem whole_yes {s : ByteArray} {v : Int} (h : Lib.parseIntB 64 s.data.toList = .ok v) : WholeAns s (.returned (.tuple #[.int .i64 v, .bool true])) := by
  have e1 : wholeOk s = true := by unfold wholeOk; rw [h]
  exact ⟨v, by rw [e1], fun _ => by unfold wholeV; rw [h]⟩
theorem whole_no {s : ByteArray} (v : Int) (h : ∀ v, Lib.parseIntB 64 s.data.toList ≠ .ok v) : WholeAns s (.returned (.tuple #[.int .i64 v, .bool false])) := by
  have e1 : wholeOk s = false := by
    unfold wholeOk
    split
    · next u hu => exact absurd hu (h u)
    · rfl
  exact ⟨v, by rw [e1], fun h => by rw [e1] at h; cases h⟩

theorem neg_val (a : Nat) (h : a ≤ 9223372036854775808) : wrap64 (wrap64 (-wrap64 (IntKind.u64.wrap ((a : Int) - 1))) - 1) = -(a : Int) := by
  rw [IntKind.wrap_u64]
  unfold wrap64
  omega
theorem tt_at (s : ByteArray) (i : Nat) (h : i < s.size) : s.data.toList[i]? = some s[i] := by
  rw [Array.getElem?_toList]
  exact Array.getElem?_eq_getElem h
theorem numA_next (s : ByteArray) (k : Nat) (h : k < s.size) : numA 0 (s.data.toList.take (k + 1)) = numA 0 (s.data.toList.take k) * 10 + (s[k].toNat - 48) := by
  rw [List.take_add_one, tt_at s k h, Option.toList_some, numA_snoc]

set_option maxRecDepth 100000 in
set_option maxHeartbeats 4000000 in
theorem whole_pos (s : ByteArray) (w : World) (hs : s.size ≤ 140737488351232) (h0 : 0 < s.size) (hd : AllD s.data.toList) :
    Calls Tryd.prog 29 #[.string s] w fun e w' => WholeAns s e ∧ w' = w := by
  have h0' : (0 : Int) < (s.size : Int) := by omega
  have HD := hide hd
  have hd0 := hd s[0] (List.mem_of_getElem? (tt_at s 0 h0))
  have e45 : ((s[0].toNat : Int) == 45) = false := by simp; omega
  obtain ⟨c, r, hcr⟩ : ∃ c r, s.data.toList = c :: r := by
    cases hq : s.data.toList with
    | nil => have : s.data.toList.length = s.size := rfl; rw [hq] at this; simp at this; omega
    | cons c r => exact ⟨c, r, rfl⟩
  have hI := int_pos s.data.toList c r hcr (hd c (by rw [hcr]; simp))
  have HY := hide (fun h => whole_yes (hI.1 hd h))
  have HB : Hid (18446744073709551615 < numA 0 s.data.toList → ∀ v, Lib.parseIntB 64 s.data.toList ≠ .ok v) := fun h => hI.2 (fun hh => by omega)
  have HB2 : Hid (9223372036854775807 < numA 0 s.data.toList → ∀ v, Lib.parseIntB 64 s.data.toList ≠ .ok v) := fun h => hI.2 (fun hh => by omega)
  clear hI hcr hd0 hd
  go_enter Tryd.func29, Tryd.ntmps29
  go_wp2
  go_loopw [5, 6] (fun nv i wl => ∃ k a : Nat, k ≤ s.size ∧ i = .int .i64 k ∧ nv = .int .u64 a ∧ a ≤ 18446744073709551615 ∧ Hid (a = numA 0 (s.data.toList.take k)) ∧ wl = w) (fun _ i _ => s.size - (intOf i).toNat)
  case atStart => exact ⟨0, 0, by omega, rfl, rfl, by omega, rfl, rfl⟩
  case round =>
    obtain ⟨k, a, hk, rfl, rfl, ha, HA, rfl⟩ := hrel
    by_cases hlt : k < s.size
    · have hi : (k : Int) < (s.size : Int) := by omega
      have hi0 : (0 : Int) ≤ (k : Int) := by omega
      have hdk := HD.out s[k] (List.mem_of_getElem? (tt_at s k hlt))
      have x1 : (48 : Int) ≤ (s[k].toNat : Int) := by omega
      have x2 : (s[k].toNat : Int) ≤ 57 := by omega
      have HS := hide (numA_next s k hlt)
      by_cases hov : 18446744073709551615 < a * 10 + (s[k].toNat - 48)
      · have e1 : (18446744073709551615 - ((s[k].toNat : Int) - 48)) / 10 < (a : Int) := by omega
        have HNo := hide (HB.out (by have h1 := HS.out; have h2 := HA.out; have h3 := numA_take s.data.toList (k + 1); omega))
        clear hdk hov
        go_wp2
        go_ret2
        exact ⟨whole_no 0 HNo.out, rfl⟩
      · have e1 : ¬ (18446744073709551615 - ((s[k].toNat : Int) - 48)) / 10 < (a : Int) := by omega
        have e2 : (a : Int) * 10 + ((s[k].toNat : Int) - 48) ≤ 18446744073709551615 := by omega
        have HS2 : Hid (a * 10 + (s[k].toNat - 48) = numA 0 (s.data.toList.take (k + 1))) := by show _ = _; rw [HS.out, ← HA.out]
        clear hdk
        go_wp2
        go_roundw
        case rel => exact ⟨k + 1, a * 10 + (s[k].toNat - 48), by omega, by go_num, by go_num, by omega, HS2, trivial⟩
        case measure => simp [intOf]; omega
    · have hi : ¬ (k : Int) < (s.size : Int) := by omega
      have HN : Hid (a = numA 0 s.data.toList) := by show _ = _; rw [HA.out, List.take_of_length_le (show s.data.toList.length ≤ k by have : s.data.toList.length = s.size := rfl; omega)]
      by_cases hbig : a < 9223372036854775808
      · have e1 : (a : Int) < 9223372036854775808 := by omega
        have HYa := hide (HY.out (by have := HN.out; omega))
        rw [← HN.out] at HYa
        go_wp2
        go_ret2
        exact ⟨HYa.out, rfl⟩
      · have e1 : ¬ (a : Int) < 9223372036854775808 := by omega
        have HNo := hide (HB2.out (by have := HN.out; omega))
        go_wp2
        go_ret2
        exact ⟨whole_no _ HNo.out, rfl⟩

set_option maxRecDepth 100000 in
set_option maxHeartbeats 4000000 in
theorem whole_neg (s : ByteArray) (w : World) (hs : s.size ≤ 140737488351232) (h1 : 1 < s.size) (h45 : s[0].toNat = 45) (hd : AllD (s.extract 1 s.size).data.toList) :
    Calls Tryd.prog 29 #[.string s] w fun e w' => WholeAns s e ∧ w' = w := by
  have h0' : (0 : Int) < (s.size : Int) := by omega
  have h1' : (1 : Int) ≤ (s.size : Int) := by omega
  have HD := hide hd
  have e45 : ((s[0].toNat : Int) == 45) = true := by simp; omega
  have hT : (s.extract 1 s.size).data.toList = s.data.toList.drop 1 := by
    rw [ByteArray.data_extract, Array.toList_extract, List.extract_eq_take_drop, List.take_of_length_le (by simp)]
  have hTs : (s.extract 1 s.size).size = s.size - 1 := by rw [ByteArray.size_extract]; omega
  obtain ⟨c, r, hcr⟩ : ∃ c r, s.data.toList = c :: r := by
    cases hq : s.data.toList with
    | nil => have : s.data.toList.length = s.size := rfl; rw [hq] at this; simp at this; omega
    | cons c r => exact ⟨c, r, rfl⟩
  have hc0 : c = s[0] := by
    have := tt_at s 0 (by omega)
    rw [hcr] at this
    exact Option.some.inj this
  have hr : r = (s.extract 1 s.size).data.toList := by rw [hT, hcr]; rfl
  have hrn : r ≠ [] := by
    intro h
    have : s.data.toList.length = s.size := rfl
    rw [hcr, h] at this
    simp at this
    omega
  have hI := int_neg s.data.toList c r hcr (by rw [hc0]; exact h45) hrn
  rw [hr] at hI
  have HY := hide (fun h => whole_yes (hI.1 hd h))
  have HB : Hid (18446744073709551615 < numA 0 (s.extract 1 s.size).data.toList → ∀ v, Lib.parseIntB 64 s.data.toList ≠ .ok v) := fun h => hI.2 (fun hh => by omega)
  have HB2 : Hid (9223372036854775808 < numA 0 (s.extract 1 s.size).data.toList → ∀ v, Lib.parseIntB 64 s.data.toList ≠ .ok v) := fun h => hI.2 (fun hh => by omega)
  clear hI hcr hd hT hc0 hr hrn
  go_enter Tryd.func29, Tryd.ntmps29
  go_wp2
  generalize s.extract 1 s.size = T at *
  go_loopw [5, 6] (fun nv i wl => ∃ k a : Nat, k ≤ T.size ∧ i = .int .i64 k ∧ nv = .int .u64 a ∧ a ≤ 18446744073709551615 ∧ Hid (a = numA 0 (T.data.toList.take k)) ∧ wl = w) (fun _ i _ => T.size - (intOf i).toNat)
  case atStart => exact ⟨0, 0, by omega, rfl, rfl, by omega, rfl, rfl⟩
  case round =>
    obtain ⟨k, a, hk, rfl, rfl, ha, HA, rfl⟩ := hrel
    by_cases hlt : k < T.size
    · have hi : (k : Int) < (T.size : Int) := by omega
      have hi0 : (0 : Int) ≤ (k : Int) := by omega
      have hdk := HD.out T[k] (List.mem_of_getElem? (tt_at T k hlt))
      have x1 : (48 : Int) ≤ (T[k].toNat : Int) := by omega
      have x2 : (T[k].toNat : Int) ≤ 57 := by omega
      have HS := hide (numA_next T k hlt)
      by_cases hov : 18446744073709551615 < a * 10 + (T[k].toNat - 48)
      · have e1 : (18446744073709551615 - ((T[k].toNat : Int) - 48)) / 10 < (a : Int) := by omega
        have HNo := hide (HB.out (by have h1 := HS.out; have h2 := HA.out; have h3 := numA_take T.data.toList (k + 1); omega))
        clear hdk hov
        go_wp2
        go_ret2
        exact ⟨whole_no 0 HNo.out, rfl⟩
      · have e1 : ¬ (18446744073709551615 - ((T[k].toNat : Int) - 48)) / 10 < (a : Int) := by omega
        have e2 : (a : Int) * 10 + ((T[k].toNat : Int) - 48) ≤ 18446744073709551615 := by omega
        have HS2 : Hid (a * 10 + (T[k].toNat - 48) = numA 0 (T.data.toList.take (k + 1))) := by show _ = _; rw [HS.out, ← HA.out]
        clear hdk
        go_wp2
        go_roundw
        case rel => exact ⟨k + 1, a * 10 + (T[k].toNat - 48), by omega, by go_num, by go_num, by omega, HS2, trivial⟩
        case measure => simp [intOf]; omega
    · have hi : ¬ (k : Int) < (T.size : Int) := by omega
      have HN : Hid (a = numA 0 T.data.toList) := by show _ = _; rw [HA.out, List.take_of_length_le (show T.data.toList.length ≤ k by have : T.data.toList.length = T.size := rfl; omega)]
      by_cases hbig : a ≤ 9223372036854775808
      · have e1 : (a : Int) ≤ 9223372036854775808 := by omega
        have HYa := hide (HY.out (by have := HN.out; omega))
        rw [← HN.out] at HYa
        go_wp2
        go_ret2
        refine ⟨?_, rfl⟩
        have HV := hide (neg_val a hbig)
        rw [← HV.out] at HYa
        exact HYa.out
      · have e1 : ¬ (a : Int) ≤ 9223372036854775808 := by omega
        have HNo := hide (HB2.out (by have := HN.out; omega))
        go_wp2
        go_ret2
        exact ⟨whole_no _ HNo.out, rfl⟩
end Go.Proofs.YtplldgkdjainlaaDoor
