/- The law's own mod, times and limit. Where parse's grammar gives up, the fault has a code. Faults held against none; boxes that stay. ParseLimits: just so many clauses, facts, literals, terms; one more is that limit's fault; a token that can't stand there is told, at the limit too. -/
import Derived.Test.YtfbmddgjbmapiaaDoorProg
import Derived.Test.YtfbmddgjbmapiaaDoorPkD6
import Derived.Test.YtfbmddgjbmapiaaDoorPkB6
import Derived.Test.YtfbmddgjbmapiaaDoorParseLen
import Derived.Test.YtfbmddgjbmapiaaDoorParseGood
import Derived.Test.YtfbmddgjbmapiaaDoorParseLit

namespace Go.Proofs.YtfbmddgjbmapiaaDoor
set_option linter.unusedSimpArgs false
set_option linter.unusedVariables false
open Go.RowKit

def modZ (n k : Int) : Int := (n.tmod k + k) % k
theorem modZ_6 (n : Int) : ∃ m : Nat, modZ n 6 = (m : Int) ∧ m < 6 := by
  have h1 := Int.tmod_lt_of_pos n (show (0 : Int) < 6 by decide)
  have h2 := Int.lt_tmod_of_pos n (show (0 : Int) < 6 by decide)
  unfold modZ
  generalize n.tmod 6 = x at *
  exact ⟨((x + 6) % 6).toNat, by omega, by omega⟩
set_option maxRecDepth 100000 in
set_option maxHeartbeats 1000000 in
theorem mod_6 (n : Int) (w : World) : Calls Tryd.prog 12 #[.int .i64 n, .int .i64 6] w fun e w' => e = .returned (.int .i64 (modZ n 6)) ∧ w' = w := by
  go_enter Tryd.func12, Tryd.ntmps12
  go_wp2
  go_ret
  have h1 := Int.tmod_lt_of_pos n (show (0 : Int) < 6 by decide)
  have h2 := Int.lt_tmod_of_pos n (show (0 : Int) < 6 by decide)
  unfold modZ
  generalize n.tmod 6 = x at *
  have hw : wrap64 (x + 6) = x + 6 := by unfold wrap64; omega
  have h3 : (x + 6).tmod 6 = (x + 6) % 6 := Int.tmod_eq_emod_of_nonneg (by omega)
  refine ⟨?_, rfl⟩
  show Ending.returned (.int .i64 ((wrap64 (x + 6)).tmod 6)) = _
  rw [hw, h3]

theorem modZ_600 (n : Int) : ∃ m : Nat, modZ n 600 = (m : Int) ∧ m < 600 := by
  have h1 := Int.tmod_lt_of_pos n (show (0 : Int) < 600 by decide)
  have h2 := Int.lt_tmod_of_pos n (show (0 : Int) < 600 by decide)
  unfold modZ
  generalize n.tmod 600 = x at *
  exact ⟨((x + 600) % 600).toNat, by omega, by omega⟩
set_option maxRecDepth 100000 in
set_option maxHeartbeats 1000000 in
theorem mod_600 (n : Int) (w : World) : Calls Tryd.prog 12 #[.int .i64 n, .int .i64 600] w fun e w' => e = .returned (.int .i64 (modZ n 600)) ∧ w' = w := by
  go_enter Tryd.func12, Tryd.ntmps12
  go_wp2
  go_ret
  have h1 := Int.tmod_lt_of_pos n (show (0 : Int) < 600 by decide)
  have h2 := Int.lt_tmod_of_pos n (show (0 : Int) < 600 by decide)
  unfold modZ
  generalize n.tmod 600 = x at *
  have hw : wrap64 (x + 600) = x + 600 := by unfold wrap64; omega
  have h3 : (x + 600).tmod 600 = (x + 600) % 600 := Int.tmod_eq_emod_of_nonneg (by omega)
  refine ⟨?_, rfl⟩
  show Ending.returned (.int .i64 ((wrap64 (x + 600)).tmod 600)) = _
  rw [hw, h3]

theorem modZ_4200 (n : Int) : ∃ m : Nat, modZ n 4200 = (m : Int) ∧ m < 4200 := by
  have h1 := Int.tmod_lt_of_pos n (show (0 : Int) < 4200 by decide)
  have h2 := Int.lt_tmod_of_pos n (show (0 : Int) < 4200 by decide)
  unfold modZ
  generalize n.tmod 4200 = x at *
  exact ⟨((x + 4200) % 4200).toNat, by omega, by omega⟩
set_option maxRecDepth 100000 in
set_option maxHeartbeats 1000000 in
theorem mod_4200 (n : Int) (w : World) : Calls Tryd.prog 12 #[.int .i64 n, .int .i64 4200] w fun e w' => e = .returned (.int .i64 (modZ n 4200)) ∧ w' = w := by
  go_enter Tryd.func12, Tryd.ntmps12
  go_wp2
  go_ret
  have h1 := Int.tmod_lt_of_pos n (show (0 : Int) < 4200 by decide)
  have h2 := Int.lt_tmod_of_pos n (show (0 : Int) < 4200 by decide)
  unfold modZ
  generalize n.tmod 4200 = x at *
  have hw : wrap64 (x + 4200) = x + 4200 := by unfold wrap64; omega
  have h3 : (x + 4200).tmod 4200 = (x + 4200) % 4200 := Int.tmod_eq_emod_of_nonneg (by omega)
  refine ⟨?_, rfl⟩
  show Ending.returned (.int .i64 ((wrap64 (x + 4200)).tmod 4200)) = _
  rw [hw, h3]

theorem modZ_40 (n : Int) : ∃ m : Nat, modZ n 40 = (m : Int) ∧ m < 40 := by
  have h1 := Int.tmod_lt_of_pos n (show (0 : Int) < 40 by decide)
  have h2 := Int.lt_tmod_of_pos n (show (0 : Int) < 40 by decide)
  unfold modZ
  generalize n.tmod 40 = x at *
  exact ⟨((x + 40) % 40).toNat, by omega, by omega⟩
set_option maxRecDepth 100000 in
set_option maxHeartbeats 1000000 in
theorem mod_40 (n : Int) (w : World) : Calls Tryd.prog 12 #[.int .i64 n, .int .i64 40] w fun e w' => e = .returned (.int .i64 (modZ n 40)) ∧ w' = w := by
  go_enter Tryd.func12, Tryd.ntmps12
  go_wp2
  go_ret
  have h1 := Int.tmod_lt_of_pos n (show (0 : Int) < 40 by decide)
  have h2 := Int.lt_tmod_of_pos n (show (0 : Int) < 40 by decide)
  unfold modZ
  generalize n.tmod 40 = x at *
  have hw : wrap64 (x + 40) = x + 40 := by unfold wrap64; omega
  have h3 : (x + 40).tmod 40 = (x + 40) % 40 := Int.tmod_eq_emod_of_nonneg (by omega)
  refine ⟨?_, rfl⟩
  show Ending.returned (.int .i64 ((wrap64 (x + 40)).tmod 40)) = _
  rw [hw, h3]

theorem modZ_20 (n : Int) : ∃ m : Nat, modZ n 20 = (m : Int) ∧ m < 20 := by
  have h1 := Int.tmod_lt_of_pos n (show (0 : Int) < 20 by decide)
  have h2 := Int.lt_tmod_of_pos n (show (0 : Int) < 20 by decide)
  unfold modZ
  generalize n.tmod 20 = x at *
  exact ⟨((x + 20) % 20).toNat, by omega, by omega⟩
set_option maxRecDepth 100000 in
set_option maxHeartbeats 1000000 in
theorem mod_20 (n : Int) (w : World) : Calls Tryd.prog 12 #[.int .i64 n, .int .i64 20] w fun e w' => e = .returned (.int .i64 (modZ n 20)) ∧ w' = w := by
  go_enter Tryd.func12, Tryd.ntmps12
  go_wp2
  go_ret
  have h1 := Int.tmod_lt_of_pos n (show (0 : Int) < 20 by decide)
  have h2 := Int.lt_tmod_of_pos n (show (0 : Int) < 20 by decide)
  unfold modZ
  generalize n.tmod 20 = x at *
  have hw : wrap64 (x + 20) = x + 20 := by unfold wrap64; omega
  have h3 : (x + 20).tmod 20 = (x + 20) % 20 := Int.tmod_eq_emod_of_nonneg (by omega)
  refine ⟨?_, rfl⟩
  show Ending.returned (.int .i64 ((wrap64 (x + 20)).tmod 20)) = _
  rw [hw, h3]

theorem rep_odd {n : Nat} (h : n % 2 = 1) (p : List UInt8) : repB n p = repB (n / 2) p ++ repB (n / 2) p ++ p := by
  have e : n = n / 2 + n / 2 + 1 := by omega
  conv => lhs; rw [e, rep_add p 1, rep_add]
  show _ ++ (p ++ []) = _
  rw [List.append_nil]
theorem rep_even {n : Nat} (h : ¬ n % 2 = 1) (p : List UInt8) : repB n p = repB (n / 2) p ++ repB (n / 2) p := by
  have e : n = n / 2 + n / 2 := by omega
  conv => lhs; rw [e, rep_add]
theorem rep_size {t p : ByteArray} {n : Nat} (h : t.data.toList = repB n p.data.toList) : t.size = n * p.size := by
  have := congrArg List.length h
  rw [rep_len] at this
  exact this
theorem cat_list (a b : ByteArray) : (a ++ b).data.toList = a.data.toList ++ b.data.toList := by rw [ByteArray.data_append, Array.toList_append]

set_option maxRecDepth 100000 in
set_option maxHeartbeats 1000000 in
theorem times_rep (p : ByteArray) (hp : p.size ≤ 4) : ∀ (n : Nat), n ≤ 5000 → ∀ w : World, Calls Tryd.prog 21 #[.string p, .int .i64 (n : Int)] w fun e w' => ∃ t : ByteArray, t.data.toList = repB n p.data.toList ∧ e = .returned (.string t) ∧ w' = w := by
  intro n
  induction n using Nat.strongRecOn with
  | ind n ih =>
    intro hn w
    by_cases h0 : n = 0
    · subst h0
      go_enter Tryd.func21, Tryd.ntmps21
      go_wp2
      go_ret
      exact ⟨⟨#[]⟩, rfl, rfl, rfl⟩
    · have hi : ¬ (n : Int) ≤ 0 := by omega
      have IH0 := fun w => ih (n / 2) (by omega) (by omega) w
      rw [show ((n / 2 : Nat) : Int) = (n : Int) / 2 from by omega] at IH0
      have IH := hide IH0
      have HSz : Hid (∀ t : ByteArray, t.data.toList = repB (n / 2) p.data.toList → t.size ≤ 10000) := fun t ht => by
        rw [rep_size ht]
        have := Nat.mul_le_mul (show n / 2 ≤ 2500 by omega) hp
        omega
      have HP := hide hp
      clear ih IH0 hp
      by_cases hm : n % 2 = 1
      · have e1 : ((n : Int) % 2 == 1) = true := by simp; omega
        have e2 : ((n : Int).tmod 2 == 1) = true := by rw [Int.tmod_eq_emod_of_nonneg (by omega)]; exact e1
        go_enter Tryd.func21, Tryd.ntmps21
        go_wp2_with (go_at_call 21; refine (IH.out _).mono ?_; rintro e w1 ⟨t, ht, rfl, hw⟩; have hw := hw.symm; subst hw; have HT := hide ht; have hsz := HSz.out t ht; have hc1 := small_cat t t (by omega); have hc2 := small_cat (t ++ t) p (by rw [ByteArray.size_append]; have := HP.out; omega); clear ht)
        go_ret
        exact ⟨t ++ t ++ p, by rw [cat_list, cat_list, HT.out, rep_odd hm], rfl, rfl⟩
      · have e1 : ((n : Int) % 2 == 1) = false := by simp; omega
        have e2 : ((n : Int).tmod 2 == 1) = false := by rw [Int.tmod_eq_emod_of_nonneg (by omega)]; exact e1
        go_enter Tryd.func21, Tryd.ntmps21
        go_wp2_with (go_at_call 21; refine (IH.out _).mono ?_; rintro e w1 ⟨t, ht, rfl, hw⟩; have hw := hw.symm; subst hw; have HT := hide ht; have hsz := HSz.out t ht; have hc1 := small_cat t t (by omega); clear ht)
        go_ret
        exact ⟨t ++ t, by rw [cat_list, HT.out, rep_even hm], rfl, rfl⟩

set_option maxRecDepth 100000 in
set_option maxHeartbeats 2000000 in
theorem limit0 (m : Nat) (hm : m ≤ 4200) (bad : Bool) (w : World) : Calls Tryd.prog 13 #[.int .i64 0, .int .i64 (1 + (m : Int)), .bool bad] w fun e w' => ∃ s : ByteArray, e = .returned (.tuple #[.string s, .int .i64 512, .int .i64 0, .int .i64 24]) ∧ Hid (s.data.toList = (repB m [112, 46] ++ (if bad then ([41, 46] : List UInt8) else [112, 46])) ∧ s.size ≤ 65536) ∧ w' = w := by
  have HT := hide (times_rep ⟨#[112, 46]⟩ (by decide) m (by omega))
  have hsub : (1 + (m : Int)) - 1 = (m : Int) := by omega
  have HSz : Hid (∀ t : ByteArray, t.data.toList = repB m [112, 46] → t.size ≤ 20000) := fun t ht => by
    have := congrArg List.length ht
    rw [rep_len] at this
    have h2 : t.size = m * 2 := this
    omega
  cases bad with
  | false =>
    go_enter Tryd.func13, Tryd.ntmps13
    go_wp2_with (go_at_call 21; refine (HT.out _).mono ?_; rintro e w1 ⟨t, ht, rfl, hw⟩; have hw := hw.symm; subst hw; have HL := hide ht; have hsz := HSz.out t ht; have hc1 := small_cat t ⟨#[112, 46]⟩ (by rw [show (⟨#[112, 46]⟩ : ByteArray).size = 2 from rfl]; omega); clear ht)
    refine bodyPost_ret (v := .tuple #[.string (t ++ (⟨#[112, 46]⟩ : ByteArray)), .int .i64 512, .int .i64 0, .int .i64 24]) (by simp [results, Tryd.results13, go_sem]) rfl ?_
    exact ⟨(t ++ (⟨#[112, 46]⟩ : ByteArray)), rfl, ⟨by simp only [cat_list]; rw [HL.out]; (try simp), by simp only [ByteArray.size_append]; (try rw [show (⟨#[112, 46]⟩ : ByteArray).size = 2 from rfl]); omega⟩, rfl⟩
  | true =>
    go_enter Tryd.func13, Tryd.ntmps13
    go_wp2_with (go_at_call 21; refine (HT.out _).mono ?_; rintro e w1 ⟨t, ht, rfl, hw⟩; have hw := hw.symm; subst hw; have HL := hide ht; have hsz := HSz.out t ht; have hc1 := small_cat t ⟨#[41, 46]⟩ (by rw [show (⟨#[41, 46]⟩ : ByteArray).size = 2 from rfl]; omega); have hx1 := small_cat t ⟨#[112, 46]⟩ (by rw [show (⟨#[112, 46]⟩ : ByteArray).size = 2 from rfl]; omega); clear ht)
    refine bodyPost_ret (v := .tuple #[.string (t ++ (⟨#[41, 46]⟩ : ByteArray)), .int .i64 512, .int .i64 0, .int .i64 24]) (by simp [results, Tryd.results13, go_sem]) rfl ?_
    exact ⟨(t ++ (⟨#[41, 46]⟩ : ByteArray)), rfl, ⟨by simp only [cat_list]; rw [HL.out]; (try simp), by simp only [ByteArray.size_append]; (try rw [show (⟨#[41, 46]⟩ : ByteArray).size = 2 from rfl]); omega⟩, rfl⟩

set_option maxRecDepth 100000 in
set_option maxHeartbeats 2000000 in
theorem limit1 (m : Nat) (hm : m ≤ 4200) (bad : Bool) (w : World) : Calls Tryd.prog 13 #[.int .i64 1, .int .i64 (1 + (m : Int)), .bool bad] w fun e w' => ∃ s : ByteArray, e = .returned (.tuple #[.string s, .int .i64 4096, .int .i64 0, .int .i64 24]) ∧ Hid (s.data.toList = (repB m [112, 46] ++ (if bad then ([41, 46] : List UInt8) else [112, 46])) ∧ s.size ≤ 65536) ∧ w' = w := by
  have HT := hide (times_rep ⟨#[112, 46]⟩ (by decide) m (by omega))
  have hsub : (1 + (m : Int)) - 1 = (m : Int) := by omega
  have HSz : Hid (∀ t : ByteArray, t.data.toList = repB m [112, 46] → t.size ≤ 20000) := fun t ht => by
    have := congrArg List.length ht
    rw [rep_len] at this
    have h2 : t.size = m * 2 := this
    omega
  cases bad with
  | false =>
    go_enter Tryd.func13, Tryd.ntmps13
    go_wp2_with (go_at_call 21; refine (HT.out _).mono ?_; rintro e w1 ⟨t, ht, rfl, hw⟩; have hw := hw.symm; subst hw; have HL := hide ht; have hsz := HSz.out t ht; have hc1 := small_cat t ⟨#[112, 46]⟩ (by rw [show (⟨#[112, 46]⟩ : ByteArray).size = 2 from rfl]; omega); clear ht)
    refine bodyPost_ret (v := .tuple #[.string (t ++ (⟨#[112, 46]⟩ : ByteArray)), .int .i64 4096, .int .i64 0, .int .i64 24]) (by simp [results, Tryd.results13, go_sem]) rfl ?_
    exact ⟨(t ++ (⟨#[112, 46]⟩ : ByteArray)), rfl, ⟨by simp only [cat_list]; rw [HL.out]; (try simp), by simp only [ByteArray.size_append]; (try rw [show (⟨#[112, 46]⟩ : ByteArray).size = 2 from rfl]); omega⟩, rfl⟩
  | true =>
    go_enter Tryd.func13, Tryd.ntmps13
    go_wp2_with (go_at_call 21; refine (HT.out _).mono ?_; rintro e w1 ⟨t, ht, rfl, hw⟩; have hw := hw.symm; subst hw; have HL := hide ht; have hsz := HSz.out t ht; have hc1 := small_cat t ⟨#[41, 46]⟩ (by rw [show (⟨#[41, 46]⟩ : ByteArray).size = 2 from rfl]; omega); have hx1 := small_cat t ⟨#[112, 46]⟩ (by rw [show (⟨#[112, 46]⟩ : ByteArray).size = 2 from rfl]; omega); clear ht)
    refine bodyPost_ret (v := .tuple #[.string (t ++ (⟨#[41, 46]⟩ : ByteArray)), .int .i64 4096, .int .i64 0, .int .i64 24]) (by simp [results, Tryd.results13, go_sem]) rfl ?_
    exact ⟨(t ++ (⟨#[41, 46]⟩ : ByteArray)), rfl, ⟨by simp only [cat_list]; rw [HL.out]; (try simp), by simp only [ByteArray.size_append]; (try rw [show (⟨#[41, 46]⟩ : ByteArray).size = 2 from rfl]); omega⟩, rfl⟩

set_option maxRecDepth 100000 in
set_option maxHeartbeats 2000000 in
theorem limit2 (m : Nat) (hm : m ≤ 4200) (bad : Bool) (w : World) : Calls Tryd.prog 13 #[.int .i64 2, .int .i64 (1 + (m : Int)), .bool bad] w fun e w' => ∃ s : ByteArray, e = .returned (.tuple #[.string s, .int .i64 16, .int .i64 3, .int .i64 23]) ∧ Hid (s.data.toList = [104, 58, 45] ++ (repB m [49, 61, 49, 44] ++ (if bad then ([41, 61, 49, 46] : List UInt8) else [49, 61, 49, 46])) ∧ s.size ≤ 65536) ∧ w' = w := by
  have HT := hide (times_rep ⟨#[49, 61, 49, 44]⟩ (by decide) m (by omega))
  have hsub : (1 + (m : Int)) - 1 = (m : Int) := by omega
  have HSz : Hid (∀ t : ByteArray, t.data.toList = repB m [49, 61, 49, 44] → t.size ≤ 20000) := fun t ht => by
    have := congrArg List.length ht
    rw [rep_len] at this
    have h2 : t.size = m * 4 := this
    omega
  cases bad with
  | false =>
    go_enter Tryd.func13, Tryd.ntmps13
    go_wp2_with (go_at_call 21; refine (HT.out _).mono ?_; rintro e w1 ⟨t, ht, rfl, hw⟩; have hw := hw.symm; subst hw; have HL := hide ht; have hsz := HSz.out t ht; have hc0 := small_cat ⟨#[104, 58, 45]⟩ t (by show 3 + t.size ≤ _; omega); have hc1 := small_cat ((⟨#[104, 58, 45]⟩ : ByteArray) ++ t) ⟨#[49]⟩ (by rw [show (⟨#[49]⟩ : ByteArray).size = 1 from rfl]; simp only [ByteArray.size_append]; rw [show (⟨#[104, 58, 45]⟩ : ByteArray).size = 3 from rfl]; skip; omega); have hc2 := small_cat (((⟨#[104, 58, 45]⟩ : ByteArray) ++ t) ++ (⟨#[49]⟩ : ByteArray)) ⟨#[61, 49, 46]⟩ (by rw [show (⟨#[61, 49, 46]⟩ : ByteArray).size = 3 from rfl]; simp only [ByteArray.size_append]; rw [show (⟨#[104, 58, 45]⟩ : ByteArray).size = 3 from rfl]; rw [show (⟨#[49]⟩ : ByteArray).size = 1 from rfl]; skip; omega); clear ht)
    refine bodyPost_ret (v := .tuple #[.string ((((⟨#[104, 58, 45]⟩ : ByteArray) ++ t) ++ (⟨#[49]⟩ : ByteArray)) ++ (⟨#[61, 49, 46]⟩ : ByteArray)), .int .i64 16, .int .i64 3, .int .i64 23]) (by simp [results, Tryd.results13, go_sem]) rfl ?_
    exact ⟨((((⟨#[104, 58, 45]⟩ : ByteArray) ++ t) ++ (⟨#[49]⟩ : ByteArray)) ++ (⟨#[61, 49, 46]⟩ : ByteArray)), rfl, ⟨by simp only [cat_list]; rw [HL.out]; (try simp), by simp only [ByteArray.size_append]; (try rw [show (⟨#[104, 58, 45]⟩ : ByteArray).size = 3 from rfl]); (try rw [show (⟨#[49]⟩ : ByteArray).size = 1 from rfl]); (try rw [show (⟨#[61, 49, 46]⟩ : ByteArray).size = 3 from rfl]); omega⟩, rfl⟩
  | true =>
    go_enter Tryd.func13, Tryd.ntmps13
    go_wp2_with (go_at_call 21; refine (HT.out _).mono ?_; rintro e w1 ⟨t, ht, rfl, hw⟩; have hw := hw.symm; subst hw; have HL := hide ht; have hsz := HSz.out t ht; have hc0 := small_cat ⟨#[104, 58, 45]⟩ t (by show 3 + t.size ≤ _; omega); have hc1 := small_cat ((⟨#[104, 58, 45]⟩ : ByteArray) ++ t) ⟨#[41]⟩ (by rw [show (⟨#[41]⟩ : ByteArray).size = 1 from rfl]; simp only [ByteArray.size_append]; rw [show (⟨#[104, 58, 45]⟩ : ByteArray).size = 3 from rfl]; skip; omega); have hc2 := small_cat (((⟨#[104, 58, 45]⟩ : ByteArray) ++ t) ++ (⟨#[41]⟩ : ByteArray)) ⟨#[61, 49, 46]⟩ (by rw [show (⟨#[61, 49, 46]⟩ : ByteArray).size = 3 from rfl]; simp only [ByteArray.size_append]; rw [show (⟨#[104, 58, 45]⟩ : ByteArray).size = 3 from rfl]; rw [show (⟨#[41]⟩ : ByteArray).size = 1 from rfl]; skip; omega); clear ht)
    refine bodyPost_ret (v := .tuple #[.string ((((⟨#[104, 58, 45]⟩ : ByteArray) ++ t) ++ (⟨#[41]⟩ : ByteArray)) ++ (⟨#[61, 49, 46]⟩ : ByteArray)), .int .i64 16, .int .i64 3, .int .i64 23]) (by simp [results, Tryd.results13, go_sem]) rfl ?_
    exact ⟨((((⟨#[104, 58, 45]⟩ : ByteArray) ++ t) ++ (⟨#[41]⟩ : ByteArray)) ++ (⟨#[61, 49, 46]⟩ : ByteArray)), rfl, ⟨by simp only [cat_list]; rw [HL.out]; (try simp), by simp only [ByteArray.size_append]; (try rw [show (⟨#[104, 58, 45]⟩ : ByteArray).size = 3 from rfl]); (try rw [show (⟨#[41]⟩ : ByteArray).size = 1 from rfl]); (try rw [show (⟨#[61, 49, 46]⟩ : ByteArray).size = 3 from rfl]); omega⟩, rfl⟩

set_option maxRecDepth 100000 in
set_option maxHeartbeats 2000000 in
theorem limit3 (m : Nat) (hm : m ≤ 4200) (bad : Bool) (w : World) : Calls Tryd.prog 13 #[.int .i64 3, .int .i64 (1 + (m : Int)), .bool bad] w fun e w' => ∃ s : ByteArray, e = .returned (.tuple #[.string s, .int .i64 16, .int .i64 0, .int .i64 23]) ∧ Hid (s.data.toList = (repB m [49, 61, 49, 44] ++ (if bad then ([41, 61, 49, 46] : List UInt8) else [49, 61, 49, 46])) ∧ s.size ≤ 65536) ∧ w' = w := by
  have HT := hide (times_rep ⟨#[49, 61, 49, 44]⟩ (by decide) m (by omega))
  have hsub : (1 + (m : Int)) - 1 = (m : Int) := by omega
  have HSz : Hid (∀ t : ByteArray, t.data.toList = repB m [49, 61, 49, 44] → t.size ≤ 20000) := fun t ht => by
    have := congrArg List.length ht
    rw [rep_len] at this
    have h2 : t.size = m * 4 := this
    omega
  cases bad with
  | false =>
    go_enter Tryd.func13, Tryd.ntmps13
    go_wp2_with (go_at_call 21; refine (HT.out _).mono ?_; rintro e w1 ⟨t, ht, rfl, hw⟩; have hw := hw.symm; subst hw; have HL := hide ht; have hsz := HSz.out t ht; have hc1 := small_cat t ⟨#[49]⟩ (by rw [show (⟨#[49]⟩ : ByteArray).size = 1 from rfl]; omega); have hc2 := small_cat (t ++ (⟨#[49]⟩ : ByteArray)) ⟨#[61, 49, 46]⟩ (by rw [show (⟨#[61, 49, 46]⟩ : ByteArray).size = 3 from rfl]; simp only [ByteArray.size_append]; rw [show (⟨#[49]⟩ : ByteArray).size = 1 from rfl]; skip; omega); clear ht)
    refine bodyPost_ret (v := .tuple #[.string ((t ++ (⟨#[49]⟩ : ByteArray)) ++ (⟨#[61, 49, 46]⟩ : ByteArray)), .int .i64 16, .int .i64 0, .int .i64 23]) (by simp [results, Tryd.results13, go_sem]) rfl ?_
    exact ⟨((t ++ (⟨#[49]⟩ : ByteArray)) ++ (⟨#[61, 49, 46]⟩ : ByteArray)), rfl, ⟨by simp only [cat_list]; rw [HL.out]; (try simp), by simp only [ByteArray.size_append]; (try rw [show (⟨#[49]⟩ : ByteArray).size = 1 from rfl]); (try rw [show (⟨#[61, 49, 46]⟩ : ByteArray).size = 3 from rfl]); omega⟩, rfl⟩
  | true =>
    go_enter Tryd.func13, Tryd.ntmps13
    go_wp2_with (go_at_call 21; refine (HT.out _).mono ?_; rintro e w1 ⟨t, ht, rfl, hw⟩; have hw := hw.symm; subst hw; have HL := hide ht; have hsz := HSz.out t ht; have hc1 := small_cat t ⟨#[41]⟩ (by rw [show (⟨#[41]⟩ : ByteArray).size = 1 from rfl]; omega); have hc2 := small_cat (t ++ (⟨#[41]⟩ : ByteArray)) ⟨#[61, 49, 46]⟩ (by rw [show (⟨#[61, 49, 46]⟩ : ByteArray).size = 3 from rfl]; simp only [ByteArray.size_append]; rw [show (⟨#[41]⟩ : ByteArray).size = 1 from rfl]; skip; omega); clear ht)
    refine bodyPost_ret (v := .tuple #[.string ((t ++ (⟨#[41]⟩ : ByteArray)) ++ (⟨#[61, 49, 46]⟩ : ByteArray)), .int .i64 16, .int .i64 0, .int .i64 23]) (by simp [results, Tryd.results13, go_sem]) rfl ?_
    exact ⟨((t ++ (⟨#[41]⟩ : ByteArray)) ++ (⟨#[61, 49, 46]⟩ : ByteArray)), rfl, ⟨by simp only [cat_list]; rw [HL.out]; (try simp), by simp only [ByteArray.size_append]; (try rw [show (⟨#[41]⟩ : ByteArray).size = 1 from rfl]); (try rw [show (⟨#[61, 49, 46]⟩ : ByteArray).size = 3 from rfl]); omega⟩, rfl⟩

set_option maxRecDepth 100000 in
set_option maxHeartbeats 2000000 in
theorem limit4 (m : Nat) (hm : m ≤ 4200) (bad : Bool) (w : World) : Calls Tryd.prog 13 #[.int .i64 4, .int .i64 (1 + (m : Int)), .bool bad] w fun e w' => ∃ s : ByteArray, e = .returned (.tuple #[.string s, .int .i64 8, .int .i64 2, .int .i64 22]) ∧ Hid (s.data.toList = [112, 40] ++ (repB m [49, 44] ++ (if bad then ([41, 41, 46] : List UInt8) else [49, 41, 46])) ∧ s.size ≤ 65536) ∧ w' = w := by
  have HT := hide (times_rep ⟨#[49, 44]⟩ (by decide) m (by omega))
  have hsub : (1 + (m : Int)) - 1 = (m : Int) := by omega
  have HSz : Hid (∀ t : ByteArray, t.data.toList = repB m [49, 44] → t.size ≤ 20000) := fun t ht => by
    have := congrArg List.length ht
    rw [rep_len] at this
    have h2 : t.size = m * 2 := this
    omega
  cases bad with
  | false =>
    go_enter Tryd.func13, Tryd.ntmps13
    go_wp2_with (go_at_call 21; refine (HT.out _).mono ?_; rintro e w1 ⟨t, ht, rfl, hw⟩; have hw := hw.symm; subst hw; have HL := hide ht; have hsz := HSz.out t ht; have hc0 := small_cat ⟨#[112, 40]⟩ t (by show 2 + t.size ≤ _; omega); have hc1 := small_cat ((⟨#[112, 40]⟩ : ByteArray) ++ t) ⟨#[49]⟩ (by rw [show (⟨#[49]⟩ : ByteArray).size = 1 from rfl]; simp only [ByteArray.size_append]; rw [show (⟨#[112, 40]⟩ : ByteArray).size = 2 from rfl]; skip; omega); have hc2 := small_cat (((⟨#[112, 40]⟩ : ByteArray) ++ t) ++ (⟨#[49]⟩ : ByteArray)) ⟨#[41, 46]⟩ (by rw [show (⟨#[41, 46]⟩ : ByteArray).size = 2 from rfl]; simp only [ByteArray.size_append]; rw [show (⟨#[112, 40]⟩ : ByteArray).size = 2 from rfl]; rw [show (⟨#[49]⟩ : ByteArray).size = 1 from rfl]; skip; omega); clear ht)
    refine bodyPost_ret (v := .tuple #[.string ((((⟨#[112, 40]⟩ : ByteArray) ++ t) ++ (⟨#[49]⟩ : ByteArray)) ++ (⟨#[41, 46]⟩ : ByteArray)), .int .i64 8, .int .i64 2, .int .i64 22]) (by simp [results, Tryd.results13, go_sem]) rfl ?_
    exact ⟨((((⟨#[112, 40]⟩ : ByteArray) ++ t) ++ (⟨#[49]⟩ : ByteArray)) ++ (⟨#[41, 46]⟩ : ByteArray)), rfl, ⟨by simp only [cat_list]; rw [HL.out]; (try simp), by simp only [ByteArray.size_append]; (try rw [show (⟨#[112, 40]⟩ : ByteArray).size = 2 from rfl]); (try rw [show (⟨#[49]⟩ : ByteArray).size = 1 from rfl]); (try rw [show (⟨#[41, 46]⟩ : ByteArray).size = 2 from rfl]); omega⟩, rfl⟩
  | true =>
    go_enter Tryd.func13, Tryd.ntmps13
    go_wp2_with (go_at_call 21; refine (HT.out _).mono ?_; rintro e w1 ⟨t, ht, rfl, hw⟩; have hw := hw.symm; subst hw; have HL := hide ht; have hsz := HSz.out t ht; have hc0 := small_cat ⟨#[112, 40]⟩ t (by show 2 + t.size ≤ _; omega); have hc1 := small_cat ((⟨#[112, 40]⟩ : ByteArray) ++ t) ⟨#[41]⟩ (by rw [show (⟨#[41]⟩ : ByteArray).size = 1 from rfl]; simp only [ByteArray.size_append]; rw [show (⟨#[112, 40]⟩ : ByteArray).size = 2 from rfl]; skip; omega); have hc2 := small_cat (((⟨#[112, 40]⟩ : ByteArray) ++ t) ++ (⟨#[41]⟩ : ByteArray)) ⟨#[41, 46]⟩ (by rw [show (⟨#[41, 46]⟩ : ByteArray).size = 2 from rfl]; simp only [ByteArray.size_append]; rw [show (⟨#[112, 40]⟩ : ByteArray).size = 2 from rfl]; rw [show (⟨#[41]⟩ : ByteArray).size = 1 from rfl]; skip; omega); clear ht)
    refine bodyPost_ret (v := .tuple #[.string ((((⟨#[112, 40]⟩ : ByteArray) ++ t) ++ (⟨#[41]⟩ : ByteArray)) ++ (⟨#[41, 46]⟩ : ByteArray)), .int .i64 8, .int .i64 2, .int .i64 22]) (by simp [results, Tryd.results13, go_sem]) rfl ?_
    exact ⟨((((⟨#[112, 40]⟩ : ByteArray) ++ t) ++ (⟨#[41]⟩ : ByteArray)) ++ (⟨#[41, 46]⟩ : ByteArray)), rfl, ⟨by simp only [cat_list]; rw [HL.out]; (try simp), by simp only [ByteArray.size_append]; (try rw [show (⟨#[112, 40]⟩ : ByteArray).size = 2 from rfl]); (try rw [show (⟨#[41]⟩ : ByteArray).size = 1 from rfl]); (try rw [show (⟨#[41, 46]⟩ : ByteArray).size = 2 from rfl]); omega⟩, rfl⟩

set_option maxRecDepth 100000 in
set_option maxHeartbeats 2000000 in
theorem limit5 (m : Nat) (hm : m ≤ 4200) (bad : Bool) (w : World) : Calls Tryd.prog 13 #[.int .i64 5, .int .i64 (1 + (m : Int)), .bool bad] w fun e w' => ∃ s : ByteArray, e = .returned (.tuple #[.string s, .int .i64 8, .int .i64 2, .int .i64 22]) ∧ Hid (s.data.toList = [112, 40] ++ (repB m [49, 44] ++ (if bad then ([41, 41] : List UInt8) else [49, 41])) ∧ s.size ≤ 65536) ∧ w' = w := by
  have HT := hide (times_rep ⟨#[49, 44]⟩ (by decide) m (by omega))
  have hsub : (1 + (m : Int)) - 1 = (m : Int) := by omega
  have HSz : Hid (∀ t : ByteArray, t.data.toList = repB m [49, 44] → t.size ≤ 20000) := fun t ht => by
    have := congrArg List.length ht
    rw [rep_len] at this
    have h2 : t.size = m * 2 := this
    omega
  cases bad with
  | false =>
    go_enter Tryd.func13, Tryd.ntmps13
    go_wp2_with (go_at_call 21; refine (HT.out _).mono ?_; rintro e w1 ⟨t, ht, rfl, hw⟩; have hw := hw.symm; subst hw; have HL := hide ht; have hsz := HSz.out t ht; have hc0 := small_cat ⟨#[112, 40]⟩ t (by show 2 + t.size ≤ _; omega); have hc1 := small_cat ((⟨#[112, 40]⟩ : ByteArray) ++ t) ⟨#[49]⟩ (by rw [show (⟨#[49]⟩ : ByteArray).size = 1 from rfl]; simp only [ByteArray.size_append]; rw [show (⟨#[112, 40]⟩ : ByteArray).size = 2 from rfl]; skip; omega); have hc2 := small_cat (((⟨#[112, 40]⟩ : ByteArray) ++ t) ++ (⟨#[49]⟩ : ByteArray)) ⟨#[41]⟩ (by rw [show (⟨#[41]⟩ : ByteArray).size = 1 from rfl]; simp only [ByteArray.size_append]; rw [show (⟨#[112, 40]⟩ : ByteArray).size = 2 from rfl]; rw [show (⟨#[49]⟩ : ByteArray).size = 1 from rfl]; skip; omega); clear ht)
    refine bodyPost_ret (v := .tuple #[.string ((((⟨#[112, 40]⟩ : ByteArray) ++ t) ++ (⟨#[49]⟩ : ByteArray)) ++ (⟨#[41]⟩ : ByteArray)), .int .i64 8, .int .i64 2, .int .i64 22]) (by simp [results, Tryd.results13, go_sem]) rfl ?_
    exact ⟨((((⟨#[112, 40]⟩ : ByteArray) ++ t) ++ (⟨#[49]⟩ : ByteArray)) ++ (⟨#[41]⟩ : ByteArray)), rfl, ⟨by simp only [cat_list]; rw [HL.out]; (try simp), by simp only [ByteArray.size_append]; (try rw [show (⟨#[112, 40]⟩ : ByteArray).size = 2 from rfl]); (try rw [show (⟨#[49]⟩ : ByteArray).size = 1 from rfl]); (try rw [show (⟨#[41]⟩ : ByteArray).size = 1 from rfl]); omega⟩, rfl⟩
  | true =>
    go_enter Tryd.func13, Tryd.ntmps13
    go_wp2_with (go_at_call 21; refine (HT.out _).mono ?_; rintro e w1 ⟨t, ht, rfl, hw⟩; have hw := hw.symm; subst hw; have HL := hide ht; have hsz := HSz.out t ht; have hc0 := small_cat ⟨#[112, 40]⟩ t (by show 2 + t.size ≤ _; omega); have hc1 := small_cat ((⟨#[112, 40]⟩ : ByteArray) ++ t) ⟨#[41]⟩ (by rw [show (⟨#[41]⟩ : ByteArray).size = 1 from rfl]; simp only [ByteArray.size_append]; rw [show (⟨#[112, 40]⟩ : ByteArray).size = 2 from rfl]; skip; omega); have hc2 := small_cat (((⟨#[112, 40]⟩ : ByteArray) ++ t) ++ (⟨#[41]⟩ : ByteArray)) ⟨#[41]⟩ (by rw [show (⟨#[41]⟩ : ByteArray).size = 1 from rfl]; simp only [ByteArray.size_append]; rw [show (⟨#[112, 40]⟩ : ByteArray).size = 2 from rfl]; rw [show (⟨#[41]⟩ : ByteArray).size = 1 from rfl]; skip; omega); clear ht)
    refine bodyPost_ret (v := .tuple #[.string ((((⟨#[112, 40]⟩ : ByteArray) ++ t) ++ (⟨#[41]⟩ : ByteArray)) ++ (⟨#[41]⟩ : ByteArray)), .int .i64 8, .int .i64 2, .int .i64 22]) (by simp [results, Tryd.results13, go_sem]) rfl ?_
    exact ⟨((((⟨#[112, 40]⟩ : ByteArray) ++ t) ++ (⟨#[41]⟩ : ByteArray)) ++ (⟨#[41]⟩ : ByteArray)), rfl, ⟨by simp only [cat_list]; rw [HL.out]; (try simp), by simp only [ByteArray.size_append]; (try rw [show (⟨#[112, 40]⟩ : ByteArray).size = 2 from rfl]); (try rw [show (⟨#[41]⟩ : ByteArray).size = 1 from rfl]); (try rw [show (⟨#[41]⟩ : ByteArray).size = 1 from rfl]); omega⟩, rfl⟩
end Go.Proofs.YtfbmddgjbmapiaaDoor

namespace Go.Proofs.YtfbmddgjbmapiaaDoor
set_option linter.unusedSimpArgs false
set_option linter.unusedVariables false
open Go.RowKit

/-- No token follows for a reason, or the end is still ahead. -/
def NE (c : Int) (R : List Tok) : Prop := c ≠ 0 ∨ ∃ t ∈ R, t.k = 0
def Bd {α : Type} (c : Int) : PR α → Prop
  | .bad ec _ => ec ≠ 0
  | .ok _ r => NE c r
theorem misK_ne (k : Int) : misK k ≠ 0 := by unfold misK; split <;> decide
theorem NE.next {c : Int} {t : Tok} {r : List Tok} (h : NE c (t :: r)) (ht : t.k ≠ 0) : NE c r := by
  rcases h with h | ⟨x, hx, h0⟩
  · exact .inl h
  · rcases List.mem_cons.1 hx with rfl | hx
    · exact absurd h0 ht
    · exact .inr ⟨x, hx, h0⟩
theorem NE.nil {c : Int} (h : NE c []) : c ≠ 0 := by
  rcases h with h | ⟨x, hx, _⟩
  · exact h
  · cases hx
theorem take_bd {c f : Int} {ks : List Int} {R : List Tok} (h : NE c R) (h0 : (0 : Int) ∉ ks) : Bd c (takeP c f ks R) := by
  match R, h with
  | [], h => exact h.nil
  | t :: r, h =>
    simp only [takeP]
    by_cases hm : t.k ∈ ks
    · rw [if_pos hm]; exact h.next (fun e => h0 (e ▸ hm))
    · rw [if_neg hm]; exact misK_ne _
theorem take_bd0 {c f ec eo : Int} {ks : List Int} {R : List Tok} (h : NE c R) (hT : takeP c f ks R = .bad ec eo) : ec ≠ 0 := by
  match R, h, hT with
  | [], h, hT => simp only [takeP] at hT; injection hT with e1 e2; subst e1; exact h.nil
  | t :: r, h, hT =>
    simp only [takeP] at hT
    by_cases hm : t.k ∈ ks
    · rw [if_pos hm] at hT; cases hT
    · rw [if_neg hm] at hT; injection hT with e1 e2; subst e1; exact misK_ne _
theorem bd_bad {α : Type} {c ec eo : Int} {x : PR α} (h : Bd c x) (e : x = .bad ec eo) : ec ≠ 0 := by subst e; exact h
theorem bd_ok {α : Type} {c : Int} {x : PR α} {a : α} {r : List Tok} (h : Bd c x) (e : x = .ok a r) : NE c r := by subst e; exact h
theorem args_bd {c f : Int} {ks : List Int} (h0 : (0 : Int) ∉ ks) : ∀ (n : Nat) (acc : List Trm) (R : List Tok), R.length = n → NE c R → Bd c (argsP c f ks acc R) := by
  intro n
  induction n using Nat.strongRecOn with
  | ind n ih =>
    intro acc R hn h
    have b1 := take_bd (f := f) h h0
    cases hT : takeP c f ks R with
    | bad ec eo => rw [args_bad1 hT]; exact bd_bad b1 hT
    | ok t r1 =>
      have l1 := take_len hT
      by_cases h8 : acc.length = 8
      · rw [args_lim hT h8]; show (22 : Int) ≠ 0; decide
      · rw [args_next hT h8]
        have b2 := take_bd (f := f) (ks := [7, 6]) (bd_ok b1 hT) (by decide)
        cases hU : takeP c f [7, 6] r1 with
        | bad ec eo => exact bd_bad b2 hU
        | ok s r2 =>
          have l2 := take_len hU
          simp only
          by_cases h7 : s.k = 7
          · rw [if_pos h7]; exact ih r2.length (by omega) _ r2 rfl (bd_ok b2 hU)
          · rw [if_neg h7]; exact bd_ok b2 hU
theorem atom_bd {c f : Int} {ks : List Int} (h0 : (0 : Int) ∉ ks) {name : Tok} {R : List Tok} (h : NE c R) : Bd c (atomP c f ks name R) := by
  match R, h with
  | [], h => exact h.nil
  | t :: r1, h =>
    unfold atomP
    simp only
    by_cases h5 : t.k = 5
    · rw [if_pos h5]
      have b := args_bd (f := f) h0 _ [] r1 rfl (h.next (by omega))
      cases hA : argsP c f ks [] r1 with
      | bad ec eo => exact bd_bad b hA
      | ok ts r2 => exact bd_ok b hA
    · rw [if_neg h5]; exact h
theorem lit_bd {c f : Int} {first : Tok} {R : List Tok} (h : NE c R) : Bd c (litP c f first R) := by
  have test : Bd c (match takeP c f [11] R with
      | .bad c o => PR.bad c o
      | .ok o1 r' => match takeP c f termKs r' with
        | .bad c o => .bad c o
        | .ok t2 r'' => .ok (⟨3, zeroAtom, o1.op, termP first, termP t2, first.off⟩ : PLit) r'') := by
    have b1 := take_bd (f := f) (ks := [11]) h (by decide)
    cases hT : takeP c f [11] R with
    | bad ec eo => exact bd_bad b1 hT
    | ok o1 r1 =>
      simp only
      have b2 := take_bd (f := f) (ks := termKs) (bd_ok b1 hT) (by decide)
      cases hU : takeP c f termKs r1 with
      | bad ec eo => exact bd_bad b2 hU
      | ok t2 r2 => exact bd_ok b2 hU
  unfold litP
  by_cases h10 : first.k = 10
  · rw [if_pos h10]
    have b1 := take_bd (f := f) (ks := [1]) h (by decide)
    cases hT : takeP c f [1] R with
    | bad ec eo => exact bd_bad b1 hT
    | ok n r1 =>
      simp only
      have b2 := atom_bd (f := f) (ks := termKs) (by decide) (name := n) (bd_ok b1 hT)
      cases hA : atomP c f termKs n r1 with
      | bad ec eo => exact bd_bad b2 hA
      | ok a r2 => exact bd_ok b2 hA
  · rw [if_neg h10]
    simp only
    by_cases h1 : first.k = 1
    · rw [if_pos h1]
      cases R with
      | nil => exact h.nil
      | cons t r1 =>
        simp only
        by_cases h11 : t.k = 11
        · rw [if_pos h11]; exact test
        · rw [if_neg h11]
          have b2 := atom_bd (f := f) (ks := termKs) (by decide) (name := first) h
          cases hA : atomP c f termKs first (t :: r1) with
          | bad ec eo => exact bd_bad b2 hA
          | ok a r2 => exact bd_ok b2 hA
    · rw [if_neg h1]; exact test
theorem body_bd {c f : Int} : ∀ (n : Nat) (acc : List PLit) (R : List Tok), R.length < n → NE c R → Bd c (bodyF c f n acc R) := by
  intro n
  induction n with
  | zero => intro acc R hn; omega
  | succ n ih =>
    intro acc R hn h
    have b1 := take_bd (f := f) (ks := [1, 10, 2, 3, 4]) h (by decide)
    cases hT : takeP c f [1, 10, 2, 3, 4] R with
    | bad ec eo => rw [body_bad1 hT]; exact bd_bad b1 hT
    | ok t r1 =>
      have l1 := take_len hT
      by_cases h16 : acc.length = 16
      · rw [body_lim hT h16]; show (23 : Int) ≠ 0; decide
      · have b2 := lit_bd (f := f) (first := t) (bd_ok b1 hT)
        cases hL : litP c f t r1 with
        | bad ec eo => rw [body_lit hT h16 hL]; exact bd_bad b2 hL
        | ok x r2 =>
          have l2 := lit_len hL
          have b3 := take_bd (f := f) (ks := [7, 8]) (bd_ok b2 hL) (by decide)
          cases hU : takeP c f [7, 8] r2 with
          | bad ec eo => rw [body_sep hT h16 hL hU]; exact bd_bad b3 hU
          | ok s r3 =>
            have l3 := take_len hU
            by_cases h8 : s.k = 8
            · rw [body_end hT h16 hL hU h8]; exact bd_ok b3 hU
            · rw [body_more hT h16 hL hU h8]; exact ih _ _ (by omega) (bd_ok b3 hU)
theorem clause_bd {c f : Int} {name : Tok} {R : List Tok} (h : NE c R) : Bd c (clauseP c f name R) := by
  unfold clauseP
  have b1 := atom_bd (f := f) (ks := termKs) (by decide) (name := name) h
  cases hA : atomP c f termKs name R with
  | bad ec eo => exact bd_bad b1 hA
  | ok a r1 =>
    simp only
    have b2 := take_bd (f := f) (ks := [8, 9]) (bd_ok b1 hA) (by decide)
    cases hT : takeP c f [8, 9] r1 with
    | bad ec eo => exact bd_bad b2 hT
    | ok s r2 =>
      simp only
      by_cases h9 : s.k = 9
      · rw [if_pos h9]
        have b3 := body_bd (f := f) (r2.length + 1) [] r2 (by omega) (bd_ok b2 hT)
        cases hB : bodyP c f r2 with
        | bad ec eo => exact bd_bad b3 hB
        | ok b r3 => exact bd_ok b3 hB
      · rw [if_neg h9]; exact bd_ok b2 hT
theorem prog_ne {c f ec eo : Int} : ∀ (n : Nat) (acc : List PCls) (R : List Tok), R.length < n → NE c R → progF c f n acc R = .bad ec eo → ec ≠ 0 := by
  intro n
  induction n with
  | zero => intro acc R hn; omega
  | succ n ih =>
    intro acc R hn h he
    cases hT : takeP c f [1, 0] R with
    | bad e1 e2 => rw [prog_bad1 hT] at he; injection he with q1 q2; subst q1; exact take_bd0 h hT
    | ok t r1 =>
      have l1 := take_len hT
      by_cases h0 : t.k = 0
      · rw [prog_end hT h0] at he; cases he
      · have n1 : NE c r1 := by rw [(take_eq hT).1] at h; exact h.next h0
        by_cases h5 : acc.length = 512
        · rw [prog_lim hT h0 h5] at he; injection he with q1 q2; subst q1; decide
        · have b := clause_bd (f := f) (name := t) n1
          cases hC : clauseP c f t r1 with
          | bad e1 e2 => rw [prog_cls hT h0 h5 hC] at he; injection he with q1 q2; subst q1; exact bd_bad b hC
          | ok x r2 =>
            have l2 := clause_len hC
            rw [prog_more hT h0 h5 hC] at he
            exact ih _ _ (by omega) (bd_ok b hC) he
theorem facts_ne {c f ec eo : Int} : ∀ (n : Nat) (acc : List PAtom) (R : List Tok), R.length < n → NE c R → factsF c f n acc R = .bad ec eo → ec ≠ 0 := by
  intro n
  induction n with
  | zero => intro acc R hn; omega
  | succ n ih =>
    intro acc R hn h he
    cases hT : takeP c f [1, 0] R with
    | bad e1 e2 => rw [facts_bad1 hT] at he; injection he with q1 q2; subst q1; exact take_bd0 h hT
    | ok t r1 =>
      have l1 := take_len hT
      by_cases h0 : t.k = 0
      · rw [facts_end hT h0] at he; cases he
      · have n1 : NE c r1 := by rw [(take_eq hT).1] at h; exact h.next h0
        by_cases h5 : acc.length = 4096
        · rw [facts_lim hT h0 h5] at he; injection he with q1 q2; subst q1; decide
        · have b := atom_bd (f := f) (ks := valueKs) (by decide) (name := t) n1
          cases hC : atomP c f valueKs t r1 with
          | bad e1 e2 => rw [facts_atom hT h0 h5 hC] at he; injection he with q1 q2; subst q1; exact bd_bad b hC
          | ok x r2 =>
            have l2 := atom_len hC
            have b2 := take_bd (f := f) (ks := [8]) (bd_ok b hC) (by decide)
            cases hD : takeP c f [8] r2 with
            | bad e1 e2 => rw [facts_dot hT h0 h5 hC hD] at he; injection he with q1 q2; subst q1; exact bd_bad b2 hD
            | ok s r3 =>
              have l3 := take_len hD
              rw [facts_more hT h0 h5 hC hD] at he
              exact ih _ _ (by omega) (bd_ok b2 hD) he
theorem toks_ne {s : ByteArray} {o : Nat} {L : List Tok} {c : Int} {f : Nat} (h : Toks s o L c f) : NE c L := by
  induction h with
  | bad ho hx => rcases next_bad hx with h | h <;> exact .inl (by omega)
  | last ho hx hk => exact .inr ⟨_, List.mem_singleton.2 rfl, hk⟩
  | more ho hx hk T ih =>
    rcases ih with h | ⟨x, hx, h0⟩
    · exact .inl h
    · exact .inr ⟨x, List.mem_cons_of_mem _ hx, h0⟩
theorem scan_ne (s : ByteArray) : NE (scanX s).2.1 (scanX s).1 := by
  by_cases hs : s.size ≤ 65536
  · exact toks_ne (scan_toks s hs)
  · have e : scanX s = ([], 1, 0) := if_pos (by omega)
    rw [e]; exact .inl (by decide)
end Go.Proofs.YtfbmddgjbmapiaaDoor

namespace Go.Proofs.YtfbmddgjbmapiaaDoor
set_option linter.unusedSimpArgs false
set_option linter.unusedVariables false
open Go.RowKit

theorem fq_zero (w : World) : (binOp .eql 27 (.agg #[.int .i64 0, .int .i64 0, .int .i64 0]) (.agg #[.int .i64 0, .int .i64 0, .int .i64 0])).run Tryd.prog w = .ok (.bool true) w := by
  have h1 := run_equalIn_struct (P := Tryd.prog) w 9999 27 #[.int .i64 0, .int .i64 0, .int .i64 0] #[.int .i64 0, .int .i64 0, .int .i64 0] (by kernel_rfl) (by kernel_rfl)
  simp only [binOp]
  simp only [Op.equal, Op.maxDepth, Sem.run_bind]
  go_simp
theorem fq_bad (c o : Int) (h : c ≠ 0) (w : World) : (binOp .eql 27 (.agg #[.int .i64 c, .int .i64 0, .int .i64 o]) (.agg #[.int .i64 0, .int .i64 0, .int .i64 0])).run Tryd.prog w = .ok (.bool false) w := by
  have hc : (c == 0) = false := by simpa using h
  have h1 := run_equalIn_struct (P := Tryd.prog) w 9999 27 #[.int .i64 c, .int .i64 0, .int .i64 o] #[.int .i64 0, .int .i64 0, .int .i64 0] (by kernel_rfl) (by kernel_rfl)
  simp only [binOp]
  simp only [Op.equal, Op.maxDepth, Sem.run_bind]
  go_simp
theorem nx_first (w : World) (x y : Obj) : ((w.alloc x).alloc y).heap[w.heap.size]? = some x := by
  rw [(belowA (w.alloc x) y).block _ (by simp)]; exact heap_alloc_new w _
theorem nx_second (w : World) (x y : Obj) : ((w.alloc x).alloc y).heap[w.heap.size + 1]? = some y := by
  have := heap_alloc_new (w.alloc x) y
  simpa using this
theorem bx_kept {W W' : World} {b : Nat} {x : Obj} (h : W.heap[b]? = some x) (hb : Below W.heap.size W W') : W'.heap[b]? = some x := by
  rw [hb.block _ (Array.getElem?_eq_some_iff.1 h).1]; exact h
theorem fq_cells {V : World} {b : Nat} {u0 u1 u2 : Value} (h : V.heap[b]? = some (.cells #[u0, u1, u2] 27 (0, 0))) : V.cell? ⟨b, 0, none⟩ = some u0 ∧ V.cell? ⟨b, 1, none⟩ = some u1 ∧ V.cell? ⟨b, 2, none⟩ = some u2 := by
  refine ⟨?_, ?_, ?_⟩ <;> simp [World.cell?, h]
theorem query_ne {s : ByteArray} {x o : Int} (h : queryP (scanX s).2.1 ((scanX s).2.2 : Int) (scanX s).1 = .bad x o) : x ≠ 0 := by
  unfold queryP bodyP at h
  have hb := body_bd (c := (scanX s).2.1) (f := ((scanX s).2.2 : Int)) ((scanX s).1.length + 1) [] (scanX s).1 (by omega) (scan_ne s)
  cases hB : bodyF (scanX s).2.1 ((scanX s).2.2 : Int) ((scanX s).1.length + 1) [] (scanX s).1 with
  | bad a b => rw [hB] at h; cases h; exact bd_bad hb hB
  | ok b r =>
    rw [hB] at h
    simp only at h
    cases hT : takeP (scanX s).2.1 ((scanX s).2.2 : Int) [0] r with
    | bad a c => rw [hT] at h; cases h; exact take_bd0 (bd_ok hb hB) hT
    | ok t q => rw [hT] at h; cases h
theorem fact_ne {s : ByteArray} {x o : Int} (h : factP (scanX s).2.1 ((scanX s).2.2 : Int) (scanX s).1 = .bad x o) : x ≠ 0 := by
  unfold factP at h
  have hb := take_bd (c := (scanX s).2.1) (f := ((scanX s).2.2 : Int)) (ks := [1]) (scan_ne s) (by decide)
  cases hA : takeP (scanX s).2.1 ((scanX s).2.2 : Int) [1] (scanX s).1 with
  | bad a b => rw [hA] at h; cases h; exact bd_bad hb hA
  | ok t r =>
    rw [hA] at h
    simp only at h
    have hc := atom_bd (c := (scanX s).2.1) (f := ((scanX s).2.2 : Int)) (ks := valueKs) (by decide) (name := t) (bd_ok hb hA)
    cases hB : atomP (scanX s).2.1 ((scanX s).2.2 : Int) valueKs t r with
    | bad a b => rw [hB] at h; cases h; exact bd_bad hc hB
    | ok a r1 =>
      rw [hB] at h
      simp only at h
      cases hT : takeP (scanX s).2.1 ((scanX s).2.2 : Int) [0] r1 with
      | bad a c => rw [hT] at h; cases h; exact take_bd0 (bd_ok hc hB) hT
      | ok t q => rw [hT] at h; cases h
end Go.Proofs.YtfbmddgjbmapiaaDoor

namespace Go.Proofs.YtfbmddgjbmapiaaDoor
set_option linter.unusedSimpArgs false
set_option linter.unusedVariables false
open Go.RowKit

theorem fe_same (x o : Int) (w : World) : (binOp .eql 27 (.agg #[.int .i64 x, .int .i64 0, .int .i64 o]) (.agg #[.int .i64 x, .int .i64 0, .int .i64 o])).run Tryd.prog w = .ok (.bool true) w := by
  have h1 := run_equalIn_struct (P := Tryd.prog) w 9999 27 #[.int .i64 x, .int .i64 0, .int .i64 o] #[.int .i64 x, .int .i64 0, .int .i64 o] (by kernel_rfl) (by kernel_rfl)
  simp only [binOp]
  simp only [Op.equal, Op.maxDepth, Sem.run_bind]
  go_simp

set_option maxRecDepth 100000 in
set_option maxHeartbeats 800000 in
theorem limits0 (kd n : Int) (bad : Bool) (w : World) (hl : LexLaid w) (hk : modZ kd 6 = 0) :
    Calls Tryd.prog 4 #[.int .i64 kd, .int .i64 n, .bool bad] w fun e w' => e = .returned (.bool true) ∧ Below w.heap.size w w' := by
  have HM := hide (fun W => mod_6 kd W)
  rw [hk] at HM
  clear hk
  obtain ⟨m, hm, hlt⟩ := modZ_600 n
  have HN := hide (fun W => mod_600 n W)
  rw [hm] at HN
  clear hm
  have HL := hide (fun W => limit0 m (by omega) bad W)
  have HF : Hid (∀ s : ByteArray, s.size ≤ 65536 → Calls Tryd.prog 14 #[.int .i64 0, .string s] w fun e w' => e = .returned (.agg #[.int .i64 (fOf 0 s).1, .int .i64 0, .int .i64 (fOf 0 s).2]) ∧ Below w.heap.size w w') := fun s hs => faultOf_any 0 (by decide) s w hl (by omega)
  clear hl
  have hsub : (1 + (m : Int)) - 1 = (m : Int) := by omega
  have hz := fq_zero
  go_enter Tryd.func4, Tryd.ntmps4
  go_upto_region 19 with (first
    | (go_at_call 12; (with_reducible refine (HM.out _).mono ?_); rintro e w1 ⟨rfl, hw⟩; have hw := hw.symm; subst hw)
    | (go_at_call 12; (with_reducible refine (HN.out _).mono ?_); rintro e w1 ⟨rfl, hw⟩; have hw := hw.symm; subst hw)
    | (go_at_call 13; refine (HL.out _).mono ?_; rintro e w1 ⟨s, rfl, HS, hw⟩; have hw := hw.symm; subst hw)
    | (go_at_call 14; refine (HF.out s HS.out.2).mono ?_; rintro e w2 ⟨rfl, hb2⟩; have HB2 := hide hb2; clear hb2))
  have HR := hide (lim0 (s := s) (m := m) (bad := bad) (by have h := HS.out.1; unfold rest; rw [List.drop_zero]; exact h) HS.out.2)
  obtain ⟨x, hx⟩ : ∃ x, (fOf 0 s).1 = x := ⟨_, rfl⟩
  obtain ⟨y, hy⟩ : ∃ y, (fOf 0 s).2 = y := ⟨_, rfl⟩
  rw [hx, hy]
  obtain ⟨Y, hY⟩ : ∃ Y, Y = w2.alloc (.cells #[.int .i64 x, .int .i64 0, .int .i64 y] 27) := ⟨_, rfl⟩
  have HBY : Hid (Below w.heap.size w Y) := by rw [hY]; exact belowt2 HB2.out (belowA _ _)
  have hb : Y.heap[w2.heap.size]? = some (.cells #[.int .i64 x, .int .i64 0, .int .i64 y] 27 (0, 0)) := by rw [hY]; exact heap_alloc_new w2 _
  obtain ⟨c0, c1, c2⟩ := fq_cells hb
  rw [← hY]
  clear hY hb HM HN HL HF HB2
  have HXY : Hid (∀ u v, fOf 0 s = (u, v) → x = u ∧ y = v) := fun u v h => ⟨by rw [← hx, h], by rw [← hy, h]⟩
  clear hx hy
  cases bad with
  | false =>
    by_cases ho : 512 ≤ m
    · obtain ⟨rfl, rfl⟩ := HXY.out _ _ (HR.out.1 ho (fun h => by cases h))
      have hg : (512 : Int) < 1 + (m : Int) := by omega
      have he := fe_same 24 1024
      go_wp2
      go_ret
      exact ⟨rfl, HBY.out⟩
    · obtain ⟨rfl, rfl⟩ := HXY.out _ _ (HR.out.2.2 rfl (by omega))
      have hg : ¬ (512 : Int) < 1 + (m : Int) := by omega
      go_wp2
      go_ret
      exact ⟨rfl, HBY.out⟩
  | true =>
    by_cases ho : 512 < m
    · obtain ⟨rfl, rfl⟩ := HXY.out _ _ (HR.out.1 (by omega) (fun _ => ho))
      have hg : (512 : Int) < 1 + (m : Int) := by omega
      have hg2 : (513 : Int) < 1 + (m : Int) := by omega
      have he := fe_same 24 1024
      go_wp2
      go_ret
      exact ⟨rfl, HBY.out⟩
    · obtain ⟨hx, hy⟩ := HXY.out _ _ (HR.out.2.1 rfl (by omega))
      have hy2 : y = (2 * (m : Int)) := by rw [hy]; omega
      rw [hx] at c0
      rw [hy2] at c2
      clear hx hy hy2
      have he := fe_same 20 (2 * (m : Int))
      have hg2 : ¬ (513 : Int) < 1 + (m : Int) := by omega
      by_cases ho2 : m = 512
      · have hg : (512 : Int) < 1 + (m : Int) := by omega
        go_wp2
        go_ret
        exact ⟨rfl, HBY.out⟩
      · have hg : ¬ (512 : Int) < 1 + (m : Int) := by omega
        go_wp2
        go_ret
        exact ⟨rfl, HBY.out⟩

set_option maxRecDepth 100000 in
set_option maxHeartbeats 800000 in
theorem limits1 (kd n : Int) (bad : Bool) (w : World) (hl : LexLaid w) (hk : modZ kd 6 = 1) :
    Calls Tryd.prog 4 #[.int .i64 kd, .int .i64 n, .bool bad] w fun e w' => e = .returned (.bool true) ∧ Below w.heap.size w w' := by
  have HM := hide (fun W => mod_6 kd W)
  rw [hk] at HM
  clear hk
  obtain ⟨m, hm, hlt⟩ := modZ_4200 n
  have HN := hide (fun W => mod_4200 n W)
  rw [hm] at HN
  clear hm
  have HL := hide (fun W => limit1 m (by omega) bad W)
  have HF : Hid (∀ s : ByteArray, s.size ≤ 65536 → Calls Tryd.prog 14 #[.int .i64 1, .string s] w fun e w' => e = .returned (.agg #[.int .i64 (fOf 1 s).1, .int .i64 0, .int .i64 (fOf 1 s).2]) ∧ Below w.heap.size w w') := fun s hs => faultOf_any 1 (by decide) s w hl (by omega)
  clear hl
  have hsub : (1 + (m : Int)) - 1 = (m : Int) := by omega
  have hz := fq_zero
  go_enter Tryd.func4, Tryd.ntmps4
  go_upto_region 19 with (first
    | (go_at_call 12; (with_reducible refine (HM.out _).mono ?_); rintro e w1 ⟨rfl, hw⟩; have hw := hw.symm; subst hw)
    | (go_at_call 12; (with_reducible refine (HN.out _).mono ?_); rintro e w1 ⟨rfl, hw⟩; have hw := hw.symm; subst hw)
    | (go_at_call 13; refine (HL.out _).mono ?_; rintro e w1 ⟨s, rfl, HS, hw⟩; have hw := hw.symm; subst hw)
    | (go_at_call 14; refine (HF.out s HS.out.2).mono ?_; rintro e w2 ⟨rfl, hb2⟩; have HB2 := hide hb2; clear hb2))
  have HR := hide (lim1 (s := s) (m := m) (bad := bad) (by have h := HS.out.1; unfold rest; rw [List.drop_zero]; exact h) HS.out.2)
  obtain ⟨x, hx⟩ : ∃ x, (fOf 1 s).1 = x := ⟨_, rfl⟩
  obtain ⟨y, hy⟩ : ∃ y, (fOf 1 s).2 = y := ⟨_, rfl⟩
  rw [hx, hy]
  obtain ⟨Y, hY⟩ : ∃ Y, Y = w2.alloc (.cells #[.int .i64 x, .int .i64 0, .int .i64 y] 27) := ⟨_, rfl⟩
  have HBY : Hid (Below w.heap.size w Y) := by rw [hY]; exact belowt2 HB2.out (belowA _ _)
  have hb : Y.heap[w2.heap.size]? = some (.cells #[.int .i64 x, .int .i64 0, .int .i64 y] 27 (0, 0)) := by rw [hY]; exact heap_alloc_new w2 _
  obtain ⟨c0, c1, c2⟩ := fq_cells hb
  rw [← hY]
  clear hY hb HM HN HL HF HB2
  have HXY : Hid (∀ u v, fOf 1 s = (u, v) → x = u ∧ y = v) := fun u v h => ⟨by rw [← hx, h], by rw [← hy, h]⟩
  clear hx hy
  cases bad with
  | false =>
    by_cases ho : 4096 ≤ m
    · obtain ⟨rfl, rfl⟩ := HXY.out _ _ (HR.out.1 ho (fun h => by cases h))
      have hg : (4096 : Int) < 1 + (m : Int) := by omega
      have he := fe_same 24 8192
      go_wp2
      go_ret
      exact ⟨rfl, HBY.out⟩
    · obtain ⟨rfl, rfl⟩ := HXY.out _ _ (HR.out.2.2 rfl (by omega))
      have hg : ¬ (4096 : Int) < 1 + (m : Int) := by omega
      go_wp2
      go_ret
      exact ⟨rfl, HBY.out⟩
  | true =>
    by_cases ho : 4096 < m
    · obtain ⟨rfl, rfl⟩ := HXY.out _ _ (HR.out.1 (by omega) (fun _ => ho))
      have hg : (4096 : Int) < 1 + (m : Int) := by omega
      have hg2 : (4097 : Int) < 1 + (m : Int) := by omega
      have he := fe_same 24 8192
      go_wp2
      go_ret
      exact ⟨rfl, HBY.out⟩
    · obtain ⟨hx, hy⟩ := HXY.out _ _ (HR.out.2.1 rfl (by omega))
      have hy2 : y = (2 * (m : Int)) := by rw [hy]; omega
      rw [hx] at c0
      rw [hy2] at c2
      clear hx hy hy2
      have he := fe_same 20 (2 * (m : Int))
      have hg2 : ¬ (4097 : Int) < 1 + (m : Int) := by omega
      by_cases ho2 : m = 4096
      · have hg : (4096 : Int) < 1 + (m : Int) := by omega
        go_wp2
        go_ret
        exact ⟨rfl, HBY.out⟩
      · have hg : ¬ (4096 : Int) < 1 + (m : Int) := by omega
        go_wp2
        go_ret
        exact ⟨rfl, HBY.out⟩

set_option maxRecDepth 100000 in
set_option maxHeartbeats 800000 in
theorem limits2 (kd n : Int) (bad : Bool) (w : World) (hl : LexLaid w) (hk : modZ kd 6 = 2) :
    Calls Tryd.prog 4 #[.int .i64 kd, .int .i64 n, .bool bad] w fun e w' => e = .returned (.bool true) ∧ Below w.heap.size w w' := by
  have HM := hide (fun W => mod_6 kd W)
  rw [hk] at HM
  clear hk
  obtain ⟨m, hm, hlt⟩ := modZ_40 n
  have HN := hide (fun W => mod_40 n W)
  rw [hm] at HN
  clear hm
  have HL := hide (fun W => limit2 m (by omega) bad W)
  have HF : Hid (∀ s : ByteArray, s.size ≤ 65536 → Calls Tryd.prog 14 #[.int .i64 0, .string s] w fun e w' => e = .returned (.agg #[.int .i64 (fOf 0 s).1, .int .i64 0, .int .i64 (fOf 0 s).2]) ∧ Below w.heap.size w w') := fun s hs => faultOf_any 0 (by decide) s w hl (by omega)
  clear hl
  have hsub : (1 + (m : Int)) - 1 = (m : Int) := by omega
  have hz := fq_zero
  go_enter Tryd.func4, Tryd.ntmps4
  go_upto_region 19 with (first
    | (go_at_call 12; (with_reducible refine (HM.out _).mono ?_); rintro e w1 ⟨rfl, hw⟩; have hw := hw.symm; subst hw)
    | (go_at_call 12; (with_reducible refine (HN.out _).mono ?_); rintro e w1 ⟨rfl, hw⟩; have hw := hw.symm; subst hw)
    | (go_at_call 13; refine (HL.out _).mono ?_; rintro e w1 ⟨s, rfl, HS, hw⟩; have hw := hw.symm; subst hw)
    | (go_at_call 14; refine (HF.out s HS.out.2).mono ?_; rintro e w2 ⟨rfl, hb2⟩; have HB2 := hide hb2; clear hb2))
  have HR := hide (lim2 (s := s) (m := m) (bad := bad) (by have h := HS.out.1; unfold rest; rw [List.drop_zero]; exact h) HS.out.2)
  obtain ⟨x, hx⟩ : ∃ x, (fOf 0 s).1 = x := ⟨_, rfl⟩
  obtain ⟨y, hy⟩ : ∃ y, (fOf 0 s).2 = y := ⟨_, rfl⟩
  rw [hx, hy]
  obtain ⟨Y, hY⟩ : ∃ Y, Y = w2.alloc (.cells #[.int .i64 x, .int .i64 0, .int .i64 y] 27) := ⟨_, rfl⟩
  have HBY : Hid (Below w.heap.size w Y) := by rw [hY]; exact belowt2 HB2.out (belowA _ _)
  have hb : Y.heap[w2.heap.size]? = some (.cells #[.int .i64 x, .int .i64 0, .int .i64 y] 27 (0, 0)) := by rw [hY]; exact heap_alloc_new w2 _
  obtain ⟨c0, c1, c2⟩ := fq_cells hb
  rw [← hY]
  clear hY hb HM HN HL HF HB2
  have HXY : Hid (∀ u v, fOf 0 s = (u, v) → x = u ∧ y = v) := fun u v h => ⟨by rw [← hx, h], by rw [← hy, h]⟩
  clear hx hy
  cases bad with
  | false =>
    by_cases ho : 16 ≤ m
    · obtain ⟨rfl, rfl⟩ := HXY.out _ _ (HR.out.1 ho (fun h => by cases h))
      have hg : (16 : Int) < 1 + (m : Int) := by omega
      have he := fe_same 23 67
      go_wp2
      go_ret
      exact ⟨rfl, HBY.out⟩
    · obtain ⟨rfl, rfl⟩ := HXY.out _ _ (HR.out.2.2 rfl (by omega))
      have hg : ¬ (16 : Int) < 1 + (m : Int) := by omega
      go_wp2
      go_ret
      exact ⟨rfl, HBY.out⟩
  | true =>
    by_cases ho : 16 < m
    · obtain ⟨rfl, rfl⟩ := HXY.out _ _ (HR.out.1 (by omega) (fun _ => ho))
      have hg : (16 : Int) < 1 + (m : Int) := by omega
      have hg2 : (17 : Int) < 1 + (m : Int) := by omega
      have he := fe_same 23 67
      go_wp2
      go_ret
      exact ⟨rfl, HBY.out⟩
    · obtain ⟨hx, hy⟩ := HXY.out _ _ (HR.out.2.1 rfl (by omega))
      have hy2 : y = (3 + 4 * (m : Int)) := by rw [hy]; omega
      rw [hx] at c0
      rw [hy2] at c2
      clear hx hy hy2
      have he := fe_same 20 (3 + 4 * (m : Int))
      have hg2 : ¬ (17 : Int) < 1 + (m : Int) := by omega
      by_cases ho2 : m = 16
      · have hg : (16 : Int) < 1 + (m : Int) := by omega
        go_wp2
        go_ret
        exact ⟨rfl, HBY.out⟩
      · have hg : ¬ (16 : Int) < 1 + (m : Int) := by omega
        go_wp2
        go_ret
        exact ⟨rfl, HBY.out⟩

set_option maxRecDepth 100000 in
set_option maxHeartbeats 800000 in
theorem limits3 (kd n : Int) (bad : Bool) (w : World) (hl : LexLaid w) (hk : modZ kd 6 = 3) :
    Calls Tryd.prog 4 #[.int .i64 kd, .int .i64 n, .bool bad] w fun e w' => e = .returned (.bool true) ∧ Below w.heap.size w w' := by
  have HM := hide (fun W => mod_6 kd W)
  rw [hk] at HM
  clear hk
  obtain ⟨m, hm, hlt⟩ := modZ_40 n
  have HN := hide (fun W => mod_40 n W)
  rw [hm] at HN
  clear hm
  have HL := hide (fun W => limit3 m (by omega) bad W)
  have HF : Hid (∀ s : ByteArray, s.size ≤ 65536 → Calls Tryd.prog 14 #[.int .i64 2, .string s] w fun e w' => e = .returned (.agg #[.int .i64 (fOf 2 s).1, .int .i64 0, .int .i64 (fOf 2 s).2]) ∧ Below w.heap.size w w') := fun s hs => faultOf_any 2 (by decide) s w hl (by omega)
  clear hl
  have hsub : (1 + (m : Int)) - 1 = (m : Int) := by omega
  have hz := fq_zero
  go_enter Tryd.func4, Tryd.ntmps4
  go_upto_region 19 with (first
    | (go_at_call 12; (with_reducible refine (HM.out _).mono ?_); rintro e w1 ⟨rfl, hw⟩; have hw := hw.symm; subst hw)
    | (go_at_call 12; (with_reducible refine (HN.out _).mono ?_); rintro e w1 ⟨rfl, hw⟩; have hw := hw.symm; subst hw)
    | (go_at_call 13; refine (HL.out _).mono ?_; rintro e w1 ⟨s, rfl, HS, hw⟩; have hw := hw.symm; subst hw)
    | (go_at_call 14; refine (HF.out s HS.out.2).mono ?_; rintro e w2 ⟨rfl, hb2⟩; have HB2 := hide hb2; clear hb2))
  have HR := hide (lim3 (s := s) (m := m) (bad := bad) (by have h := HS.out.1; unfold rest; rw [List.drop_zero]; exact h) HS.out.2)
  obtain ⟨x, hx⟩ : ∃ x, (fOf 2 s).1 = x := ⟨_, rfl⟩
  obtain ⟨y, hy⟩ : ∃ y, (fOf 2 s).2 = y := ⟨_, rfl⟩
  rw [hx, hy]
  obtain ⟨Y, hY⟩ : ∃ Y, Y = w2.alloc (.cells #[.int .i64 x, .int .i64 0, .int .i64 y] 27) := ⟨_, rfl⟩
  have HBY : Hid (Below w.heap.size w Y) := by rw [hY]; exact belowt2 HB2.out (belowA _ _)
  have hb : Y.heap[w2.heap.size]? = some (.cells #[.int .i64 x, .int .i64 0, .int .i64 y] 27 (0, 0)) := by rw [hY]; exact heap_alloc_new w2 _
  obtain ⟨c0, c1, c2⟩ := fq_cells hb
  rw [← hY]
  clear hY hb HM HN HL HF HB2
  have HXY : Hid (∀ u v, fOf 2 s = (u, v) → x = u ∧ y = v) := fun u v h => ⟨by rw [← hx, h], by rw [← hy, h]⟩
  clear hx hy
  cases bad with
  | false =>
    by_cases ho : 16 ≤ m
    · obtain ⟨rfl, rfl⟩ := HXY.out _ _ (HR.out.1 ho (fun h => by cases h))
      have hg : (16 : Int) < 1 + (m : Int) := by omega
      have he := fe_same 23 64
      go_wp2
      go_ret
      exact ⟨rfl, HBY.out⟩
    · obtain ⟨rfl, rfl⟩ := HXY.out _ _ (HR.out.2.2 rfl (by omega))
      have hg : ¬ (16 : Int) < 1 + (m : Int) := by omega
      go_wp2
      go_ret
      exact ⟨rfl, HBY.out⟩
  | true =>
    by_cases ho : 16 < m
    · obtain ⟨rfl, rfl⟩ := HXY.out _ _ (HR.out.1 (by omega) (fun _ => ho))
      have hg : (16 : Int) < 1 + (m : Int) := by omega
      have hg2 : (17 : Int) < 1 + (m : Int) := by omega
      have he := fe_same 23 64
      go_wp2
      go_ret
      exact ⟨rfl, HBY.out⟩
    · obtain ⟨hx, hy⟩ := HXY.out _ _ (HR.out.2.1 rfl (by omega))
      have hy2 : y = (4 * (m : Int)) := by rw [hy]; omega
      rw [hx] at c0
      rw [hy2] at c2
      clear hx hy hy2
      have he := fe_same 20 (4 * (m : Int))
      have hg2 : ¬ (17 : Int) < 1 + (m : Int) := by omega
      by_cases ho2 : m = 16
      · have hg : (16 : Int) < 1 + (m : Int) := by omega
        go_wp2
        go_ret
        exact ⟨rfl, HBY.out⟩
      · have hg : ¬ (16 : Int) < 1 + (m : Int) := by omega
        go_wp2
        go_ret
        exact ⟨rfl, HBY.out⟩

set_option maxRecDepth 100000 in
set_option maxHeartbeats 800000 in
theorem limits4 (kd n : Int) (bad : Bool) (w : World) (hl : LexLaid w) (hk : modZ kd 6 = 4) :
    Calls Tryd.prog 4 #[.int .i64 kd, .int .i64 n, .bool bad] w fun e w' => e = .returned (.bool true) ∧ Below w.heap.size w w' := by
  have HM := hide (fun W => mod_6 kd W)
  rw [hk] at HM
  clear hk
  obtain ⟨m, hm, hlt⟩ := modZ_20 n
  have HN := hide (fun W => mod_20 n W)
  rw [hm] at HN
  clear hm
  have HL := hide (fun W => limit4 m (by omega) bad W)
  have HF : Hid (∀ s : ByteArray, s.size ≤ 65536 → Calls Tryd.prog 14 #[.int .i64 0, .string s] w fun e w' => e = .returned (.agg #[.int .i64 (fOf 0 s).1, .int .i64 0, .int .i64 (fOf 0 s).2]) ∧ Below w.heap.size w w') := fun s hs => faultOf_any 0 (by decide) s w hl (by omega)
  clear hl
  have hsub : (1 + (m : Int)) - 1 = (m : Int) := by omega
  have hz := fq_zero
  go_enter Tryd.func4, Tryd.ntmps4
  go_upto_region 19 with (first
    | (go_at_call 12; (with_reducible refine (HM.out _).mono ?_); rintro e w1 ⟨rfl, hw⟩; have hw := hw.symm; subst hw)
    | (go_at_call 12; (with_reducible refine (HN.out _).mono ?_); rintro e w1 ⟨rfl, hw⟩; have hw := hw.symm; subst hw)
    | (go_at_call 13; refine (HL.out _).mono ?_; rintro e w1 ⟨s, rfl, HS, hw⟩; have hw := hw.symm; subst hw)
    | (go_at_call 14; refine (HF.out s HS.out.2).mono ?_; rintro e w2 ⟨rfl, hb2⟩; have HB2 := hide hb2; clear hb2))
  have HR := hide (lim4 (s := s) (m := m) (bad := bad) (by have h := HS.out.1; unfold rest; rw [List.drop_zero]; exact h) HS.out.2)
  obtain ⟨x, hx⟩ : ∃ x, (fOf 0 s).1 = x := ⟨_, rfl⟩
  obtain ⟨y, hy⟩ : ∃ y, (fOf 0 s).2 = y := ⟨_, rfl⟩
  rw [hx, hy]
  obtain ⟨Y, hY⟩ : ∃ Y, Y = w2.alloc (.cells #[.int .i64 x, .int .i64 0, .int .i64 y] 27) := ⟨_, rfl⟩
  have HBY : Hid (Below w.heap.size w Y) := by rw [hY]; exact belowt2 HB2.out (belowA _ _)
  have hb : Y.heap[w2.heap.size]? = some (.cells #[.int .i64 x, .int .i64 0, .int .i64 y] 27 (0, 0)) := by rw [hY]; exact heap_alloc_new w2 _
  obtain ⟨c0, c1, c2⟩ := fq_cells hb
  rw [← hY]
  clear hY hb HM HN HL HF HB2
  have HXY : Hid (∀ u v, fOf 0 s = (u, v) → x = u ∧ y = v) := fun u v h => ⟨by rw [← hx, h], by rw [← hy, h]⟩
  clear hx hy
  cases bad with
  | false =>
    by_cases ho : 8 ≤ m
    · obtain ⟨rfl, rfl⟩ := HXY.out _ _ (HR.out.1 ho (fun h => by cases h))
      have hg : (8 : Int) < 1 + (m : Int) := by omega
      have he := fe_same 22 18
      go_wp2
      go_ret
      exact ⟨rfl, HBY.out⟩
    · obtain ⟨rfl, rfl⟩ := HXY.out _ _ (HR.out.2.2 rfl (by omega))
      have hg : ¬ (8 : Int) < 1 + (m : Int) := by omega
      go_wp2
      go_ret
      exact ⟨rfl, HBY.out⟩
  | true =>
    by_cases ho : 8 < m
    · obtain ⟨rfl, rfl⟩ := HXY.out _ _ (HR.out.1 (by omega) (fun _ => ho))
      have hg : (8 : Int) < 1 + (m : Int) := by omega
      have hg2 : (9 : Int) < 1 + (m : Int) := by omega
      have he := fe_same 22 18
      go_wp2
      go_ret
      exact ⟨rfl, HBY.out⟩
    · obtain ⟨hx, hy⟩ := HXY.out _ _ (HR.out.2.1 rfl (by omega))
      have hy2 : y = (2 + 2 * (m : Int)) := by rw [hy]; omega
      rw [hx] at c0
      rw [hy2] at c2
      clear hx hy hy2
      have he := fe_same 20 (2 + 2 * (m : Int))
      have hg2 : ¬ (9 : Int) < 1 + (m : Int) := by omega
      by_cases ho2 : m = 8
      · have hg : (8 : Int) < 1 + (m : Int) := by omega
        go_wp2
        go_ret
        exact ⟨rfl, HBY.out⟩
      · have hg : ¬ (8 : Int) < 1 + (m : Int) := by omega
        go_wp2
        go_ret
        exact ⟨rfl, HBY.out⟩

set_option maxRecDepth 100000 in
set_option maxHeartbeats 800000 in
theorem limits5 (kd n : Int) (bad : Bool) (w : World) (hl : LexLaid w) (hk : modZ kd 6 = 5) :
    Calls Tryd.prog 4 #[.int .i64 kd, .int .i64 n, .bool bad] w fun e w' => e = .returned (.bool true) ∧ Below w.heap.size w w' := by
  have HM := hide (fun W => mod_6 kd W)
  rw [hk] at HM
  clear hk
  obtain ⟨m, hm, hlt⟩ := modZ_20 n
  have HN := hide (fun W => mod_20 n W)
  rw [hm] at HN
  clear hm
  have HL := hide (fun W => limit5 m (by omega) bad W)
  have HF : Hid (∀ s : ByteArray, s.size ≤ 65536 → Calls Tryd.prog 14 #[.int .i64 3, .string s] w fun e w' => e = .returned (.agg #[.int .i64 (fOf 3 s).1, .int .i64 0, .int .i64 (fOf 3 s).2]) ∧ Below w.heap.size w w') := fun s hs => faultOf_any 3 (by decide) s w hl (by omega)
  clear hl
  have hsub : (1 + (m : Int)) - 1 = (m : Int) := by omega
  have hz := fq_zero
  go_enter Tryd.func4, Tryd.ntmps4
  go_upto_region 19 with (first
    | (go_at_call 12; (with_reducible refine (HM.out _).mono ?_); rintro e w1 ⟨rfl, hw⟩; have hw := hw.symm; subst hw)
    | (go_at_call 12; (with_reducible refine (HN.out _).mono ?_); rintro e w1 ⟨rfl, hw⟩; have hw := hw.symm; subst hw)
    | (go_at_call 13; refine (HL.out _).mono ?_; rintro e w1 ⟨s, rfl, HS, hw⟩; have hw := hw.symm; subst hw)
    | (go_at_call 14; refine (HF.out s HS.out.2).mono ?_; rintro e w2 ⟨rfl, hb2⟩; have HB2 := hide hb2; clear hb2))
  have HR := hide (lim5 (s := s) (m := m) (bad := bad) (by have h := HS.out.1; unfold rest; rw [List.drop_zero]; exact h) HS.out.2)
  obtain ⟨x, hx⟩ : ∃ x, (fOf 3 s).1 = x := ⟨_, rfl⟩
  obtain ⟨y, hy⟩ : ∃ y, (fOf 3 s).2 = y := ⟨_, rfl⟩
  rw [hx, hy]
  obtain ⟨Y, hY⟩ : ∃ Y, Y = w2.alloc (.cells #[.int .i64 x, .int .i64 0, .int .i64 y] 27) := ⟨_, rfl⟩
  have HBY : Hid (Below w.heap.size w Y) := by rw [hY]; exact belowt2 HB2.out (belowA _ _)
  have hb : Y.heap[w2.heap.size]? = some (.cells #[.int .i64 x, .int .i64 0, .int .i64 y] 27 (0, 0)) := by rw [hY]; exact heap_alloc_new w2 _
  obtain ⟨c0, c1, c2⟩ := fq_cells hb
  rw [← hY]
  clear hY hb HM HN HL HF HB2
  have HXY : Hid (∀ u v, fOf 3 s = (u, v) → x = u ∧ y = v) := fun u v h => ⟨by rw [← hx, h], by rw [← hy, h]⟩
  clear hx hy
  cases bad with
  | false =>
    by_cases ho : 8 ≤ m
    · obtain ⟨rfl, rfl⟩ := HXY.out _ _ (HR.out.1 ho (fun h => by cases h))
      have hg : (8 : Int) < 1 + (m : Int) := by omega
      have he := fe_same 22 18
      go_wp2
      go_ret
      exact ⟨rfl, HBY.out⟩
    · obtain ⟨rfl, rfl⟩ := HXY.out _ _ (HR.out.2.2 rfl (by omega))
      have hg : ¬ (8 : Int) < 1 + (m : Int) := by omega
      go_wp2
      go_ret
      exact ⟨rfl, HBY.out⟩
  | true =>
    by_cases ho : 8 < m
    · obtain ⟨rfl, rfl⟩ := HXY.out _ _ (HR.out.1 (by omega) (fun _ => ho))
      have hg : (8 : Int) < 1 + (m : Int) := by omega
      have hg2 : (9 : Int) < 1 + (m : Int) := by omega
      have he := fe_same 22 18
      go_wp2
      go_ret
      exact ⟨rfl, HBY.out⟩
    · obtain ⟨hx, hy⟩ := HXY.out _ _ (HR.out.2.1 rfl (by omega))
      have hy2 : y = (2 + 2 * (m : Int)) := by rw [hy]; omega
      rw [hx] at c0
      rw [hy2] at c2
      clear hx hy hy2
      have he := fe_same 20 (2 + 2 * (m : Int))
      have hg2 : ¬ (9 : Int) < 1 + (m : Int) := by omega
      by_cases ho2 : m = 8
      · have hg : (8 : Int) < 1 + (m : Int) := by omega
        go_wp2
        go_ret
        exact ⟨rfl, HBY.out⟩
      · have hg : ¬ (8 : Int) < 1 + (m : Int) := by omega
        go_wp2
        go_ret
        exact ⟨rfl, HBY.out⟩

theorem parseLimits_walk (kd n : Int) (bad : Bool) (w : World) (_ : -9223372036854775808 ≤ kd ∧ kd ≤ 9223372036854775807) (_ : -9223372036854775808 ≤ n ∧ n ≤ 9223372036854775807) (hl : LexLaid w) :
    Calls Tryd.prog 4 #[.int .i64 kd, .int .i64 n, .bool bad] w fun e w' => e = .returned (.bool true) ∧ Below w.heap.size w w' := by
  obtain ⟨k, hk, hlt⟩ := modZ_6 kd
  match k, hlt, hk with
  | 0, _, hk => exact limits0 kd n bad w hl hk
  | 1, _, hk => exact limits1 kd n bad w hl hk
  | 2, _, hk => exact limits2 kd n bad w hl hk
  | 3, _, hk => exact limits3 kd n bad w hl hk
  | 4, _, hk => exact limits4 kd n bad w hl hk
  | 5, _, hk => exact limits5 kd n bad w hl hk
end Go.Proofs.YtfbmddgjbmapiaaDoor
