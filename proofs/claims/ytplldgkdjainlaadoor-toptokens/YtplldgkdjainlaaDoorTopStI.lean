/- What stuckInt of edicttop answers where no number can stand. -/
import Derived.Test.YtplldgkdjainlaaDoorProg
import Derived.Test.YtplldgkdjainlaaDoorTopSpTok
import Derived.Test.YtplldgkdjainlaaDoorTopMax
namespace Go.Proofs.YtplldgkdjainlaaDoor
set_option linter.unusedSimpArgs false
set_option linter.unusedVariables false
open Go.RowKit

theorem allD_of {q : ByteArray} (h : ∀ (i : Nat) (hi : i < q.size), bDig (q[i].toNat : Int) = true) : AllD q.data.toList := fun b hb => by
  obtain ⟨i, hi⟩ := List.mem_iff_getElem?.1 hb
  have hlt : i < q.size := (List.getElem?_eq_some_iff.1 hi).1
  have h1 := tt_at q i hlt
  rw [hi] at h1
  have h2 := h i hlt
  rw [← Option.some.inj h1] at h2
  unfold bDig at h2
  simp only [Bool.and_eq_true, decide_eq_true_eq] at h2
  omega
theorem whole_not {q : ByteArray} (hp : ∀ v, Lib.parseIntB 64 q.data.toList ≠ .ok v) {e : Ending} (h : WholeAns q e) : ∃ v, e = .returned (.tuple #[.int .i64 v, .bool false]) := by
  obtain ⟨v', he, -⟩ := h
  have e1 : wholeOk q = false := by
    unfold wholeOk
    split
    · next u hu => exact absurd hu (hp u)
    · rfl
  exact ⟨v', by rw [he, e1]⟩

set_option maxRecDepth 100000 in
set_option maxHeartbeats 4000000 in
theorem stuckInt_bad (s : ByteArray) (o : Nat) (w : World) (hs : s.size ≤ 140737488351232) (ho : o < s.size) (hb : begB (s.extract o s.size) = true) (hp : ∀ v, Lib.parseIntB 64 (s.extract o (o + 1 + runC (rest s (o + 1)))).data.toList ≠ .ok v) :
    Calls Tryd.prog 17 #[.string s, .int .i64 o] w fun e w' => e = .returned (.agg #[.int .i64 13, .int .i64 0, .int .i64 o]) ∧ Below w.heap.size w w' := by
  have hr := (runC_iff (rest s (o + 1)) _).1 rfl
  rw [rest_len] at hr
  have hstop := runC_stop s (o + 1)
  obtain ⟨m, hm⟩ : ∃ m, m = o + 1 + runC (rest s (o + 1)) := ⟨_, rfl⟩
  rw [← hm] at hp
  have hword : ∀ j (h : j < s.size), o + 1 ≤ j → j < m → bWord (s[j].toNat : Int) = true := fun j h h1 h2 => by
    refine hr.2.1 (j - (o + 1)) s[j] (by omega) ?_
    unfold rest
    rw [List.getElem?_drop, show o + 1 + (j - (o + 1)) = j by omega, Array.getElem?_toList]
    exact Array.getElem?_eq_getElem h
  have hend : ∀ h : m < s.size, bWord (s[m].toNat : Int) = false := fun h => by
    have := hstop (by omega)
    simp only [← hm] at this
    exact this
  have hz : (s.extract o m).size = m - o := by rw [ByteArray.size_extract]; omega
  have HWh : Hid ((∀ j (h : j < s.size), o + 1 ≤ j → j < m → bDig (s[j].toNat : Int) = true) → ∀ W, Calls Tryd.prog 29 #[.string (s.extract o m)] W fun e w' => (∃ v, e = .returned (.tuple #[.int .i64 v, .bool false])) ∧ w' = W) := fun hd W => by
    obtain ⟨a1, a2⟩ := extract_get s o m 0 (by omega) (by omega)
    simp only [Nat.add_zero] at a2
    have hq : ∀ i (h : i < (s.extract o m).size), 1 ≤ i → bDig ((s.extract o m)[i].toNat : Int) = true := fun i h h1 => by
      obtain ⟨b1, b2⟩ := extract_get s o m i (by omega) (by omega)
      rw [b2]
      exact hd (o + i) (by omega) (by omega) (by omega)
    rw [beg_rest, rest_cons s o ho] at hb
    unfold begL at hb
    simp only [List.getElem?_cons_zero, Option.getD_some, Bool.or_eq_true, Bool.and_eq_true, beq_iff_eq, decide_eq_true_eq] at hb
    rcases hb with hb | ⟨h45, hb1, hb2⟩
    · have hD : AllD (s.extract o m).data.toList := allD_of fun i h => by
        rcases Nat.eq_zero_or_pos i with h0 | h0
        · subst h0; rw [a2]; exact hb
        · exact hq i h h0
      exact (whole_pos (s.extract o m) W (by omega) (by omega) hD).mono fun e w' ⟨x, y⟩ => ⟨whole_not hp x, y⟩
    · simp only [List.length_cons, List.getElem?_cons_succ] at hb1 hb2
      have hg1 : o + 1 < s.size := by rw [rest_len] at hb1; omega
      have hrun : 1 ≤ runC (rest s (o + 1)) := by
        rw [rest_cons s (o + 1) hg1] at hb2 ⊢
        simp only [List.getElem?_cons_zero, Option.getD_some] at hb2
        unfold runC
        rw [if_pos (by unfold bWord; rw [hb2]; simp)]
        omega
      have hzz : ((s.extract o m).extract 1 (s.extract o m).size).size = m - o - 1 := by rw [ByteArray.size_extract]; omega
      have hD : AllD ((s.extract o m).extract 1 (s.extract o m).size).data.toList := allD_of fun i h => by
        obtain ⟨b1, b2⟩ := extract_get (s.extract o m) 1 (s.extract o m).size i (by omega) (Nat.le_refl _)
        rw [b2]
        exact hq (1 + i) (by omega) (by omega)
      exact (whole_neg (s.extract o m) W (by omega) (by omega) (by rw [a2]; omega) hD).mono fun e w' ⟨x, y⟩ => ⟨whole_not hp x, y⟩
  have HBl := hide (belowA w (.cells #[.int .i64 0, .int .i64 0, .int .i64 0] 25))
  have HBl2 := hide (belowA w (.cells #[.int .i64 13, .int .i64 0, .int .i64 o] 25))
  have HWd := hide hword
  have HEd := hide hend
  have hmo : o + 1 ≤ m ∧ m ≤ s.size := by omega
  clear hword hend hstop hp hb hr hm hz
  go_enter Tryd.func17, Tryd.ntmps17
  go_wp2
  go_loopw [5] (fun i wl => ∃ j : Nat, o + 1 ≤ j ∧ j ≤ m ∧ i = .int .i64 j ∧ Hid (∀ i (h : i < s.size), o + 1 ≤ i → i < j → bDig (s[i].toNat : Int) = true) ∧ wl = w.alloc (.cells #[.int .i64 0, .int .i64 0, .int .i64 0] 25)) (fun i _ => m - (intOf i).toNat)
  case atStart => exact ⟨o + 1, by omega, by omega, by go_num, (fun i h h1 h2 => by omega), rfl⟩
  case round =>
    obtain ⟨j, hj1, hj, rfl, HD, rfl⟩ := hrel
    have hj0 : (0 : Int) ≤ (j : Int) := by omega
    by_cases hlt : j < m
    · have hjs : j < s.size := by omega
      have hi : (j : Int) < (s.size : Int) := by omega
      have HWj := hide (fun W => tword_any (s[j].toNat : Int) W (by have := s[j].toNat_lt; omega))
      rw [HWd.out j hjs hj1 hlt] at HWj
      have HDj := hide (fun W => tdig_any (s[j].toNat : Int) W (by have := s[j].toNat_lt; omega))
      cases hdg : bDig (s[j].toNat : Int) with
      | true =>
        rw [hdg] at HDj
        have HD2 : Hid (∀ i (h : i < s.size), o + 1 ≤ i → i < j + 1 → bDig (s[i].toNat : Int) = true) := fun i h h1 h2 => by
          by_cases hij : i = j
          · subst hij; exact hdg
          · exact HD.out i h h1 (by omega)
        clear hdg
        go_wp2_with (first | (go_at_call 15; refine (HWj.out _).mono ?_; rintro e w' ⟨rfl, hw'⟩; have hw' := hw'.symm; subst hw') | (go_at_call 16; refine (HDj.out _).mono ?_; rintro e w' ⟨rfl, hw'⟩; have hw' := hw'.symm; subst hw'))
        go_roundw
        case rel => exact ⟨j + 1, by omega, by omega, by go_num, HD2, trivial⟩
        case measure => simp [intOf]; omega
      | false =>
        rw [hdg] at HDj
        clear hdg
        go_wp2_with (first | (go_at_call 15; refine (HWj.out _).mono ?_; rintro e w' ⟨rfl, hw'⟩; have hw' := hw'.symm; subst hw') | (go_at_call 16; refine (HDj.out _).mono ?_; rintro e w' ⟨rfl, hw'⟩; have hw' := hw'.symm; subst hw'))
        exact bodyPost_ret (v := .agg #[.int .i64 13, .int .i64 0, .int .i64 o]) (by simp [results, Tryd.results17, go_sem]) rfl ⟨rfl, HBl2.out⟩
    · have hjm : j = m := by omega
      subst hjm
      have HW2 := hide (HWh.out HD.out)
      have s1 : (o : Int) ≤ (j : Int) := by omega
      have s2 : (j : Int) ≤ (s.size : Int) := by omega
      by_cases hjs : j < s.size
      · have hi : (j : Int) < (s.size : Int) := by omega
        have HWj := hide (fun W => tword_any (s[j].toNat : Int) W (by have := s[j].toNat_lt; omega))
        rw [HEd.out hjs] at HWj
        go_wp2_with (first | (go_at_call 15; refine (HWj.out _).mono ?_; rintro e w' ⟨rfl, hw'⟩; have hw' := hw'.symm; subst hw') | (go_at_call 29; refine (HW2.out _).mono ?_; rintro e w' ⟨⟨v, rfl⟩, hw'⟩; have hw' := hw'.symm; subst hw'))
        exact bodyPost_ret (v := .agg #[.int .i64 13, .int .i64 0, .int .i64 o]) (by simp [results, Tryd.results17, go_sem]) rfl ⟨rfl, HBl2.out⟩
      · have hi : ¬ (j : Int) < (s.size : Int) := by omega
        go_wp2_with (first | (go_at_call 29; refine (HW2.out _).mono ?_; rintro e w' ⟨⟨v, rfl⟩, hw'⟩; have hw' := hw'.symm; subst hw'))
        exact bodyPost_ret (v := .agg #[.int .i64 13, .int .i64 0, .int .i64 o]) (by simp [results, Tryd.results17, go_sem]) rfl ⟨rfl, HBl2.out⟩
end Go.Proofs.YtplldgkdjainlaaDoor
