/- sym.IsVar; the document's byte tests, IsName, IsVar and Valid: the same plain tests on bytes. -/
import Derived.Test.YtleakainhpgldaaDoorProg
import Derived.Test.YtleakainhpgldaaDoorValid
namespace Go.Proofs.YtleakainhpgldaaDoor
set_option linter.unusedSimpArgs false
set_option linter.unusedVariables false
open Go.RowKit

theorem isUpper_any (n : Int) (w : World) (h : 0 ≤ n ∧ n ≤ 255) :
    Calls Tryd.prog 54 #[.int .u8 n] w fun e w' => e = .returned (.bool (upN n)) ∧ w' = w := by
  by_cases h1 : 65 ≤ n
  · by_cases h2 : n ≤ 90
    · rw [show upN n = true from by simp [upN, h1, h2]]
      go_enter Tryd.func54, Tryd.ntmps54
      go_wp2
      go_ret
      exact ⟨rfl, rfl⟩
    · rw [show upN n = false from by simp [upN, h1, h2]]
      go_enter Tryd.func54, Tryd.ntmps54
      go_wp2
      go_ret
      exact ⟨rfl, rfl⟩
  · rw [show upN n = false from by simp [upN, h1]]
    go_enter Tryd.func54, Tryd.ntmps54
    go_wp2
    go_ret
    exact ⟨rfl, rfl⟩

theorem rlow (n : Int) (w : World) (h : 0 ≤ n ∧ n ≤ 255) :
    Calls Tryd.prog 19 #[.int .u8 n] w fun e w' => e = .returned (.bool (lowN n)) ∧ w' = w := by
  by_cases h1 : 97 ≤ n
  · by_cases h2 : n ≤ 122
    · rw [show lowN n = true from by simp [lowN, h1, h2]]
      go_enter Tryd.func19, Tryd.ntmps19
      go_wp2
      go_ret
      exact ⟨rfl, rfl⟩
    · rw [show lowN n = false from by simp [lowN, h1, h2]]
      go_enter Tryd.func19, Tryd.ntmps19
      go_wp2
      go_ret
      exact ⟨rfl, rfl⟩
  · rw [show lowN n = false from by simp [lowN, h1]]
    go_enter Tryd.func19, Tryd.ntmps19
    go_wp2
    go_ret
    exact ⟨rfl, rfl⟩

theorem rup (n : Int) (w : World) (h : 0 ≤ n ∧ n ≤ 255) :
    Calls Tryd.prog 74 #[.int .u8 n] w fun e w' => e = .returned (.bool (upN n)) ∧ w' = w := by
  by_cases h1 : 65 ≤ n
  · by_cases h2 : n ≤ 90
    · rw [show upN n = true from by simp [upN, h1, h2]]
      go_enter Tryd.func74, Tryd.ntmps74
      go_wp2
      go_ret
      exact ⟨rfl, rfl⟩
    · rw [show upN n = false from by simp [upN, h1, h2]]
      go_enter Tryd.func74, Tryd.ntmps74
      go_wp2
      go_ret
      exact ⟨rfl, rfl⟩
  · rw [show upN n = false from by simp [upN, h1]]
    go_enter Tryd.func74, Tryd.ntmps74
    go_wp2
    go_ret
    exact ⟨rfl, rfl⟩

theorem rdig (n : Int) (w : World) (h : 0 ≤ n ∧ n ≤ 255) :
    Calls Tryd.prog 30 #[.int .u8 n] w fun e w' => e = .returned (.bool (digN n)) ∧ w' = w := by
  by_cases h1 : 48 ≤ n
  · by_cases h2 : n ≤ 57
    · rw [show digN n = true from by simp [digN, h1, h2]]
      go_enter Tryd.func30, Tryd.ntmps30
      go_wp2
      go_ret
      exact ⟨rfl, rfl⟩
    · rw [show digN n = false from by simp [digN, h1, h2]]
      go_enter Tryd.func30, Tryd.ntmps30
      go_wp2
      go_ret
      exact ⟨rfl, rfl⟩
  · rw [show digN n = false from by simp [digN, h1]]
    go_enter Tryd.func30, Tryd.ntmps30
    go_wp2
    go_ret
    exact ⟨rfl, rfl⟩

def tailL (l : List UInt8) : Bool := (l.drop 1).all wordB


theorem drop_snoc (s : ByteArray) (k : Nat) (h : k < s.size) (h1 : 1 ≤ k) : (s.toList.take (k + 1)).drop 1 = (s.toList.take k).drop 1 ++ [s[k]] := by
  rw [take_snoc s k h, List.drop_append_of_le_length (by rw [List.length_take, toListLen]; omega)]

theorem mem_drop (s : ByteArray) (k : Nat) (h : k < s.size) (h1 : 1 ≤ k) : s[k] ∈ s.toList.drop 1 := by
  have e : (s.toList.drop 1)[k - 1]? = some s[k] := by
    rw [List.getElem?_drop, show 1 + (k - 1) = k from by omega, ByteArray.toList_eq]
    exact List.getElem?_eq_getElem (l := s.data.toList) (by simpa using h)
  exact List.mem_of_getElem? e

set_option maxHeartbeats 1000000 in
theorem rtail (s : ByteArray) (w : World) (hs : s.size ≤ 140737488351232) (h0 : 0 < s.size) :
    Calls Tryd.prog 60 #[.string s] w fun e w' => e = .returned (.bool (tailL s.toList)) ∧ w' = w := by
  have hd : Hid (tailL s.toList = (s.toList.drop 1).all wordB) := rfl
  rw [hd.out]
  clear hd
  go_enter Tryd.func60, Tryd.ntmps60
  go_wp2
  go_loop [3] (fun i => ∃ k : Nat, 1 ≤ k ∧ k ≤ s.size ∧ i = .int .i64 k ∧ Hid (((s.toList.take k).drop 1).all wordB = true)) (fun i => s.size - (intOf i).toNat)
  case atStart => exact ⟨1, by omega, by omega, rfl, by show ((s.toList.take 1).drop 1).all wordB = true; rw [List.drop_eq_nil_of_le (by rw [List.length_take]; omega)]; rfl⟩
  case round =>
    obtain ⟨k, hk1, hk, rfl, HA⟩ := hrel
    by_cases hlt : k < s.size
    · have hi : (k : Int) < (s.size : Int) := by omega
      have hb : (0 : Int) ≤ (s[k].toNat : Int) ∧ (s[k].toNat : Int) ≤ 255 := by have := s[k].toNat_lt; omega
      have HL := hide (rlow (s[k].toNat : Int) w hb)
      have HU := hide (rup (s[k].toNat : Int) w hb)
      have HD := hide (rdig (s[k].toNat : Int) w hb)
      have HW : Hid (wordB s[k] = (lowN (s[k].toNat : Int) || (upN (s[k].toNat : Int) || (digN (s[k].toNat : Int) || (s[k].toNat : Int) == 95)))) := rfl
      have HS := hide (drop_snoc s k hlt hk1)
      have HM := hide (mem_drop s k hlt hk1)
      have HG : Hid (wordB s[k] = true → ((s.toList.take (k + 1)).drop 1).all wordB = true) := fun hh => by
        rw [HS.out, List.all_append, HA.out, List.all_cons, hh]; rfl
      have HF : Hid (wordB s[k] = false → (s.toList.drop 1).all wordB = false) := fun hh => by
        rw [List.all_eq_false]; exact ⟨s[k], HM.out, by rw [hh]; decide⟩
      clear HS HM HA
      cases h1 : lowN (s[k].toNat : Int)
      · cases h2 : upN (s[k].toNat : Int)
        · cases h3 : digN (s[k].toNat : Int)
          · by_cases h4 : (s[k].toNat : Int) = 95
            · have e4 : ((s[k].toNat : Int) != 95) = false := by simp [h4]
              have hw := HG.out (by rw [HW.out, h1, h2, h3, h4]; rfl)
              rw [h1] at HL; rw [h2] at HU; rw [h3] at HD
              clear HG HF HW h1 h2 h3 h4
              go_wp2_with (first | (go_at_call 19; refine HL.out.mono ?_; rintro e w' ⟨rfl, hw'⟩; have hw' := hw'.symm; subst hw') | (go_at_call 74; refine HU.out.mono ?_; rintro e w' ⟨rfl, hw'⟩; have hw' := hw'.symm; subst hw') | (go_at_call 30; refine HD.out.mono ?_; rintro e w' ⟨rfl, hw'⟩; have hw' := hw'.symm; subst hw'))
              go_round
              case rel => exact ⟨k + 1, by omega, by omega, by go_num, hw⟩
              case measure => simp [intOf]; omega
            · have e4 : ((s[k].toNat : Int) != 95) = true := by simp [h4]
              have hw := HF.out (by rw [HW.out, h1, h2, h3]; simpa using h4)
              rw [h1] at HL; rw [h2] at HU; rw [h3] at HD
              have hw := hide hw
              clear HG HF HW h1 h2 h3 h4
              go_wp2_with (first | (go_at_call 19; refine HL.out.mono ?_; rintro e w' ⟨rfl, hw'⟩; have hw' := hw'.symm; subst hw') | (go_at_call 74; refine HU.out.mono ?_; rintro e w' ⟨rfl, hw'⟩; have hw' := hw'.symm; subst hw') | (go_at_call 30; refine HD.out.mono ?_; rintro e w' ⟨rfl, hw'⟩; have hw' := hw'.symm; subst hw'))
              go_ret
              exact ⟨by first | (rw [hw.out]; rfl) | (rw [← List.drop_one, hw.out]; rfl), rfl⟩
          · have hw := HG.out (by rw [HW.out, h1, h2, h3]; rfl)
            rw [h1] at HL; rw [h2] at HU; rw [h3] at HD
            clear HG HF HW h1 h2 h3
            go_wp2_with (first | (go_at_call 19; refine HL.out.mono ?_; rintro e w' ⟨rfl, hw'⟩; have hw' := hw'.symm; subst hw') | (go_at_call 74; refine HU.out.mono ?_; rintro e w' ⟨rfl, hw'⟩; have hw' := hw'.symm; subst hw') | (go_at_call 30; refine HD.out.mono ?_; rintro e w' ⟨rfl, hw'⟩; have hw' := hw'.symm; subst hw'))
            go_round
            case rel => exact ⟨k + 1, by omega, by omega, by go_num, hw⟩
            case measure => simp [intOf]; omega
        · have hw := HG.out (by rw [HW.out, h1, h2]; rfl)
          rw [h1] at HL; rw [h2] at HU
          clear HG HF HW h1 h2
          go_wp2_with (first | (go_at_call 19; refine HL.out.mono ?_; rintro e w' ⟨rfl, hw'⟩; have hw' := hw'.symm; subst hw') | (go_at_call 74; refine HU.out.mono ?_; rintro e w' ⟨rfl, hw'⟩; have hw' := hw'.symm; subst hw') | (go_at_call 30; refine HD.out.mono ?_; rintro e w' ⟨rfl, hw'⟩; have hw' := hw'.symm; subst hw'))
          go_round
          case rel => exact ⟨k + 1, by omega, by omega, by go_num, hw⟩
          case measure => simp [intOf]; omega
      · have hw := HG.out (by rw [HW.out, h1]; rfl)
        rw [h1] at HL
        clear HG HF HW h1
        go_wp2_with (first | (go_at_call 19; refine HL.out.mono ?_; rintro e w' ⟨rfl, hw'⟩; have hw' := hw'.symm; subst hw') | (go_at_call 74; refine HU.out.mono ?_; rintro e w' ⟨rfl, hw'⟩; have hw' := hw'.symm; subst hw') | (go_at_call 30; refine HD.out.mono ?_; rintro e w' ⟨rfl, hw'⟩; have hw' := hw'.symm; subst hw'))
        go_round
        case rel => exact ⟨k + 1, by omega, by omega, by go_num, hw⟩
        case measure => simp [intOf]; omega
    · have hi : ¬ (k : Int) < (s.size : Int) := by omega
      have hw : (s.toList.drop 1).all wordB = true := by
        have := HA.out
        rw [List.take_of_length_le (by rw [toListLen]; omega)] at this
        exact this
      have hw := hide hw
      go_wp2
      go_ret
      exact ⟨by first | (rw [hw.out]; rfl) | (rw [← List.drop_one, hw.out]; rfl), rfl⟩

theorem low_word {n : Int} (h : lowN n = true) : wordN n = true := by unfold wordN; rw [h]; rfl
theorem up_word {n : Int} (h : (upN n || n == 95) = true) : wordN n = true := by
  unfold wordN
  rcases Bool.or_eq_true_iff.1 h with h | h
  · rw [h]; simp
  · rw [h]; simp
theorem word_split (s : ByteArray) (h0 : 0 < s.size) (h64 : s.size ≤ 64) : isWordL s.toList = (wordN (headN s.toList) && tailL s.toList) := by
  unfold isWordL tailL
  rw [toListLen, show decide (1 ≤ s.size) = true from by simp; omega, show decide (s.size ≤ 64) = true from by simp; omega]
  obtain ⟨r, hr⟩ := toList_cons s h0
  rw [hr]; rfl
theorem name_split (s : ByteArray) (h0 : 0 < s.size) (h64 : s.size ≤ 64) : isNameL s.toList = (!(s.toList == [110, 111, 116]) && (lowN (headN s.toList) && tailL s.toList)) := by
  unfold isNameL
  rw [word_split s h0 h64]
  cases h : lowN (headN s.toList) with
  | true => rw [low_word h]; cases tailL s.toList <;> cases (s.toList == [110, 111, 116]) <;> rfl
  | false => cases tailL s.toList <;> cases (s.toList == [110, 111, 116]) <;> cases wordN (headN s.toList) <;> rfl
theorem var_split (s : ByteArray) (h0 : 0 < s.size) (h64 : s.size ≤ 64) : isVarL s.toList = ((upN (headN s.toList) || headN s.toList == 95) && tailL s.toList) := by
  unfold isVarL
  rw [word_split s h0 h64]
  cases h : (upN (headN s.toList) || headN s.toList == 95) with
  | true => rw [up_word h]; cases tailL s.toList <;> rfl
  | false => cases tailL s.toList <;> cases wordN (headN s.toList) <;> rfl


theorem word_short {s : ByteArray} (h : s.size = 0 ∨ 64 < s.size) : isWordL s.toList = false := by
  unfold isWordL
  rw [toListLen]
  simp
  omega

set_option maxHeartbeats 1000000 in
theorem rname (s : ByteArray) (w : World) (hs : s.size ≤ 140737488351232) :
    Calls Tryd.prog 42 #[.string s] w fun e w' => e = .returned (.bool (isNameL s.toList)) ∧ w' = w := by
  by_cases h0 : s.size = 0
  · have hf : isNameL s.toList = false := by unfold isNameL; rw [word_short (.inl h0)]; rfl
    rw [hf]
    have h1 : (s.size : Int) < 1 := by omega
    clear hf
    go_enter Tryd.func42, Tryd.ntmps42
    go_wp2
    go_ret
    exact ⟨rfl, rfl⟩
  · have h1 : ¬ (s.size : Int) < 1 := by omega
    by_cases h64 : 64 < s.size
    · have hf : isNameL s.toList = false := by unfold isNameL; rw [word_short (.inr h64)]; rfl
      rw [hf]
      have h2 : (64 : Int) < (s.size : Int) := by omega
      clear hf
      go_enter Tryd.func42, Tryd.ntmps42
      go_wp2
      go_ret
      exact ⟨rfl, rfl⟩
    · have h2 : ¬ (64 : Int) < (s.size : Int) := by omega
      have HN := hide (name_split s (by omega) (by omega))
      rw [HN.out]
      clear HN
      rw [head_of s (by omega)]
      have hi : (0 : Int) < (s.size : Int) := by omega
      have hb : (0 : Int) ≤ (s[0].toNat : Int) ∧ (s[0].toNat : Int) ≤ 255 := by have := s[0].toNat_lt; omega
      have HL := hide (rlow (s[0].toNat : Int) w hb)
      have HT := hide (rtail s w hs (by omega))
      generalize tailL s.toList = t at *
      cases hn : (s.toList == [110, 111, 116])
      · cases hl : lowN (s[0].toNat : Int)
        · rw [hl] at HL
          go_enter Tryd.func42, Tryd.ntmps42
          go_wp2_with (first | (go_at_call 19; refine HL.out.mono ?_; rintro e w' ⟨rfl, hw'⟩; have hw' := hw'.symm; subst hw') | (go_at_call 60; refine HT.out.mono ?_; rintro e w' ⟨rfl, hw'⟩; have hw' := hw'.symm; subst hw'))
          go_ret
          exact ⟨rfl, rfl⟩
        · rw [hl] at HL
          go_enter Tryd.func42, Tryd.ntmps42
          go_wp2_with (first | (go_at_call 19; refine HL.out.mono ?_; rintro e w' ⟨rfl, hw'⟩; have hw' := hw'.symm; subst hw') | (go_at_call 60; refine HT.out.mono ?_; rintro e w' ⟨rfl, hw'⟩; have hw' := hw'.symm; subst hw'))
          go_ret
          first | exact ⟨rfl, rfl⟩ | exact ⟨ret_bool (by simp), rfl⟩
      · go_enter Tryd.func42, Tryd.ntmps42
        go_wp2_with (first | (go_at_call 19; refine HL.out.mono ?_; rintro e w' ⟨rfl, hw'⟩; have hw' := hw'.symm; subst hw') | (go_at_call 60; refine HT.out.mono ?_; rintro e w' ⟨rfl, hw'⟩; have hw' := hw'.symm; subst hw'))
        go_ret
        exact ⟨rfl, rfl⟩


theorem rvalid (c : Con) (w : World) (hc : c.ok) :
    Calls Tryd.prog 31 #[c.val] w fun e w' => e = .returned (.bool (validC c)) ∧ Below w.heap.size w w' := by
  obtain ⟨k, n, s⟩ := c
  have hs : s.size ≤ maxLen := by have := hc.2.2; unfold maxLen; simp only at this; omega
  have hs2 : s.size ≤ 140737488351232 := hc.2.2
  have hd : Hid (validC ⟨k, n, s⟩ = if k = 1 then s.toList == [] else if k = 2 then n == 0 && isNameL s.toList else if k = 3 then n == 0 && decide (s.size ≤ 255) else false) := rfl
  rw [hd.out]
  clear hd hc
  unfold Con.val
  by_cases h1 : k = 1
  · subst h1
    rw [if_pos rfl]
    go_enter Tryd.func31, Tryd.ntmps31
    go_wp2
    go_ret
    first | exact ⟨rfl, (Below.refl _ _).alloc (Nat.le_refl _) _⟩ | exact ⟨ret_bool (by simp), (Below.refl _ _).alloc (Nat.le_refl _) _⟩
  · have e1 : (k == 1) = false := by simp [h1]
    rw [if_neg h1]
    by_cases h2 : k = 2
    · subst h2
      rw [if_pos rfl]
      have HN := hide (fun w => rname s w hs2)
      cases hn : (n == 0)
      · go_enter Tryd.func31, Tryd.ntmps31
        go_wp2
        go_ret
        exact ⟨rfl, (Below.refl _ _).alloc (Nat.le_refl _) _⟩
      · go_enter Tryd.func31, Tryd.ntmps31
        go_wp2_with (go_at_call 42; refine (HN.out _).mono ?_; rintro e w' ⟨rfl, hw'⟩; have hw' := hw'.symm; subst hw')
        go_ret
        first | exact ⟨rfl, (Below.refl _ _).alloc (Nat.le_refl _) _⟩ | exact ⟨ret_bool (by simp), (Below.refl _ _).alloc (Nat.le_refl _) _⟩
    · have e2 : (k == 2) = false := by simp [h2]
      rw [if_neg h2]
      by_cases h3 : k = 3
      · subst h3
        rw [if_pos rfl]
        cases hn : (n == 0)
        · go_enter Tryd.func31, Tryd.ntmps31
          go_wp2
          go_ret
          exact ⟨rfl, (Below.refl _ _).alloc (Nat.le_refl _) _⟩
        · go_enter Tryd.func31, Tryd.ntmps31
          go_wp2
          all_goals go_ret
          all_goals refine ⟨ret_bool ?_, (Below.refl _ _).alloc (Nat.le_refl _) _⟩
          all_goals first | rfl | (simp; done) | (simp; omega)
      · have e3 : (k == 3) = false := by simp [h3]
        rw [if_neg h3]
        go_enter Tryd.func31, Tryd.ntmps31
        go_wp2
        go_ret
        exact ⟨rfl, (Below.refl _ _).alloc (Nat.le_refl _) _⟩

end Go.Proofs.YtleakainhpgldaaDoor
