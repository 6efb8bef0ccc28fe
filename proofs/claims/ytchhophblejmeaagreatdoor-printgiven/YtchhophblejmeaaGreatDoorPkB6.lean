/- The laws' own words of edictlaw04: a word made of a string. What print writes of a term is a token that is read as that term. The laws' own names, variables, constants, terms of edictlaw04. The laws' own mod and constants of edictlaw04. What the laws of edictlaw04 make is well formed: names, variables, constants. The laws' own terms of edictlaw04. Parts that stand in a list of their own, joined. print's parts of literals. What is one's own from b on is so from below b on. -/
import Derived.Test.YtchhophblejmeaaGreatDoorProg
import Derived.Test.YtchhophblejmeaaGreatDoorPkB1
import Derived.Test.YtchhophblejmeaaGreatDoorLexText
import Derived.Test.YtchhophblejmeaaGreatDoorPkB2
import Derived.Test.YtchhophblejmeaaGreatDoorPkB4
import Derived.Test.YtchhophblejmeaaGreatDoorPkB5
import Derived.Lib.SmallJoins
import Derived.Test.YtchhophblejmeaaGreatDoorOverAt
import Derived.Deep.AppendLies
import Derived.Test.YtchhophblejmeaaGreatDoorOver

namespace Go.Proofs.YtchhophblejmeaaGreatDoor
set_option linter.unusedSimpArgs false
set_option linter.unusedVariables false
open Go.RowKit

def wI (b : Int) : Int := if (97 ≤ b ∧ b ≤ 122) ∨ (65 ≤ b ∧ b ≤ 90) ∨ (48 ≤ b ∧ b ≤ 57) then b else 95
def wordI (s : ByteArray) (g : Int) : List Int := match intsOf s with
  | [] => [g]
  | a :: r => (g + a % 26) :: (r.take 63).map wI
theorem wI_cases (x : Int) : (97 ≤ x ∧ x ≤ 122 ∧ wI x = x) ∨ (¬ 97 ≤ x ∧ 65 ≤ x ∧ x ≤ 90 ∧ wI x = x) ∨ (¬ 97 ≤ x ∧ ¬ 65 ≤ x ∧ 48 ≤ x ∧ x ≤ 57 ∧ wI x = x) ∨ (97 ≤ x ∧ ¬ x ≤ 122 ∧ wI x = 95) ∨ (¬ 97 ≤ x ∧ 65 ≤ x ∧ ¬ x ≤ 90 ∧ wI x = 95) ∨ (¬ 97 ≤ x ∧ ¬ 65 ≤ x ∧ 48 ≤ x ∧ ¬ x ≤ 57 ∧ wI x = 95) ∨ (¬ 97 ≤ x ∧ ¬ 65 ≤ x ∧ ¬ 48 ≤ x ∧ wI x = 95) := by
  unfold wI
  by_cases h1 : 97 ≤ x
  · by_cases h2 : x ≤ 122
    · exact .inl ⟨h1, h2, if_pos (.inl ⟨h1, h2⟩)⟩
    · exact .inr (.inr (.inr (.inl ⟨h1, h2, if_neg (by omega)⟩)))
  · by_cases h3 : 65 ≤ x
    · by_cases h4 : x ≤ 90
      · exact .inr (.inl ⟨h1, h3, h4, if_pos (by omega)⟩)
      · exact .inr (.inr (.inr (.inr (.inl ⟨h1, h3, h4, if_neg (by omega)⟩))))
    · by_cases h5 : 48 ≤ x
      · by_cases h6 : x ≤ 57
        · exact .inr (.inr (.inl ⟨h1, h3, h5, h6, if_pos (by omega)⟩))
        · exact .inr (.inr (.inr (.inr (.inr (.inl ⟨h1, h3, h5, h6, if_neg (by omega)⟩)))))
      · exact .inr (.inr (.inr (.inr (.inr (.inr ⟨h1, h3, h5, if_neg (by omega)⟩)))))
theorem ints_get (s : ByteArray) (k : Nat) (h : k < s.size) : (intsOf s)[k]? = some (s[k].toNat : Int) := by
  unfold intsOf
  rw [List.getElem?_map, Array.getElem?_toList, Array.getElem?_eq_getElem (show k < s.data.size from h)]
  rfl

set_option maxRecDepth 100000 in
set_option maxHeartbeats 8000000 in
theorem word4 (s : ByteArray) (g : Int) (w : World) (hs : s.size ≤ 140737488351232) (hg : g = 97 ∨ g = 65) :
    Calls Tryz.prog 44 #[.string s, .int .u8 g] w fun e w' => e = .returned (.string (strOf (wordI s g))) ∧ Below w.heap.size w w' := by
  obtain ⟨i0, hi0, hz0, hz1, hz2⟩ := info_parts Tryz.infoByte
  by_cases h0 : s.size = 0
  · have e1 : (s.toList == []) = true := by
      have : s.data.toList = [] := List.length_eq_zero_iff.1 h0
      rw [ByteArray.toList_eq, this]; rfl
    have HE : Hid (wordI s g = [g]) := by
      show _ = _
      have : intsOf s = [] := List.length_eq_zero_iff.1 (by rw [intsOf_len]; exact h0)
      unfold wordI
      rw [this]
    have hconv : (convert 101 9 (.slice (some ⟨w.heap.size, 0, none⟩) 1 1)).run Tryz.prog (w.alloc (.cells #[.int .u8 g] 5)) = .ok (.string (strOf [g])) (w.alloc (.cells #[.int .u8 g] 5)) := lit_string w [g] 1 rfl
    rw [HE.out]
    clear HE
    go_enter Tryz.func44, Tryz.ntmps44
    go_wp2
    go_ret
    exact ⟨rfl, (Below.refl _ _).alloc (Nat.le_refl _) _⟩
  · have e1 : (s.toList == []) = false := by
      cases hq : (s.toList == []) with
      | false => rfl
      | true =>
        have : s.data.toList = [] := by rw [← ByteArray.toList_eq]; simpa using hq
        have e : s.data.toList.length = s.size := rfl
        have h9 : s.size = 0 := by rw [← e, this]; rfl
        omega
    have hp : 0 < s.size := by omega
    have hp1 : (0 : Int) < (s.size : Int) := by omega
    have hx := s[0].toNat_lt
    obtain ⟨r, hr⟩ : ∃ r, intsOf s = (s[0].toNat : Int) :: r := by
      have := ints_get s 0 hp
      cases h : intsOf s with
      | nil => rw [h] at this; cases this
      | cons a r => rw [h] at this; cases this; exact ⟨r, rfl⟩
    have hrl : r.length + 1 = s.size := by have := congrArg List.length hr; rw [intsOf_len] at this; simp at this; omega
    obtain ⟨h, hh⟩ : ∃ h : Int, h = g + (s[0].toNat : Int) % 26 := ⟨_, rfl⟩
    have HW : Hid (wordI s g = h :: (r.take 63).map wI) := by show _ = _; unfold wordI; rw [hr]; simp only; rw [hh]
    have HR := hide hr
    rw [HW.out]
    clear HW hr
    go_enter Tryz.func44, Tryz.ntmps44
    go_wp2
    rw [← hh]
    obtain ⟨w1, hw1⟩ : ∃ w1, w1 = w.alloc (.cells #[.int .u8 h] 5) := ⟨_, rfl⟩
    have HO1 : Hid (w1.ownsRow w.heap.size 5 1 (.slice (some ⟨w.heap.size, 0, none⟩) 1 1) 1 [.int .u8 h]) := by
      show World.ownsRow _ _ _ _ _ _ _
      rw [hw1]
      exact World.ownsRow_lit (base := w.heap.size) (e := 5) (size := 1) w #[.int .u8 h] 1 (Nat.le_refl _) (by decide) rfl
    have HB1 : Hid (Below w.heap.size w w1) := by rw [hw1]; exact (Below.refl _ _).alloc (Nat.le_refl _) _
    rw [← hw1]
    clear hw1 hh hx
    go_loopw [5, 6, 7] (fun v i _ wr => ∃ (k : Nat) (vs : List Int), 1 ≤ k ∧ k ≤ s.size ∧ k ≤ 64 ∧ Hid (vs.length = k) ∧ i = .int .i64 k ∧ Hid (vs = h :: (r.take (k - 1)).map wI) ∧ Hid (wr.ownsRow w.heap.size 5 1 v k (vs.map (Value.int .u8))) ∧ Hid (Below w.heap.size w wr)) (fun _ i _ _ => s.size - (intOf i).toNat)
    case atStart => exact ⟨1, [h], by omega, by omega, by omega, rfl, rfl, rfl, HO1.out, HB1.out⟩
    case round =>
      obtain ⟨k, vs, hk1, hk, hk64, HVL, rfl, HV, HO, HB⟩ := hrel
      obtain ⟨ao, cap, rfl⟩ := own_shape HO.out
      by_cases hlt : k < s.size ∧ k < 64
      · have hlk : k < s.size := hlt.1
        have hi : (k : Int) < (s.size : Int) := by omega
        have hi64 : (k : Int) < 64 := by omega
        have hi0' : (0 : Int) ≤ (k : Int) := by omega
        obtain ⟨x, hx⟩ : ∃ x : Int, x = (s[k].toNat : Int) := ⟨_, rfl⟩
        have HN : Hid (∀ c, wI x = c → vs ++ [c] = h :: (r.take (k + 1 - 1)).map wI) := fun c hc => by
          have hg := ints_get s k hlk
          rw [HR.out] at hg
          obtain ⟨j, rfl⟩ : ∃ j, k = j + 1 := ⟨k - 1, by omega⟩
          rw [List.getElem?_cons_succ] at hg
          rw [HV.out]
          show h :: (List.map wI (r.take j) ++ [c]) = h :: List.map wI (r.take (j + 1))
          rw [List.take_add_one, hg, Option.toList_some, List.map_append, List.map_cons, List.map_nil, ← hx, hc]
        have hx0 : 0 ≤ x ∧ x ≤ 255 := by have := s[k].toNat_lt; omega
        clear hlt
        rcases wI_cases x with ⟨c1, c2, hw⟩ | ⟨c1, c2, c3, hw⟩ | ⟨c1, c2, c3, c4, hw⟩ | ⟨c1, c2, hw⟩ | ⟨c1, c2, c3, hw⟩ | ⟨c1, c2, c3, c4, hw⟩ | ⟨c1, c2, c3, hw⟩
        · subst hx
          have HV2 := hide (HN.out _ hw)
          clear hw HN HV
          go_wp2_with (at_builtin; refine wpList_append_lies _ rfl _ _ 101 rfl w.heap.size 5 i0 (.int .u8 0) 1 1 Tryz.underlying101 hi0 hz0 hz1 hz2 rfl (by decide) (.slice ao k cap) k (vs.map (Value.int .u8)) rfl (World.ownsRow.alloc HO.out _) ⟨wr.heap.size, 0, none⟩ 1 1 (([(s[k].toNat : Int)] : List Int).map (Value.int .u8)) rfl rfl (news_bytes wr [(s[k].toNat : Int)]) (by simp [Value.oneCell']) (by decide) (by unfold maxLen; omega) (by omega) (by have := HB.out.size; simp; omega) (wr.heap.size + 1) (by simp) ?_; intro gg cap' w2 hown1 hgrow hat hlt1)
          have HB2 := hide (grown_below HB.out HB.out.size HO.out hgrow)
          have HO2 : Hid (w2.ownsRow w.heap.size 5 1 (.slice (some ⟨gg, 0, none⟩) (k + 1) cap') (k + 1) ((vs ++ [(s[k].toNat : Int)]).map (Value.int .u8))) := by show World.ownsRow _ _ _ _ _ _ _; rw [List.map_append]; exact hown1
          clear hown1 hgrow hat hlt1 HO HB
          go_roundw
          case rel => exact ⟨k + 1, vs ++ [(s[k].toNat : Int)], by omega, by omega, by omega, (by show _ = _; rw [List.length_append, HVL.out]; rfl), by go_num, HV2, HO2, HB2⟩
          case measure => simp [intOf]; omega
        · subst hx
          have HV2 := hide (HN.out _ hw)
          clear hw HN HV
          go_wp2_with (at_builtin; refine wpList_append_lies _ rfl _ _ 101 rfl w.heap.size 5 i0 (.int .u8 0) 1 1 Tryz.underlying101 hi0 hz0 hz1 hz2 rfl (by decide) (.slice ao k cap) k (vs.map (Value.int .u8)) rfl (World.ownsRow.alloc HO.out _) ⟨wr.heap.size, 0, none⟩ 1 1 (([(s[k].toNat : Int)] : List Int).map (Value.int .u8)) rfl rfl (news_bytes wr [(s[k].toNat : Int)]) (by simp [Value.oneCell']) (by decide) (by unfold maxLen; omega) (by omega) (by have := HB.out.size; simp; omega) (wr.heap.size + 1) (by simp) ?_; intro gg cap' w2 hown1 hgrow hat hlt1)
          have HB2 := hide (grown_below HB.out HB.out.size HO.out hgrow)
          have HO2 : Hid (w2.ownsRow w.heap.size 5 1 (.slice (some ⟨gg, 0, none⟩) (k + 1) cap') (k + 1) ((vs ++ [(s[k].toNat : Int)]).map (Value.int .u8))) := by show World.ownsRow _ _ _ _ _ _ _; rw [List.map_append]; exact hown1
          clear hown1 hgrow hat hlt1 HO HB
          go_roundw
          case rel => exact ⟨k + 1, vs ++ [(s[k].toNat : Int)], by omega, by omega, by omega, (by show _ = _; rw [List.length_append, HVL.out]; rfl), by go_num, HV2, HO2, HB2⟩
          case measure => simp [intOf]; omega
        · subst hx
          have HV2 := hide (HN.out _ hw)
          clear hw HN HV
          go_wp2_with (at_builtin; refine wpList_append_lies _ rfl _ _ 101 rfl w.heap.size 5 i0 (.int .u8 0) 1 1 Tryz.underlying101 hi0 hz0 hz1 hz2 rfl (by decide) (.slice ao k cap) k (vs.map (Value.int .u8)) rfl (World.ownsRow.alloc HO.out _) ⟨wr.heap.size, 0, none⟩ 1 1 (([(s[k].toNat : Int)] : List Int).map (Value.int .u8)) rfl rfl (news_bytes wr [(s[k].toNat : Int)]) (by simp [Value.oneCell']) (by decide) (by unfold maxLen; omega) (by omega) (by have := HB.out.size; simp; omega) (wr.heap.size + 1) (by simp) ?_; intro gg cap' w2 hown1 hgrow hat hlt1)
          have HB2 := hide (grown_below HB.out HB.out.size HO.out hgrow)
          have HO2 : Hid (w2.ownsRow w.heap.size 5 1 (.slice (some ⟨gg, 0, none⟩) (k + 1) cap') (k + 1) ((vs ++ [(s[k].toNat : Int)]).map (Value.int .u8))) := by show World.ownsRow _ _ _ _ _ _ _; rw [List.map_append]; exact hown1
          clear hown1 hgrow hat hlt1 HO HB
          go_roundw
          case rel => exact ⟨k + 1, vs ++ [(s[k].toNat : Int)], by omega, by omega, by omega, (by show _ = _; rw [List.length_append, HVL.out]; rfl), by go_num, HV2, HO2, HB2⟩
          case measure => simp [intOf]; omega
        · have HV2 := hide (HN.out _ hw)
          clear hw HN HV
          go_wp2_with (at_builtin; refine wpList_append_lies _ rfl _ _ 101 rfl w.heap.size 5 i0 (.int .u8 0) 1 1 Tryz.underlying101 hi0 hz0 hz1 hz2 rfl (by decide) (.slice ao k cap) k (vs.map (Value.int .u8)) rfl (World.ownsRow.alloc HO.out _) ⟨wr.heap.size, 0, none⟩ 1 1 (([95] : List Int).map (Value.int .u8)) rfl rfl (news_bytes wr [95]) (by simp [Value.oneCell']) (by decide) (by unfold maxLen; omega) (by omega) (by have := HB.out.size; simp; omega) (wr.heap.size + 1) (by simp) ?_; intro gg cap' w2 hown1 hgrow hat hlt1)
          have HB2 := hide (grown_below HB.out HB.out.size HO.out hgrow)
          have HO2 : Hid (w2.ownsRow w.heap.size 5 1 (.slice (some ⟨gg, 0, none⟩) (k + 1) cap') (k + 1) ((vs ++ [95]).map (Value.int .u8))) := by show World.ownsRow _ _ _ _ _ _ _; rw [List.map_append]; exact hown1
          clear hown1 hgrow hat hlt1 HO HB
          go_roundw
          case rel => exact ⟨k + 1, vs ++ [95], by omega, by omega, by omega, (by show _ = _; rw [List.length_append, HVL.out]; rfl), by go_num, HV2, HO2, HB2⟩
          case measure => simp [intOf]; omega
        · have HV2 := hide (HN.out _ hw)
          clear hw HN HV
          go_wp2_with (at_builtin; refine wpList_append_lies _ rfl _ _ 101 rfl w.heap.size 5 i0 (.int .u8 0) 1 1 Tryz.underlying101 hi0 hz0 hz1 hz2 rfl (by decide) (.slice ao k cap) k (vs.map (Value.int .u8)) rfl (World.ownsRow.alloc HO.out _) ⟨wr.heap.size, 0, none⟩ 1 1 (([95] : List Int).map (Value.int .u8)) rfl rfl (news_bytes wr [95]) (by simp [Value.oneCell']) (by decide) (by unfold maxLen; omega) (by omega) (by have := HB.out.size; simp; omega) (wr.heap.size + 1) (by simp) ?_; intro gg cap' w2 hown1 hgrow hat hlt1)
          have HB2 := hide (grown_below HB.out HB.out.size HO.out hgrow)
          have HO2 : Hid (w2.ownsRow w.heap.size 5 1 (.slice (some ⟨gg, 0, none⟩) (k + 1) cap') (k + 1) ((vs ++ [95]).map (Value.int .u8))) := by show World.ownsRow _ _ _ _ _ _ _; rw [List.map_append]; exact hown1
          clear hown1 hgrow hat hlt1 HO HB
          go_roundw
          case rel => exact ⟨k + 1, vs ++ [95], by omega, by omega, by omega, (by show _ = _; rw [List.length_append, HVL.out]; rfl), by go_num, HV2, HO2, HB2⟩
          case measure => simp [intOf]; omega
        · have HV2 := hide (HN.out _ hw)
          clear hw HN HV
          go_wp2_with (at_builtin; refine wpList_append_lies _ rfl _ _ 101 rfl w.heap.size 5 i0 (.int .u8 0) 1 1 Tryz.underlying101 hi0 hz0 hz1 hz2 rfl (by decide) (.slice ao k cap) k (vs.map (Value.int .u8)) rfl (World.ownsRow.alloc HO.out _) ⟨wr.heap.size, 0, none⟩ 1 1 (([95] : List Int).map (Value.int .u8)) rfl rfl (news_bytes wr [95]) (by simp [Value.oneCell']) (by decide) (by unfold maxLen; omega) (by omega) (by have := HB.out.size; simp; omega) (wr.heap.size + 1) (by simp) ?_; intro gg cap' w2 hown1 hgrow hat hlt1)
          have HB2 := hide (grown_below HB.out HB.out.size HO.out hgrow)
          have HO2 : Hid (w2.ownsRow w.heap.size 5 1 (.slice (some ⟨gg, 0, none⟩) (k + 1) cap') (k + 1) ((vs ++ [95]).map (Value.int .u8))) := by show World.ownsRow _ _ _ _ _ _ _; rw [List.map_append]; exact hown1
          clear hown1 hgrow hat hlt1 HO HB
          go_roundw
          case rel => exact ⟨k + 1, vs ++ [95], by omega, by omega, by omega, (by show _ = _; rw [List.length_append, HVL.out]; rfl), by go_num, HV2, HO2, HB2⟩
          case measure => simp [intOf]; omega
        · have HV2 := hide (HN.out _ hw)
          clear hw HN HV
          go_wp2_with (at_builtin; refine wpList_append_lies _ rfl _ _ 101 rfl w.heap.size 5 i0 (.int .u8 0) 1 1 Tryz.underlying101 hi0 hz0 hz1 hz2 rfl (by decide) (.slice ao k cap) k (vs.map (Value.int .u8)) rfl (World.ownsRow.alloc HO.out _) ⟨wr.heap.size, 0, none⟩ 1 1 (([95] : List Int).map (Value.int .u8)) rfl rfl (news_bytes wr [95]) (by simp [Value.oneCell']) (by decide) (by unfold maxLen; omega) (by omega) (by have := HB.out.size; simp; omega) (wr.heap.size + 1) (by simp) ?_; intro gg cap' w2 hown1 hgrow hat hlt1)
          have HB2 := hide (grown_below HB.out HB.out.size HO.out hgrow)
          have HO2 : Hid (w2.ownsRow w.heap.size 5 1 (.slice (some ⟨gg, 0, none⟩) (k + 1) cap') (k + 1) ((vs ++ [95]).map (Value.int .u8))) := by show World.ownsRow _ _ _ _ _ _ _; rw [List.map_append]; exact hown1
          clear hown1 hgrow hat hlt1 HO HB
          go_roundw
          case rel => exact ⟨k + 1, vs ++ [95], by omega, by omega, by omega, (by show _ = _; rw [List.length_append, HVL.out]; rfl), by go_num, HV2, HO2, HB2⟩
          case measure => simp [intOf]; omega
      · have hend : ¬ ((k : Int) < (s.size : Int)) ∨ ((k : Int) < (s.size : Int) ∧ ¬ (k : Int) < 64) := by omega
        have HQ : Hid (vs = h :: (r.take 63).map wI) := by
          show _ = _
          rw [HV.out]
          rcases Nat.lt_or_ge k 64 with hk2 | hk2
          · have hke : k = s.size := by omega
            rw [List.take_of_length_le (by omega), List.take_of_length_le (by omega)]
          · have : k = 64 := by omega
            rw [this]
        have hconv : (convert 101 9 (.slice ao k cap)).run Tryz.prog wr = .ok (.string (strOf (h :: (r.take 63).map wI))) wr := by
          have h9 := HO.out
          rw [← HQ.out]
          have e9 : k = vs.length := HVL.out.symm
          have h8 : wr.ownsRow w.heap.size 5 1 (.slice ao k cap) vs.length (vs.map (Value.int .u8)) := by rw [← e9]; exact h9
          exact text_string h8
        clear HV HO
        rcases hend with hi | ⟨hi, hi64⟩ <;>
        · go_wp2
          go_ret
          exact ⟨rfl, HB.out⟩
end Go.Proofs.YtchhophblejmeaaGreatDoor

namespace Go.Proofs.YtchhophblejmeaaGreatDoor
set_option linter.unusedSimpArgs false
set_option linter.unusedVariables false
open Go.RowKit
open Go.Lib (decDigits itoa)

def escB (c : UInt8) : List UInt8 :=
  if letterOf c ≠ 0 then [92, letterOf c] else if 32 ≤ c.toNat ∧ c.toNat ≤ 126 then [c] else [92, 120, hexL (c.toNat / 16), hexL (c.toNat % 16)]
theorem escB_all : ∀ n : Fin 256, escI ((n.val : Nat) : Int) = (escB (UInt8.ofNat n.val)).map (fun b => (b.toNat : Int)) := by decide +kernel
theorem escB_is (c : UInt8) : escI (c.toNat : Int) = (escB c).map (fun b => (b.toNat : Int)) := by
  have := escB_all ⟨c.toNat, c.toNat_lt⟩
  simpa using this
theorem escs_is : ∀ l : List UInt8, (l.map fun b => (b.toNat : Int)).flatMap escI = (l.flatMap escB).map (fun b => (b.toNat : Int))
  | [] => rfl
  | c :: l => by rw [List.map_cons, List.flatMap_cons, List.flatMap_cons, List.map_append, escB_is, escs_is l]
theorem quot_bytes (s : ByteArray) : (strOf (quotI s)).data.toList = 34 :: (s.data.toList.flatMap escB ++ [34]) := by
  have h : quotI s = (34 :: (s.data.toList.flatMap escB ++ [34])).map fun b => (b.toNat : Int) := by
    unfold quotI intsOf
    rw [escs_is, List.map_cons, List.map_append]
    rfl
  rw [h, strOf_bytesP]
theorem textF_one (T : ByteArray) (o i : Nat) (vs : List Int) (c : UInt8) (R : List UInt8) (hr : rest T i = escB c ++ R) (hv : vs.length < 255) : textF T o i vs = textF T o (i + (escB c).length) (vs ++ [(c.toNat : Int)]) := by
  unfold escB at hr ⊢
  by_cases h1 : letterOf c ≠ 0
  · rw [if_pos h1] at hr ⊢
    obtain ⟨ho, hb⟩ := here_lt hr
    have hex : escX (T.extract i T.size) = ((c.toNat : Int), 2) := by
      rw [esc_is (letterOf c) R _ (by rw [ext_rest T i (by omega)]; exact hr)]
      obtain ⟨l, e1, e2⟩ := letter_all ⟨c.toNat, c.toNat_lt⟩ (by simpa using h1)
      simp only [UInt8.ofNat_toNat] at e1
      rw [e1]
      exact e2 _
    rw [textF, dif_pos ho, hb, if_neg (by decide), if_neg (by decide), if_pos (by decide), hex, dif_neg (by simp), if_neg (by omega)]
    rfl
  · rw [if_neg h1] at hr ⊢
    by_cases h2 : 32 ≤ c.toNat ∧ c.toNat ≤ 126
    · rw [if_pos h2] at hr ⊢
      obtain ⟨ho, hb⟩ := here_lt hr
      have hl : letterOf c = 0 := Classical.byContradiction fun h => h1 h
      have hne : c.toNat ≠ 34 ∧ c.toNat ≠ 92 := by
        constructor
        · intro e
          have : c = 34 := UInt8.toNat_inj.1 (by rw [e]; rfl)
          subst this
          exact absurd hl (by decide)
        · intro e
          have : c = 92 := UInt8.toNat_inj.1 (by rw [e]; rfl)
          subst this
          exact absurd hl (by decide)
      rw [textF, dif_pos ho, hb, if_neg (by omega), if_neg (by omega), if_neg (by omega), if_neg (by omega)]
      rfl
    · rw [if_neg h2] at hr ⊢
      obtain ⟨ho, hb⟩ := here_lt hr
      have hex : escX (T.extract i T.size) = ((c.toNat : Int), 4) := hex_is c R _ (by rw [ext_rest T i (by omega)]; exact hr)
      rw [textF, dif_pos ho, hb, if_neg (by decide), if_neg (by decide), if_pos (by decide), hex, dif_neg (by simp), if_neg (by omega)]
      rfl
theorem textF_escs (T : ByteArray) (o : Nat) : ∀ (v R : List UInt8) (i : Nat) (vs : List Int), rest T i = v.flatMap escB ++ 34 :: R → vs.length + v.length ≤ 255 → textF T o i vs = .tok ⟨4, strOf (vs ++ v.map fun b => (b.toNat : Int)), 0, 0, o, i + (v.flatMap escB).length + 1⟩
  | [], R, i, vs, hr, _ => by
    obtain ⟨ho, hb⟩ := here_lt hr
    rw [textF, dif_pos ho, hb, if_neg (by decide), if_pos (by decide)]
    simp
  | c :: v, R, i, vs, hr, hl => by
    rw [List.flatMap_cons, List.append_assoc] at hr
    simp only [List.length_cons] at hl
    rw [textF_one T o i vs c _ hr (by omega), textF_escs T o v R _ _ (rest_at hr) (by simp; omega)]
    simp only [List.map_cons, List.append_assoc, List.singleton_append, List.flatMap_cons, List.length_append]
    congr 2
    omega
theorem tkn_weak {s : List UInt8} {x : Tok} {ok ok' : UInt8 → Bool} (h : Tkn s x ok) (hw : ∀ b, ok' b = true → ok b = true) : Tkn s x ok' :=
  ⟨h.kind, h.head, fun T o R hr hR => h.at_ T o R hr fun b hb => hw b (hR b hb)⟩
theorem esc_tkn (v : List UInt8) (hl : v.length ≤ 255) : Tkn (34 :: (v.flatMap escB ++ [34])) ⟨4, ⟨v.toArray⟩, 0, 0, 0, 0⟩ okWord := by
  have h : textX ⟨(34 :: (v.flatMap escB ++ [34])).toArray⟩ 0 = .tok ⟨4, ⟨v.toArray⟩, 0, 0, 0, (v.flatMap escB ++ [34]).length + 1⟩ := by
    unfold textX
    rw [textF_escs ⟨(34 :: (v.flatMap escB ++ [34])).toArray⟩ 0 v [] 1 [] rfl (by simpa using hl), List.nil_append, strOf_bytesP]
    simp
    omega
  have := text_tkn h rfl ⟨rfl, rfl, rfl⟩
  exact tkn_weak ⟨this.kind, this.head, this.at_⟩ fun _ _ => rfl
theorem name_tkn {s : ByteArray} (h : isNameL s.toList = true) : Tkn s.data.toList ⟨1, s, 0, 0, 0, 0⟩ okWord := by
  rw [ByteArray.toList_eq] at h
  obtain ⟨⟨l⟩⟩ := s
  simp only at h ⊢
  unfold isNameL isWordL at h
  simp only [Bool.and_eq_true, decide_eq_true_eq, List.all_eq_true, Bool.not_eq_true', beq_eq_false_iff_ne, ne_eq] at h
  obtain ⟨⟨h1, h2, h3⟩, h4, h5⟩ := h
  cases l with
  | nil => simp at h1
  | cons b r =>
    have hb : bLow (b.toNat : Int) = true := h4
    have := word_tkn (b := b) (r := r) (fun c hc => h3 c hc) (by rw [hb]; rfl) h2
    unfold wordTok at this
    rw [if_neg h5, show ((b :: r).headD 0) = b from rfl, if_pos hb] at this
    exact this
theorem up_low' : ∀ n : Fin 256, (bUp (n.val : Int) || (n.val : Int) == 95) = true → bLow (n.val : Int) = false := by decide +kernel
theorem var_tkn {s : ByteArray} (h : isVarL s.toList = true) : Tkn s.data.toList ⟨2, s, 0, 0, 0, 0⟩ okWord := by
  rw [ByteArray.toList_eq] at h
  obtain ⟨⟨l⟩⟩ := s
  simp only at h ⊢
  unfold isVarL isWordL at h
  rw [Bool.and_eq_true, Bool.and_eq_true, Bool.and_eq_true] at h
  simp only [decide_eq_true_eq, List.all_eq_true] at h
  obtain ⟨⟨h1, h2, h3⟩, h4⟩ := h
  cases l with
  | nil => simp at h1
  | cons b r =>
    have hb : (bUp (b.toNat : Int) || (b.toNat : Int) == 95) = true := h4
    have hl := up_low' ⟨b.toNat, b.toNat_lt⟩ hb
    have hn : ¬ (b :: r = [110, 111, 116]) := by
      intro e
      have : b = 110 := (List.cons.inj e).1
      subst this
      exact absurd hb (by decide)
    have := word_tkn (b := b) (r := r) (fun c hc => h3 c hc) (by rw [hb]; simp) h2
    unfold wordTok at this
    rw [if_neg hn, show ((b :: r).headD 0) = b from rfl, if_neg (by rw [hl]; decide)] at this
    exact this
/-- The token that a term is written as. -/
def tX (t : Trm) : Tok := if t.k = 4 then ⟨2, t.s, 0, 0, 0, 0⟩ else if t.k = 1 then ⟨3, ⟨#[]⟩, t.n, 0, 0, 0⟩ else if t.k = 2 then ⟨1, t.s, 0, 0, 0, 0⟩ else ⟨4, t.s, 0, 0, 0, 0⟩
def okT (t : Trm) : Prop := t.ok ∧ termE t = 0
/-- A term but for its place. -/
def Trm.st (t : Trm) : Trm := ⟨t.k, t.n, t.s, 0⟩
theorem okT_cases {t : Trm} (h : okT t) : (t.k = 4 ∧ t.n = 0 ∧ isVarL t.s.toList = true) ∨ (t.k = 1 ∧ t.s = ⟨#[]⟩ ∧ I64 t.n ∧ validC t.con = true) ∨ (t.k = 2 ∧ t.n = 0 ∧ isNameL t.s.toList = true ∧ validC t.con = true) ∨ (t.k = 3 ∧ t.n = 0 ∧ t.s.size ≤ 255 ∧ validC t.con = true) := by
  obtain ⟨hok, he⟩ := h
  unfold termE at he
  by_cases h4 : t.k = 4
  · rw [if_pos h4] at he
    by_cases hn : t.n = 0
    · rw [if_pos hn] at he
      by_cases hv : isVarL t.s.toList = true
      · exact .inl ⟨h4, hn, hv⟩
      · rw [if_neg hv] at he; cases he
    · rw [if_neg hn] at he; cases he
  · rw [if_neg h4] at he
    by_cases hv : validC t.con = true
    · have hv2 := hv
      have hI : I64 t.n := hok.1.2.1
      unfold validC Trm.con at hv2
      simp only at hv2
      by_cases h1 : t.k = 1
      · rw [if_pos h1] at hv2
        refine .inr (.inl ⟨h1, ?_, hI, hv⟩)
        have h : t.s.toList = [] := by simpa using hv2
        apply bytes_ext
        rw [ByteArray.toList_eq] at h
        rw [h]
      · rw [if_neg h1] at hv2
        by_cases h2 : t.k = 2
        · rw [if_pos h2] at hv2
          simp only [Bool.and_eq_true, beq_iff_eq] at hv2
          exact .inr (.inr (.inl ⟨h2, hv2.1, hv2.2, hv⟩))
        · rw [if_neg h2] at hv2
          by_cases h3 : t.k = 3
          · rw [if_pos h3] at hv2
            simp only [Bool.and_eq_true, beq_iff_eq, decide_eq_true_eq] at hv2
            exact .inr (.inr (.inr ⟨h3, hv2.1, hv2.2, hv⟩))
          · rw [if_neg h3] at hv2; cases hv2
    · rw [if_neg hv] at he; cases he
theorem t_tkn {t : Trm} (h : okT t) : Tkn (trmT t) (tX t) okWord := by
  rcases okT_cases h with ⟨hk, hn, hv⟩ | ⟨hk, hs, hI, hv⟩ | ⟨hk, hn, hm, hv⟩ | ⟨hk, hn, hs, hv⟩
  · have e1 : trmT t = t.s.data.toList := by unfold trmT; rw [if_pos hk]
    have e2 : tX t = ⟨2, t.s, 0, 0, 0, 0⟩ := by unfold tX; rw [if_pos hk]
    rw [e1, e2]
    exact var_tkn hv
  · have e1 : trmT t = itoa t.n := by unfold trmT; rw [if_neg (show ¬ t.k = 4 by omega)]; unfold textC; rw [if_pos hv, if_pos (show t.con.k = 1 from hk)]; rfl
    have e2 : tX t = ⟨3, ⟨#[]⟩, t.n, 0, 0, 0⟩ := by unfold tX; rw [if_neg (show ¬ t.k = 4 by omega), if_pos hk]
    rw [e1, e2]
    exact itoa_tkn t.n hI
  · have e1 : trmT t = t.s.data.toList := by unfold trmT; rw [if_neg (show ¬ t.k = 4 by omega)]; unfold textC; rw [if_pos hv, if_neg (show ¬ t.con.k = 1 by show ¬ t.k = 1; omega), if_pos (show t.con.k = 2 from hk)]; rfl
    have e2 : tX t = ⟨1, t.s, 0, 0, 0, 0⟩ := by unfold tX; rw [if_neg (show ¬ t.k = 4 by omega), if_neg (show ¬ t.k = 1 by omega), if_pos hk]
    rw [e1, e2]
    exact name_tkn hm
  · have e1 : trmT t = 34 :: (t.s.data.toList.flatMap escB ++ [34]) := by unfold trmT; rw [if_neg (show ¬ t.k = 4 by omega)]; unfold textC; rw [if_pos hv, if_neg (show ¬ t.con.k = 1 by show ¬ t.k = 1; omega), if_neg (show ¬ t.con.k = 2 by show ¬ t.k = 2; omega), quot_bytes]; rfl
    have e2 : tX t = ⟨4, t.s, 0, 0, 0, 0⟩ := by unfold tX; rw [if_neg (show ¬ t.k = 4 by omega), if_neg (show ¬ t.k = 1 by omega), if_neg (show ¬ t.k = 2 by omega)]
    rw [e1, e2]
    exact esc_tkn t.s.data.toList hs
theorem t_kind (t : Trm) : (tX t).k ∈ termKs := by
  unfold tX
  repeat' split
  all_goals (simp [termKs])
def tkAtP (x : Tok) (o len : Nat) : Tok := ⟨x.k, x.t, x.n, x.op, o, o + len⟩
theorem t_back {t : Trm} (h : okT t) (o len : Nat) : (termP (tkAtP (tX t) o len)).st = t.st := by
  rcases okT_cases h with ⟨hk, hn, hv⟩ | ⟨hk, hs, hI, hv⟩ | ⟨hk, hn, hm, hv⟩ | ⟨hk, hn, hs, hv⟩
  · unfold tX
    rw [if_pos hk]
    show (⟨4, 0, t.s, 0⟩ : Trm) = ⟨t.k, t.n, t.s, 0⟩
    rw [hk, hn]
  · unfold tX
    rw [if_neg (by omega), if_pos hk]
    show (⟨1, t.n, ⟨#[]⟩, 0⟩ : Trm) = ⟨t.k, t.n, t.s, 0⟩
    rw [hk, hs]
  · unfold tX
    rw [if_neg (by omega), if_neg (by omega), if_pos hk]
    show (⟨2, 0, t.s, 0⟩ : Trm) = ⟨t.k, t.n, t.s, 0⟩
    rw [hk, hn]
  · unfold tX
    rw [if_neg (by omega), if_neg (by omega), if_neg (by omega)]
    show (⟨3, 0, t.s, 0⟩ : Trm) = ⟨t.k, t.n, t.s, 0⟩
    rw [hk, hn]
end Go.Proofs.YtchhophblejmeaaGreatDoor

namespace Go.Proofs.YtchhophblejmeaaGreatDoor
set_option linter.unusedSimpArgs false
set_option linter.unusedVariables false
open Go.RowKit

def nameM (s : ByteArray) : ByteArray := if strOf (wordI s 97) = ⟨#[110, 111, 116]⟩ then ⟨#[110, 111, 116, 101]⟩ else strOf (wordI s 97)
def varM (s : ByteArray) : ByteArray := if s.size % 5 = 1 then ⟨#[95]⟩ else if s.size % 5 = 2 ∧ s.size < 64 then ⟨#[95]⟩ ++ strOf (wordI s 65) else strOf (wordI s 65)

set_option maxRecDepth 100000 in
set_option maxHeartbeats 1000000 in
theorem name4 (s : ByteArray) (w : World) (hs : s.size ≤ 140737488351232) :
    Calls Tryz.prog 25 #[.string s] w fun e w' => e = .returned (.string (nameM s)) ∧ Below w.heap.size w w' := by
  have HW := hide (word4 s 97 w hs (.inl rfl))
  by_cases h : strOf (wordI s 97) = ⟨#[110, 111, 116]⟩
  · have HE : Hid (nameM s = ⟨#[110, 111, 116, 101]⟩) := if_pos h
    have e1 : ((strOf (wordI s 97)).toList == [110, 111, 116]) = true := by rw [h, ByteArray.toList_eq]; rfl
    rw [HE.out]
    clear HE h
    generalize strOf (wordI s 97) = T at *
    go_enter Tryz.func25, Tryz.ntmps25
    go_wp2_with (go_at_call 44; refine HW.out.mono ?_; rintro e w1 ⟨rfl, hb⟩)
    go_ret
    exact ⟨rfl, hb⟩
  · have HE : Hid (nameM s = strOf (wordI s 97)) := if_neg h
    have e1 : ((strOf (wordI s 97)).toList == [110, 111, 116]) = false := by
      cases hq : ((strOf (wordI s 97)).toList == [110, 111, 116]) with
      | false => rfl
      | true =>
        exfalso
        apply h
        apply bytes_ext
        rw [← ByteArray.toList_eq]
        simpa using hq
    rw [HE.out]
    clear HE h
    generalize strOf (wordI s 97) = T at *
    go_enter Tryz.func25, Tryz.ntmps25
    go_wp2_with (go_at_call 44; refine HW.out.mono ?_; rintro e w1 ⟨rfl, hb⟩)
    go_ret
    exact ⟨rfl, hb⟩
theorem wordI_len (s : ByteArray) (g : Int) : 1 ≤ (wordI s g).length ∧ (wordI s g).length ≤ 64 := by
  unfold wordI
  split
  · exact ⟨by simp, by simp⟩
  · simp only [List.length_cons, List.length_map, List.length_take]
    omega

set_option maxRecDepth 100000 in
set_option maxHeartbeats 1000000 in
theorem var4 (s : ByteArray) (w : World) (hs : s.size ≤ 140737488351232) :
    Calls Tryz.prog 75 #[.string s] w fun e w' => e = .returned (.string (varM s)) ∧ Below w.heap.size w w' := by
  have HW := hide (word4 s 65 w hs (.inr rfl))
  have hl := (wordI_len s 65).2
  have hz : (strOf (wordI s 65)).size = (wordI s 65).length := strOf_size _
  have h5 : (s.size : Int).tmod 5 = ((s.size % 5 : Nat) : Int) := by rw [Int.tmod_eq_emod_of_nonneg (by omega)]; omega
  by_cases h1 : s.size % 5 = 1
  · have HE : Hid (varM s = ⟨#[95]⟩) := if_pos h1
    rw [HE.out]
    have e1 : ((s.size : Int) % 5 == 1) = true := by simp; omega
    clear HE HW
    go_enter Tryz.func75, Tryz.ntmps75
    go_wp2
    go_ret
    exact ⟨rfl, Below.refl _ _⟩
  · by_cases h2 : s.size % 5 = 2 ∧ s.size < 64
    · have HE : Hid (varM s = ⟨#[95]⟩ ++ strOf (wordI s 65)) := by show _ = _; unfold varM; rw [if_neg h1, if_pos h2]
      rw [HE.out]
      have e1 : ((s.size : Int) % 5 == 1) = false := by simp; omega
      have e2 : ((s.size : Int) % 5 == 2) = true := by simp; omega
      have e3 : (s.size : Int) < 64 := by omega
      clear HE
      generalize strOf (wordI s 65) = T at *
      go_enter Tryz.func75, Tryz.ntmps75
      go_wp2_with (go_at_call 44; refine HW.out.mono ?_; rintro e w1 ⟨rfl, hb⟩)
      go_ret
      exact ⟨rfl, hb⟩
    · have HE : Hid (varM s = strOf (wordI s 65)) := by show _ = _; unfold varM; rw [if_neg h1, if_neg h2]
      rw [HE.out]
      have e1 : ((s.size : Int) % 5 == 1) = false := by simp; omega
      clear HE
      generalize strOf (wordI s 65) = T at *
      by_cases h3 : s.size % 5 = 2
      · have e2 : ((s.size : Int) % 5 == 2) = true := by simp; omega
        have e3 : ¬ (s.size : Int) < 64 := by omega
        go_enter Tryz.func75, Tryz.ntmps75
        go_wp2_with (go_at_call 44; refine HW.out.mono ?_; rintro e w1 ⟨rfl, hb⟩)
        go_ret
        exact ⟨rfl, hb⟩
      · have e2 : ((s.size : Int) % 5 == 2) = false := by simp; omega
        go_enter Tryz.func75, Tryz.ntmps75
        go_wp2_with (go_at_call 44; refine HW.out.mono ?_; rintro e w1 ⟨rfl, hb⟩)
        go_ret
        exact ⟨rfl, hb⟩
end Go.Proofs.YtchhophblejmeaaGreatDoor

namespace Go.Proofs.YtchhophblejmeaaGreatDoor
set_option linter.unusedSimpArgs false
set_option linter.unusedVariables false
open Go.RowKit
attribute [local go_sem] over_cellAt over_frozenAt over_setAt

def modP (n k : Int) : Int := (n.tmod k + k) % k

set_option maxRecDepth 100000 in
set_option maxHeartbeats 1000000 in
theorem mod4_3 (n : Int) (w : World) : Calls Tryz.prog 15 #[.int .i64 n, .int .i64 3] w fun e w' => e = .returned (.int .i64 (modP n 3)) ∧ w' = w := by
  have h1 := Int.tmod_lt_of_pos n (show (0 : Int) < 3 by decide)
  have h2 := Int.lt_tmod_of_pos n (show (0 : Int) < 3 by decide)
  by_cases h0 : n.tmod 3 < 0
  · have HE : Hid (modP n 3 = n.tmod 3 + 3) := by show _ = _; unfold modP; omega
    have hw : wrap64 (n.tmod 3 + 3) = n.tmod 3 + 3 := by unfold wrap64; omega
    rw [HE.out]
    clear HE
    go_enter Tryz.func15, Tryz.ntmps15
    go_wp2
    go_ret
    exact ⟨rfl, rfl⟩
  · have HE : Hid (modP n 3 = n.tmod 3) := by show _ = _; unfold modP; omega
    rw [HE.out]
    clear HE
    go_enter Tryz.func15, Tryz.ntmps15
    go_wp2
    go_ret
    exact ⟨rfl, rfl⟩

set_option maxRecDepth 100000 in
set_option maxHeartbeats 1000000 in
theorem mod4_4 (n : Int) (w : World) : Calls Tryz.prog 15 #[.int .i64 n, .int .i64 4] w fun e w' => e = .returned (.int .i64 (modP n 4)) ∧ w' = w := by
  have h1 := Int.tmod_lt_of_pos n (show (0 : Int) < 4 by decide)
  have h2 := Int.lt_tmod_of_pos n (show (0 : Int) < 4 by decide)
  by_cases h0 : n.tmod 4 < 0
  · have HE : Hid (modP n 4 = n.tmod 4 + 4) := by show _ = _; unfold modP; omega
    have hw : wrap64 (n.tmod 4 + 4) = n.tmod 4 + 4 := by unfold wrap64; omega
    rw [HE.out]
    clear HE
    go_enter Tryz.func15, Tryz.ntmps15
    go_wp2
    go_ret
    exact ⟨rfl, rfl⟩
  · have HE : Hid (modP n 4 = n.tmod 4) := by show _ = _; unfold modP; omega
    rw [HE.out]
    clear HE
    go_enter Tryz.func15, Tryz.ntmps15
    go_wp2
    go_ret
    exact ⟨rfl, rfl⟩

set_option maxRecDepth 100000 in
set_option maxHeartbeats 1000000 in
theorem mod4_6 (n : Int) (w : World) : Calls Tryz.prog 15 #[.int .i64 n, .int .i64 6] w fun e w' => e = .returned (.int .i64 (modP n 6)) ∧ w' = w := by
  have h1 := Int.tmod_lt_of_pos n (show (0 : Int) < 6 by decide)
  have h2 := Int.lt_tmod_of_pos n (show (0 : Int) < 6 by decide)
  by_cases h0 : n.tmod 6 < 0
  · have HE : Hid (modP n 6 = n.tmod 6 + 6) := by show _ = _; unfold modP; omega
    have hw : wrap64 (n.tmod 6 + 6) = n.tmod 6 + 6 := by unfold wrap64; omega
    rw [HE.out]
    clear HE
    go_enter Tryz.func15, Tryz.ntmps15
    go_wp2
    go_ret
    exact ⟨rfl, rfl⟩
  · have HE : Hid (modP n 6 = n.tmod 6) := by show _ = _; unfold modP; omega
    rw [HE.out]
    clear HE
    go_enter Tryz.func15, Tryz.ntmps15
    go_wp2
    go_ret
    exact ⟨rfl, rfl⟩
theorem modP_lt (n : Int) {k : Int} (hk : 0 < k) : 0 ≤ modP n k ∧ modP n k < k := ⟨Int.emod_nonneg _ (by omega), Int.emod_lt_of_pos _ hk⟩
def conM (k n : Int) (s : ByteArray) : Con := if modP k 3 = 0 then ⟨1, n, ⟨#[]⟩⟩ else if modP k 3 = 1 then ⟨2, 0, nameM s⟩ else ⟨3, 0, s.extract 0 (min 255 s.size)⟩

set_option maxRecDepth 100000 in
set_option maxHeartbeats 2000000 in
theorem const4 (k n : Int) (s : ByteArray) (w : World) (hs : s.size ≤ 140737488351232) :
    Calls Tryz.prog 26 #[.int .i64 k, .int .i64 n, .string s] w fun e w' => e = .returned (.agg #[.int .i64 (conM k n s).k, .int .i64 (conM k n s).n, .string (conM k n s).s]) ∧ Below w.heap.size w w' := by
  have HM : Hid (∀ x, modP k 3 = x → ∀ W, Calls Tryz.prog 15 #[.int .i64 k, .int .i64 3] W fun e w' => e = .returned (.int .i64 x) ∧ w' = W) := fun x hx W => by rw [← hx]; exact mod4_3 k W
  have HN := hide (fun W => name4 s W hs)
  have hlt := modP_lt k (k := 3) (by decide)
  by_cases h0 : modP k 3 = 0
  · have HE : Hid (conM k n s = ⟨1, n, ⟨#[]⟩⟩) := if_pos h0
    have HM0 := hide (HM.out 0 h0)
    rw [HE.out]
    clear HE HM HN h0 hlt
    go_enter Tryz.func26, Tryz.ntmps26
    go_wp2_with (go_at_call 15; refine (HM0.out _).mono ?_; rintro e w1 ⟨rfl, hw⟩; have hw := hw.symm; subst hw)
    refine bodyPost_ret (v := .agg #[.int .i64 1, .int .i64 n, .string ⟨#[]⟩]) (by simp [results, Tryz.results26, go_sem]) rfl ⟨rfl, (Below.refl _ _).alloc (Nat.le_refl _) _⟩
  · by_cases h1 : modP k 3 = 1
    · have HE : Hid (conM k n s = ⟨2, 0, nameM s⟩) := by show _ = _; unfold conM; rw [if_neg h0, if_pos h1]
      have HM0 := hide (HM.out 1 h1)
      rw [HE.out]
      clear HE HM h0 h1 hlt
      generalize nameM s = T at *
      go_enter Tryz.func26, Tryz.ntmps26
      go_wp2_with (first | (go_at_call 15; refine (HM0.out _).mono ?_; rintro e w1 ⟨rfl, hw⟩; have hw := hw.symm; subst hw) | (go_at_call 25; refine (HN.out _).mono ?_; rintro e w2 ⟨rfl, hb⟩; obtain ⟨x, rfl⟩ := over_of hb; clear hb))
      exact bodyPost_ret (v := .agg #[.int .i64 2, .int .i64 0, .string T]) (by simp [results, Tryz.results26, go_sem]) rfl ⟨rfl, ((Below.refl _ _).alloc (Nat.le_refl _) _).trans ((over_below _ x).mono (by simp))⟩
    · have HE : Hid (conM k n s = ⟨3, 0, s.extract 0 (min 255 s.size)⟩) := by show _ = _; unfold conM; rw [if_neg h0, if_neg h1]
      have HM0 := hide (HM.out 2 (by omega))
      rw [HE.out]
      clear HE HM h0 h1 hlt HN
      go_enter Tryz.func26, Tryz.ntmps26
      go_wp2_with (go_at_call 15; refine (HM0.out _).mono ?_; rintro e w1 ⟨rfl, hw⟩; have hw := hw.symm; subst hw)
      have hmn : (min 255 (s.size : Int)).toNat = min 255 s.size := by omega
      rw [hmn]
      exact bodyPost_ret (v := .agg #[.int .i64 3, .int .i64 0, .string (s.extract 0 (min 255 s.size))]) (by simp [results, Tryz.results26, go_sem]) rfl ⟨rfl, (Below.refl _ _).alloc (Nat.le_refl _) _⟩
end Go.Proofs.YtchhophblejmeaaGreatDoor

namespace Go.Proofs.YtchhophblejmeaaGreatDoor
set_option linter.unusedSimpArgs false
set_option linter.unusedVariables false
open Go.RowKit

theorem wI_word (x : Int) (h : 0 ≤ x ∧ x ≤ 255) : wordN (wI x) = true ∧ 0 ≤ wI x ∧ wI x ≤ 255 := by
  have key : ∀ n : Fin 256, wordN (wI (n.val : Int)) = true ∧ 0 ≤ wI (n.val : Int) ∧ wI (n.val : Int) ≤ 255 := by decide +kernel
  have := key ⟨x.toNat, by omega⟩
  rw [show ((x.toNat : Nat) : Int) = x from by omega] at this
  exact this
theorem byteOf_nat (x : Int) (h : 0 ≤ x ∧ x ≤ 255) : ((byteOf x).toNat : Int) = x := by
  unfold byteOf
  rw [UInt8.toNat_ofNat']
  omega
theorem wordI_byt (s : ByteArray) (g : Int) (hg : g = 97 ∨ g = 65) : (∀ x ∈ wordI s g, wordN x = true ∧ 0 ≤ x ∧ x ≤ 255) ∧ ∃ h r, wordI s g = h :: r ∧ g ≤ h ∧ h ≤ g + 25 := by
  have hb : ∀ x ∈ intsOf s, 0 ≤ x ∧ x ≤ 255 := fun x hx => by
    unfold intsOf at hx
    obtain ⟨b, -, rfl⟩ := List.mem_map.1 hx
    have := b.toNat_lt
    omega
  have hw : ∀ h : Int, g ≤ h → h ≤ g + 25 → wordN h = true ∧ 0 ≤ h ∧ h ≤ 255 := fun h h1 h2 => by
    refine ⟨?_, by omega, by omega⟩
    unfold wordN lowN upN digN
    rcases hg with rfl | rfl
    · simp; omega
    · simp; omega
  unfold wordI
  cases hi : intsOf s with
  | nil =>
    refine ⟨fun x hx => ?_, g, [], rfl, by omega, by omega⟩
    simp only [List.mem_singleton] at hx
    subst hx
    exact hw x (by omega) (by omega)
  | cons a r =>
    rw [hi] at hb
    have ha := hb a (by simp)
    refine ⟨fun x hx => ?_, _, _, rfl, by omega, by omega⟩
    rcases List.mem_cons.1 hx with rfl | hx
    · exact hw _ (by omega) (by omega)
    · obtain ⟨y, hy, rfl⟩ := List.mem_map.1 hx
      exact wI_word y (hb y (by simp [List.mem_of_mem_take hy]))
/-- A word that begins as told. -/
theorem word_isL (vs : List Int) (h1 : 1 ≤ vs.length ∧ vs.length ≤ 64) (h : ∀ x ∈ vs, wordN x = true ∧ 0 ≤ x ∧ x ≤ 255) : isWordL (strOf vs).toList = true := by
  rw [ByteArray.toList_eq, strOf_data]
  unfold isWordL
  simp only [Bool.and_eq_true, decide_eq_true_eq, List.all_eq_true, List.length_map]
  refine ⟨h1.1, h1.2, fun b hb => ?_⟩
  obtain ⟨x, hx, rfl⟩ := List.mem_map.1 hb
  unfold wordB
  rw [byteOf_nat x (h x hx).2]
  exact (h x hx).1
theorem head_strOf (h : Int) (r : List Int) (hb : 0 ≤ h ∧ h ≤ 255) : headN (strOf (h :: r)).toList = h := by
  rw [ByteArray.toList_eq, strOf_data]
  show ((byteOf h).toNat : Int) = h
  exact byteOf_nat h hb
theorem nameM_ok (s : ByteArray) : isNameL (nameM s).toList = true := by
  unfold nameM
  by_cases hn : strOf (wordI s 97) = ⟨#[110, 111, 116]⟩
  · rw [if_pos hn, ByteArray.toList_eq]
    decide
  · rw [if_neg hn]
    obtain ⟨h1, h, r, e, h2, h3⟩ := wordI_byt s 97 (.inl rfl)
    have hw := word_isL _ (wordI_len s 97) h1
    unfold isNameL
    rw [hw]
    have hh : headN (strOf (wordI s 97)).toList = h := by rw [e]; exact head_strOf h r (by omega)
    rw [hh]
    have hl : lowN h = true := by unfold lowN; simp; omega
    rw [hl]
    cases hq : ((strOf (wordI s 97)).toList == [110, 111, 116]) with
    | false => rfl
    | true =>
      exfalso
      apply hn
      apply bytes_ext
      rw [← ByteArray.toList_eq]
      simpa using hq
theorem wordI_short (s : ByteArray) (g : Int) (h0 : 0 < s.size) : (wordI s g).length ≤ s.size := by
  have hl : (intsOf s).length = s.size := intsOf_len s
  unfold wordI
  cases hi : intsOf s with
  | nil => rw [hi] at hl; simp at hl; omega
  | cons a r =>
    rw [hi] at hl
    simp only [List.length_cons, List.length_map, List.length_take] at hl ⊢
    omega
theorem varM_ok (s : ByteArray) : isVarL (varM s).toList = true := by
  obtain ⟨h1, h, r, e, h2, h3⟩ := wordI_byt s 65 (.inr rfl)
  have hll := wordI_len s 65
  unfold varM
  by_cases hs : s.size % 5 = 1
  · rw [if_pos hs, ByteArray.toList_eq]
    decide
  · rw [if_neg hs]
    by_cases h5 : s.size % 5 = 2 ∧ s.size < 64
    · rw [if_pos h5]
      have hsh := wordI_short s 65 (by omega)
      have e2 : ((⟨#[95]⟩ : ByteArray) ++ strOf (wordI s 65)) = strOf (95 :: wordI s 65) := by
        apply bytes_ext
        rw [ByteArray.data_append, Array.toList_append, strOf_data, strOf_data]
        rfl
      have hw := word_isL (95 :: wordI s 65) ⟨by simp, by simp only [List.length_cons]; omega⟩ (fun x hx => by
        rcases List.mem_cons.1 hx with rfl | hx
        · exact ⟨by decide, by omega, by omega⟩
        · exact h1 x hx)
      rw [e2]
      unfold isVarL
      rw [hw, head_strOf 95 _ (by omega)]
      decide
    · rw [if_neg h5]
      have hw := word_isL _ hll h1
      unfold isVarL
      have hh : headN (strOf (wordI s 65)).toList = h := by rw [e]; exact head_strOf h r (by omega)
      rw [hw, hh]
      have hu : upN h = true := by unfold upN; simp; omega
      rw [hu]
      rfl
theorem conM_ok (k n : Int) (s : ByteArray) (hn : I64 n) : (conM k n s).ok ∧ validC (conM k n s) = true ∧ ((conM k n s).k = 1 ∨ (conM k n s).k = 2 ∨ (conM k n s).k = 3) := by
  have h0 : I64 0 := by unfold I64; omega
  have hkk : ∀ x : Int, 0 ≤ x ∧ x ≤ 4 → I64 x := fun x hx => by unfold I64; omega
  have hnm := nameM_ok s
  have hnl : (nameM s).size ≤ 64 := by
    have := hnm
    unfold isNameL isWordL at this
    simp only [Bool.and_eq_true, decide_eq_true_eq] at this
    have h2 := this.1.2.1
    rw [toListLen] at h2
    exact h2
  unfold conM
  by_cases h1 : modP k 3 = 0
  · rw [if_pos h1]
    refine ⟨⟨hkk 1 (by omega), hn, by show (0 : Nat) ≤ _; omega⟩, ?_, .inl rfl⟩
    unfold validC
    rw [if_pos rfl, ByteArray.toList_eq]
    rfl
  · rw [if_neg h1]
    by_cases h2 : modP k 3 = 1
    · rw [if_pos h2]
      refine ⟨⟨hkk 2 (by omega), h0, by show (nameM s).size ≤ _; omega⟩, ?_, .inr (.inl rfl)⟩
      unfold validC
      rw [if_neg (show ¬ (2 : Int) = 1 by decide), if_pos rfl, hnm]
      rfl
    · rw [if_neg h2]
      have hz : (s.extract 0 (min 255 s.size)).size ≤ 255 := by rw [ByteArray.size_extract]; omega
      refine ⟨⟨hkk 3 (by omega), h0, by show (s.extract 0 (min 255 s.size)).size ≤ _; omega⟩, ?_, .inr (.inr rfl)⟩
      unfold validC
      rw [if_neg (show ¬ (3 : Int) = 1 by decide), if_neg (show ¬ (3 : Int) = 2 by decide), if_pos rfl]
      simpa using hz
end Go.Proofs.YtchhophblejmeaaGreatDoor

namespace Go.Proofs.YtchhophblejmeaaGreatDoor
set_option linter.unusedSimpArgs false
set_option linter.unusedVariables false
open Go.RowKit
attribute [local go_sem] over_cellAt over_frozenAt over_setAt

theorem two_belowM (w : World) (x y : Obj) : Below w.heap.size w ((w.alloc x).alloc y) := ((Below.refl _ _).alloc (Nat.le_refl _) _).alloc (by simp) _
theorem alloc_cellAt (V : World) (o : Obj) (p : Addr) (h : p.block < V.heap.size) : (V.alloc o).cell? p = V.cell? p := (below1 V o).cell h
theorem alloc_frozenAt (V : World) (o : Obj) (p : Addr) (h : p.block < V.heap.size) : (V.alloc o).frozen? p = V.frozen? p := (below1 V o).frozen h
theorem alloc_setAt (V : World) (o : Obj) (p : Addr) (v : Value) (h : p.block < V.heap.size) : (V.alloc o).setCell p v = (V.setCell p v).alloc o := by
  simp only [World.alloc, World.setCell]
  congr 1
  rw [Array.push_eq_append, Array.push_eq_append]
  exact modify_append _ _ _ _ h
def trmM (k n : Int) (s : ByteArray) (o : Int) : Trm := if modP k 4 = 0 then ⟨4, 0, varM s, o⟩ else ⟨(conM k n s).k, (conM k n s).n, (conM k n s).s, o⟩

set_option maxRecDepth 100000 in
set_option maxHeartbeats 2000000 in
theorem term4a (k n : Int) (s : ByteArray) (o : Int) (w : World) (hs : s.size ≤ 140737488351232) (h0 : modP k 4 = 0) :
    Calls Tryz.prog 58 #[.agg #[.int .i64 k, .int .i64 n, .string s, .int .i64 o]] w fun e w' => e = .returned (.agg #[.int .i64 4, .int .i64 0, .string (varM s), .int .i64 o]) ∧ Below w.heap.size w w' := by
  have HM : Hid (∀ W, Calls Tryz.prog 15 #[.int .i64 k, .int .i64 4] W fun e w' => e = .returned (.int .i64 0) ∧ w' = W) := fun W => by rw [← h0]; exact mod4_4 k W
  have HV := hide (fun W => var4 s W hs)
  clear h0
  generalize varM s = T at *
  go_enter Tryz.func58, Tryz.ntmps58
  go_wp2_with (go_at_call 15; refine (HM.out _).mono ?_; rintro e w1 ⟨rfl, hw⟩; have hw := hw.symm; subst hw)
  go_region_with (go_at_call 75; refine (HV.out _).mono ?_; rintro e w2 ⟨rfl, hb⟩; obtain ⟨x, rfl⟩ := over_of hb; clear hb)
  all_goals (try go_wp2)
  all_goals exact bodyPost_ret (v := .agg #[.int .i64 4, .int .i64 0, .string T, .int .i64 o]) (by simp [results, Tryz.results58, go_sem]) rfl ⟨rfl, (by first | exact (two_belowM w _ _).drew.trans ((over_below _ x).mono (by simp <;> omega)) | exact (((two_belowM w _ _).trans ((over_below _ x).mono (by simp <;> omega)))).drew | exact (two_belowM w _ _).trans ((over_below _ x).mono (by simp <;> omega)))⟩

section
attribute [local go_sem] alloc_cellAt alloc_frozenAt alloc_setAt
set_option maxRecDepth 100000 in
set_option maxHeartbeats 2000000 in
theorem term4b (k n : Int) (s : ByteArray) (o : Int) (w : World) (hs : s.size ≤ 140737488351232) (h0 : modP k 4 ≠ 0) :
    Calls Tryz.prog 58 #[.agg #[.int .i64 k, .int .i64 n, .string s, .int .i64 o]] w fun e w' => e = .returned (.agg #[.int .i64 (conM k n s).k, .int .i64 (conM k n s).n, .string (conM k n s).s, .int .i64 o]) ∧ Below w.heap.size w w' := by
  have HC := hide (fun W => const4 k n s W hs)
  obtain ⟨m, hm⟩ : ∃ m, m = modP k 4 := ⟨_, rfl⟩
  have HM : Hid (∀ W, Calls Tryz.prog 15 #[.int .i64 k, .int .i64 4] W fun e w' => e = .returned (.int .i64 m) ∧ w' = W) := fun W => by rw [hm]; exact mod4_4 k W
  have e0 : (m == 0) = false := by rw [hm]; simpa using h0
  clear hm h0
  generalize (conM k n s).k = ck at *
  generalize (conM k n s).n = cn at *
  generalize (conM k n s).s = T at *
  go_enter Tryz.func58, Tryz.ntmps58
  go_wp2_with (go_at_call 15; refine (HM.out _).mono ?_; rintro e w1 ⟨rfl, hw⟩; have hw := hw.symm; subst hw)
  refine (HC.out _).mono ?_
  rintro e w2 ⟨rfl, hb⟩
  have hW1 := two_belowM w (.cells #[.int .i64 k, .int .i64 n, .string s, .int .i64 o] 54) (.cells #[.int .i64 0, .int .i64 0, .string ⟨#[]⟩, .int .i64 0] 54)
  have HBw := hide (hW1.trans (hb.mono hW1.size))
  have hr : w2.heap[w.heap.size + 1]? = some (.cells #[.int .i64 0, .int .i64 0, .string ⟨#[]⟩, .int .i64 0] 54 (0, 0)) := by
    rw [hb.block _ (by simp)]
    have := heap_alloc_new (w.alloc (.cells #[.int .i64 k, .int .i64 n, .string s, .int .i64 o] 54)) (.cells #[.int .i64 0, .int .i64 0, .string ⟨#[]⟩, .int .i64 0] 54)
    simpa using this
  have p3 : w2.cell? ⟨w.heap.size, 3, none⟩ = some (.int .i64 o) := kept_cell hb (by simp)
  have hg1 : w.heap.size + 1 < w2.heap.size := by have := hb.size; simp only [World.size_alloc] at this; omega
  have hg0 : w.heap.size < w2.heap.size := by omega
  have r0 : w2.cell? ⟨w.heap.size + 1, 0, none⟩ = some (.int .i64 0) := by simp [World.cell?, hr]
  have r1 : w2.cell? ⟨w.heap.size + 1, 1, none⟩ = some (.int .i64 0) := by simp [World.cell?, hr]
  have r2 : w2.cell? ⟨w.heap.size + 1, 2, none⟩ = some (.string ⟨#[]⟩) := by simp [World.cell?, hr]
  have r3 : w2.cell? ⟨w.heap.size + 1, 3, none⟩ = some (.int .i64 0) := by simp [World.cell?, hr]
  have f0 : w2.frozen? ⟨w.heap.size + 1, 0, none⟩ = false := by simp [World.frozen?, hr]
  have f1 : w2.frozen? ⟨w.heap.size + 1, 1, none⟩ = false := by simp [World.frozen?, hr]
  have f2 : w2.frozen? ⟨w.heap.size + 1, 2, none⟩ = false := by simp [World.frozen?, hr]
  have f3 : w2.frozen? ⟨w.heap.size + 1, 3, none⟩ = false := by simp [World.frozen?, hr]
  clear hb hr hW1
  go_wp2
  refine bodyPost_ret (v := .agg #[.int .i64 ck, .int .i64 cn, .string T, .int .i64 o]) (by simp [results, Tryz.results58, go_sem, r0, r1, r2, r3, hg1]) rfl ⟨rfl, ?_⟩
  refine Below.alloc (Below.setCell (Below.setCell (Below.setCell (Below.setCell HBw.out ?_ _) ?_ _) ?_ _) ?_ _) (by simp <;> omega) _
  all_goals exact Nat.le_succ w.heap.size
end
end Go.Proofs.YtchhophblejmeaaGreatDoor

namespace Go.Proofs.YtchhophblejmeaaGreatDoor
set_option linter.unusedSimpArgs false
set_option linter.unusedVariables false
open Go.RowKit

/-- Parts that stand in a list of their own, joined. -/
theorem join_lit {w0 V : World} {B : Nat} {l bl : List UInt8} {btw : ByteArray} (hbt : btw = ⟨bl.toArray⟩) {ps : List (Value × List UInt8)} {g pc n : Nat} (hps : ∀ x ∈ ps, Wr w0 x.1 x.2)
    (hblk : V.heap[g]? = some (.cells (ps.map (·.1)).toArray 99 (0, 0))) (hg : B < g) (hnn : n = ps.length) (hW : Below w0.heap.size w0 V) (hB : w0.heap.size ≤ B) (h : BFs B l V)
    (hl : l.length + (jn bl (ps.map (·.2))).length ≤ 100000000000000) (hn : ps.length < 1073741824) :
    Calls Tryz.prog 155 #[.pointer (some ⟨B, 0, none⟩), .string btw, .slice (some ⟨g, 0, none⟩) n pc] V fun e w' => e = .returned (.tuple #[]) ∧ BFs B (l ++ jn bl (ps.map (·.2))) w' ∧ Kp B V w' := by
  rw [hnn]
  refine join_any hbt hps (fun _ => ⟨g, rfl, fun V2 hk i x hx => ?_⟩) hW hB h hl hn
  have h2 := hk.block hblk (by omega) (fun c fz e => by simp only [Obj.cells.injEq] at e; exact absurd e.2.1 (by decide))
  rw [Lib.cell_of_heap h2]
  simp [hx]
end Go.Proofs.YtchhophblejmeaaGreatDoor

namespace Go.Proofs.YtchhophblejmeaaGreatDoor
set_option linter.unusedSimpArgs false
set_option linter.unusedVariables false
open Go.RowKit

theorem Tryz.infoPartLix : (Tryz.prog.info? 99).map (fun i => (i.zero, i.size, i.bytes)) = some (some .nilIface, 1, 16) := by kernel_rfl
/-- A thing as a part. -/
def pvLix (x : Lix) : Value := .iface 229 (.agg #[.int .i64 x.k, .string x.a.p, x.a.v, .int .i64 x.a.off, .int .i64 x.op, .int .i64 x.l.k, .int .i64 x.l.n, .string x.l.s, .int .i64 x.l.off, .int .i64 x.r.k, .int .i64 x.r.n, .string x.r.s, .int .i64 x.r.off, .int .i64 x.off])

set_option maxRecDepth 100000 in
set_option maxHeartbeats 2000000 in
theorem partLix (x : Lix) (ya : Option Addr) (yl yc : Nat) (w : World) : Calls Tryz.prog 179 #[.agg #[.int .i64 x.k, .string x.a.p, .slice ya yl yc, .int .i64 x.a.off, .int .i64 x.op, .int .i64 x.l.k, .int .i64 x.l.n, .string x.l.s, .int .i64 x.l.off, .int .i64 x.r.k, .int .i64 x.r.n, .string x.r.s, .int .i64 x.r.off, .int .i64 x.off]] w fun e w' => e = .returned (.iface 229 (.agg #[.int .i64 x.k, .string x.a.p, .slice ya yl yc, .int .i64 x.a.off, .int .i64 x.op, .int .i64 x.l.k, .int .i64 x.l.n, .string x.l.s, .int .i64 x.l.off, .int .i64 x.r.k, .int .i64 x.r.n, .string x.r.s, .int .i64 x.r.off, .int .i64 x.off])) ∧ Below w.heap.size w w' := by
  go_enter Tryz.func179, Tryz.ntmps179
  go_wp2
  go_ret
  exact ⟨rfl, (Below.refl _ _).alloc (Nat.le_refl _) _⟩

theorem news_partLix (wr : World) (u : Value) : ∀ j x, ([u] : List Value)[j]? = some x → (wr.alloc (.cells #[u] 99)).cell? ((⟨wr.heap.size, 0, none⟩ : Addr).add j) = some x :=
  World.news_of_block (cs := #[u]) (t := 99) (fr := (0, 0)) (heap_alloc_new wr _)

set_option maxRecDepth 100000 in
set_option maxHeartbeats 8000000 in
theorem partsLix {w : World} {v : Value} {cs : List Lix} (h : Has elLix w v cs) :
    Calls Tryz.prog 178 #[v, .func (.func 179) #[] #[]] w fun e w' => ∃ v', e = .returned v' ∧ w'.ownsRow w.heap.size 99 1 v' cs.length (cs.map pvLix) ∧ Below w.heap.size w w' := by
  obtain ⟨i0, hi0, hz0, hz1, hz2⟩ := info_parts Tryz.infoPartLix
  obtain ⟨ao, cap, rfl, hcap, hnone, hlen⟩ := h.shape
  have HP := hide h
  clear h hnone hcap
  obtain ⟨n, hn⟩ : ∃ n, n = cs.length := ⟨_, rfl⟩
  rw [← hn] at hlen ⊢
  have HN := hide hn
  clear hn
  go_enter Tryz.func178, Tryz.ntmps178
  go_wp2_with (at_make; refine wpList_make_own _ rfl _ _ 213 rfl w.heap.size 99 i0 .nilIface 1 Tryz.underlying213 hi0 hz0 hz1 _ _ _ n rfl rfl (by go_num) (by rw [hz2]; omega) (by unfold maxLen; omega) (Nat.le_refl _) ?_; intro w1 hown hgrow; have hb1 : Below w.heap.size w w1 := (Below.refl _ _).grown hgrow (Nat.le_refl _) (by simp); have HO := hide hown; have HB := hide hb1; clear hown hgrow hb1)
  go_loopw [5, 13] (fun pv i wr => ∃ k : Nat, k ≤ n ∧ i = .int .i64 k ∧ Hid (wr.ownsRow w.heap.size 99 1 pv k ((cs.take k).map pvLix)) ∧ Hid (Below w.heap.size w wr)) (fun _ i _ => n - (intOf i).toNat)
  case atStart => exact ⟨0, Nat.zero_le _, rfl, HO.out, HB.out⟩
  case round =>
    clear HO HB
    obtain ⟨k, hk, rfl, HO, HB⟩ := hrel
    obtain ⟨bo, bc, rfl⟩ := own_shape HO.out
    by_cases hlt : k < n
    · have hi : (k : Int) < (n : Int) := by omega
      have hi0' : (0 : Int) ≤ (k : Int) := by omega
      obtain ⟨x, hx⟩ : ∃ x, cs[k]? = some x := ⟨_, List.getElem?_eq_getElem (by have := HN.out; omega)⟩
      obtain ⟨pb, off, rfl, hpb, -, hrow⟩ := (HP.out).row (by have := HN.out; omega)
      obtain ⟨ya, yc, hyv, -⟩ := (HP.out.ok (List.mem_of_getElem? hx)).2.1.2.2.shape
      obtain ⟨yl, hyl⟩ : ∃ yl, yl = x.a.ts.length := ⟨_, rfl⟩
      rw [← hyl] at hyv
      have c0 := kept_cell HB.out (hrow k x hx 0 _ rfl)
      have c1 := kept_cell HB.out (hrow k x hx 1 _ rfl)
      have c2 := kept_cell HB.out (hrow k x hx 2 _ rfl)
      have c3 := kept_cell HB.out (hrow k x hx 3 _ rfl)
      have c4 := kept_cell HB.out (hrow k x hx 4 _ rfl)
      have c5 := kept_cell HB.out (hrow k x hx 5 _ rfl)
      have c6 := kept_cell HB.out (hrow k x hx 6 _ rfl)
      have c7 := kept_cell HB.out (hrow k x hx 7 _ rfl)
      have c8 := kept_cell HB.out (hrow k x hx 8 _ rfl)
      have c9 := kept_cell HB.out (hrow k x hx 9 _ rfl)
      have c10 := kept_cell HB.out (hrow k x hx 10 _ rfl)
      have c11 := kept_cell HB.out (hrow k x hx 11 _ rfl)
      have c12 := kept_cell HB.out (hrow k x hx 12 _ rfl)
      have c13 := kept_cell HB.out (hrow k x hx 13 _ rfl)
      simp only [elLix, Nat.add_zero] at c0 c1 c2 c3 c4 c5 c6 c7 c8 c9 c10 c11 c12 c13
      rw [hyv] at c2
      have HPt := hide (fun W => partLix x ya yl yc W)
      have HPv : Hid (pvLix x = .iface 229 (.agg #[.int .i64 x.k, .string x.a.p, .slice ya yl yc, .int .i64 x.a.off, .int .i64 x.op, .int .i64 x.l.k, .int .i64 x.l.n, .string x.l.s, .int .i64 x.l.off, .int .i64 x.r.k, .int .i64 x.r.n, .string x.r.s, .int .i64 x.r.off, .int .i64 x.off])) := by show pvLix x = _; unfold pvLix; rw [hyv]
      have HTk : Hid ((cs.take (k + 1)).map pvLix = (cs.take k).map pvLix ++ [pvLix x]) := by show _ = _; rw [List.take_add_one, hx, List.map_append]; rfl
      have hbn := HB.out.size
      clear hrow hx HP hyv hyl
      go_wp2_with (first
        | (go_at_call 179; refine (HPt.out _).mono ?_; rintro e w2 ⟨rfl, hb2⟩; have HO2 : Hid (w2.ownsRow w.heap.size 99 1 (.slice bo k bc) k ((cs.take k).map pvLix)) := own_kept (World.ownsRow.alloc HO.out _) hb2; have HB2 : Hid (Below w.heap.size w w2) := (HB.out.alloc HB.out.size _).trans (hb2.mono (by simp; omega)); clear hb2 HPt; have hb3 := HB2.out.size)
        | (at_builtin; refine wpList_append_lies _ rfl _ _ 213 rfl w.heap.size 99 i0 .nilIface 1 16 Tryz.underlying213 hi0 hz0 hz1 hz2 rfl (by decide) (.slice bo k bc) k ((cs.take k).map pvLix) rfl (World.ownsRow.alloc HO2.out _) ⟨w2.heap.size, 0, none⟩ 1 1 [.iface 229 (.agg #[.int .i64 x.k, .string x.a.p, .slice ya yl yc, .int .i64 x.a.off, .int .i64 x.op, .int .i64 x.l.k, .int .i64 x.l.n, .string x.l.s, .int .i64 x.l.off, .int .i64 x.r.k, .int .i64 x.r.n, .string x.r.s, .int .i64 x.r.off, .int .i64 x.off])] rfl rfl (news_partLix w2 (.iface 229 (.agg #[.int .i64 x.k, .string x.a.p, .slice ya yl yc, .int .i64 x.a.off, .int .i64 x.op, .int .i64 x.l.k, .int .i64 x.l.n, .string x.l.s, .int .i64 x.l.off, .int .i64 x.r.k, .int .i64 x.r.n, .string x.r.s, .int .i64 x.r.off, .int .i64 x.off]))) (by simp [Value.oneCell']) (by decide) (by unfold maxLen; omega) (by omega) (by simp; omega) (w2.heap.size + 1) (by simp) ?_; intro gg cap' w3 hown1 hgrow hat hlt1))
      have HB3 := hide (grown_below HB2.out HB2.out.size HO2.out hgrow)
      have HO3 : Hid (w3.ownsRow w.heap.size 99 1 (.slice (some ⟨gg, 0, none⟩) (k + 1) cap') (k + 1) ((cs.take (k + 1)).map pvLix)) := by show World.ownsRow _ _ _ _ _ _ _; rw [HTk.out, HPv.out]; exact hown1
      clear hown1 hgrow hat hlt1 HO2
      go_wp2
      go_roundw
      case rel => exact ⟨k + 1, by omega, by go_num, HO3.out, HB3.out⟩
      case measure => simp [intOf]; omega
    · obtain rfl : k = n := by omega
      have hi : ¬ (k : Int) < (k : Int) := by omega
      have hF := HO.out
      rw [List.take_of_length_le (by rw [HN.out]; exact Nat.le_refl _)] at hF
      have HF := hide hF
      clear hF
      go_wp2
      go_ret
      exact ⟨_, rfl, HF.out, HB.out⟩
end Go.Proofs.YtchhophblejmeaaGreatDoor

namespace Go.Proofs.YtchhophblejmeaaGreatDoor
set_option linter.unusedSimpArgs false
set_option linter.unusedVariables false
open Go.RowKit

theorem own_low {b b' size n : Nat} {w : World} {e : TypeId} {v : Value} {xs : List Value} (hb : b' ≤ b) (h : w.ownsRow b e size v n xs) : w.ownsRow b' e size v n xs := by
  refine ⟨h.1, ?_⟩
  rcases h.2 with h | ⟨g, cap, cur, e, hg, r⟩
  · exact .inl h
  · exact .inr ⟨g, cap, cur, e, by omega, r⟩
end Go.Proofs.YtchhophblejmeaaGreatDoor
