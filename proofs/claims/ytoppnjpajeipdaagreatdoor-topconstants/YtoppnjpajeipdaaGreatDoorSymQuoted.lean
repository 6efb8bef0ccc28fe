/- sym.quoted: the text's bytes, each as it is written, between quotes. -/
import Derived.Test.YtoppnjpajeipdaaGreatDoorProg
import Derived.Test.YtoppnjpajeipdaaGreatDoorSymEsc
namespace Go.Proofs.YtoppnjpajeipdaaGreatDoor
set_option linter.unusedSimpArgs false
set_option linter.unusedVariables false
open Go.RowKit

def quotI (s : ByteArray) : List Int := (34 :: (intsOf s).flatMap escI) ++ [34]

theorem intsOf_len (s : ByteArray) : (intsOf s).length = s.size := by unfold intsOf; rw [List.length_map]; rfl
theorem intsOf_take (s : ByteArray) (k : Nat) (h : k < s.size) : (intsOf s).take (k + 1) = (intsOf s).take k ++ [(s[k].toNat : Int)] := by
  have : (intsOf s)[k]? = some (s[k].toNat : Int) := by
    unfold intsOf
    rw [List.getElem?_map, List.getElem?_eq_getElem (by simpa using h)]
    rfl
  rw [List.take_add_one, this]; rfl
theorem escs_len (l : List Int) : (l.flatMap escI).length ≤ 4 * l.length := by
  induction l with
  | nil => simp
  | cons a r ih => rw [List.flatMap_cons, List.length_append, List.length_cons]; have := escI_len a; omega

set_option maxHeartbeats 2000000 in
set_option maxRecDepth 100000 in
theorem quoted_any (s : ByteArray) (w : World) (hs : s.size ≤ 255) :
    Calls Tryz.prog 21 #[.string s] w fun e w' => e = .returned (.string (strOf (quotI s))) ∧ Below w.heap.size w w' := by
  obtain ⟨i0, hi0, hz0, hz1, hz2⟩ := info_parts Tryz.infoByte
  go_enter Tryz.func21, Tryz.ntmps21
  go_wp2_with (at_make; refine wpList_make_own _ rfl _ _ 56 rfl w.heap.size 5 i0 (.int .u8 0) 1 Tryz.underlying56 hi0 hz0 hz1 _ _ _ (s.size + 2) rfl rfl (by go_num) (by rw [hz2]; omega) (by unfold maxLen; omega) (Nat.le_refl _) ?_)
  intro w1 hown hgrow
  have hb1 : Below w.heap.size w w1 := (Below.refl _ _).grown hgrow (Nat.le_refl _) (by simp)
  have HO := hide hown
  have HB := hide hb1
  clear hown hgrow hb1
  go_wp2_with (at_builtin; refine wpList_append_lies _ rfl _ _ 56 rfl w.heap.size 5 i0 (.int .u8 0) 1 1 Tryz.underlying56 hi0 hz0 hz1 hz2 rfl (by decide) (.slice (some ⟨w.heap.size, 0, none⟩) 0 (s.size + 2)) 0 [] rfl (World.ownsRow.alloc HO.out _) ⟨w1.heap.size, 0, none⟩ 1 1 (([34] : List Int).map (Value.int .u8)) rfl rfl (news_bytes w1 [34]) (by simp [Value.oneCell']) (by decide) (by unfold maxLen; omega) (by omega) (by have := HB.out.size; simp; omega) (w1.heap.size + 1) (by simp) ?_; intro gg cap' w2 hown1 hgrow hat hlt1)
  have HB2 := hide (grown_below HB.out HB.out.size HO.out hgrow)
  have HO2 := hide hown1
  clear hown1 hgrow hat hlt1 HO HB
  go_loopw [3, 4, 14] (fun v _ i wr => ∃ (k : Nat) (vs : List Int), k ≤ s.size ∧ i = .int .i64 k ∧ Hid (vs = 34 :: ((intsOf s).take k).flatMap escI) ∧ Hid (wr.ownsRow w.heap.size 5 1 v vs.length (vs.map (Value.int .u8))) ∧ Hid (Below w.heap.size w wr)) (fun _ _ i _ => s.size - (intOf i).toNat)
  case atStart => exact ⟨0, [34], by omega, rfl, rfl, HO2.out, HB2.out⟩
  case round =>
    obtain ⟨k, vs, hk, rfl, HV, HO, HB⟩ := hrel
    have hvs : vs.length ≤ 1 + 4 * k := by
      have h1 := escs_len ((intsOf s).take k)
      have h2 : ((intsOf s).take k).length ≤ k := by rw [List.length_take]; omega
      rw [HV.out, List.length_cons]; omega
    obtain ⟨ao, cap, rfl⟩ := own_shape HO.out
    by_cases hlt : k < s.size
    · have hi : (k : Int) < (s.size : Int) := by omega
      have hb : (0 : Int) ≤ (s[k].toNat : Int) ∧ (s[k].toNat : Int) ≤ 255 := by have := s[k].toNat_lt; omega
      have HE := hide (esc_any ao cap w.heap.size vs (s[k].toNat : Int) wr HO.out HB.out.size (by omega) hb)
      have HV2 : Hid (vs ++ escI (s[k].toNat : Int) = 34 :: ((intsOf s).take (k + 1)).flatMap escI) := by
        show _ = _
        rw [intsOf_take s k hlt, List.flatMap_append, HV.out]; simp
      go_wp2_with (go_at_call 35; refine HE.out.mono ?_; rintro e w' ⟨v', rfl, hown', hbel'⟩)
      have HO' := hide hown'
      have HB' := hide (HB.out.trans hbel')
      clear hown' hbel' HE
      go_wp2
      go_roundw
      case rel => exact ⟨k + 1, _, by omega, by go_num, HV2, HO', HB'⟩
      case measure => simp [intOf]; omega
    · have hi : ¬ (k : Int) < (s.size : Int) := by omega
      have HQ : Hid (vs ++ [34] = quotI s) := by
        show _ = _
        unfold quotI
        rw [HV.out, List.take_of_length_le (by rw [intsOf_len]; omega)]
      go_wp2_with (at_builtin; refine wpList_append_lies _ rfl _ _ 56 rfl w.heap.size 5 i0 (.int .u8 0) 1 1 Tryz.underlying56 hi0 hz0 hz1 hz2 rfl (by decide) (.slice ao vs.length cap) vs.length (vs.map (Value.int .u8)) rfl (World.ownsRow.alloc HO.out _) ⟨wr.heap.size, 0, none⟩ 1 1 (([34] : List Int).map (Value.int .u8)) rfl rfl (news_bytes wr [34]) (by simp [Value.oneCell']) (by decide) (by unfold maxLen; omega) (by omega) (by have := HB.out.size; simp; omega) (wr.heap.size + 1) (by simp) ?_; intro gg cap' w2 hown1 hgrow hat hlt1)
      have HB2 := hide (grown_below HB.out HB.out.size HO.out hgrow)
      have hown2 : w2.ownsRow w.heap.size 5 1 (.slice (some ⟨gg, 0, none⟩) (vs.length + 1) cap') (vs ++ [34]).length ((vs ++ [34]).map (Value.int .u8)) := by rw [List.length_append, List.map_append]; exact hown1
      have hconv := text_string hown2
      rw [HQ.out] at hconv
      clear hown1 hown2 hgrow hat hlt1 HO HB HO2
      go_wp2
      rw [hconv]
      go_wp2
      go_ret
      exact ⟨rfl, HB2.out⟩
end Go.Proofs.YtoppnjpajeipdaaGreatDoor
