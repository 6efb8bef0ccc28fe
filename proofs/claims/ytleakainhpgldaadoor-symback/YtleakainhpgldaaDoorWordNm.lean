/- edictlaw01's word: a name. -/
import Derived.Test.YtleakainhpgldaaDoorProg
import Derived.Test.YtleakainhpgldaaDoorByteRow
import Derived.Test.YtleakainhpgldaaDoorBox
import Derived.Test.YtleakainhpgldaaDoorReadPure
namespace Go.Proofs.YtleakainhpgldaaDoor
set_option linter.unusedSimpArgs false
set_option linter.unusedVariables false
open Go.RowKit

theorem byte_lit (w : World) (v : Value) : (w.alloc (.cells #[v] 5)).ownsRow w.heap.size 5 1 (.slice (some ⟨w.heap.size, 0, none⟩) 1 1) 1 [v] :=
  ⟨rfl, .inr ⟨w.heap.size, 1, #[v], rfl, Nat.le_refl _, heap_alloc_new w _, by omega, by decide, rfl, rfl⟩⟩

theorem byte_new (w : World) (v : Value) : ∀ j u, [v][j]? = some u → (w.alloc (.cells #[v] 5)).cell? ((⟨w.heap.size, 0, none⟩ : Addr).add j) = some u := by
  intro j u h
  match j, h with
  | 0, h =>
    simp only [List.getElem?_cons_zero, Option.some.injEq] at h
    subst h
    rw [addr_add]
    have h := heap_alloc_new w (.cells #[v] 5)
    simp only [World.cell?, h]
    simp only [Option.isSome_none, Bool.false_eq_true, if_false]
    rfl
  | j + 1, h => simp at h

def WInv (vs : List Int) : Prop := (∃ h r, vs = h :: r ∧ 97 ≤ h ∧ h ≤ 122) ∧ ∀ x ∈ vs, 0 ≤ x ∧ x ≤ 255 ∧ wordN x = true
theorem WInv.one {x : Int} (h : 97 ≤ x ∧ x ≤ 122) : WInv [x] := ⟨⟨x, [], rfl, h⟩, fun y hy => by
  rw [List.mem_singleton] at hy
  subst hy
  refine ⟨by omega, by omega, ?_⟩
  simp [wordN, lowN]; omega⟩
theorem WInv.snoc {vs : List Int} {x : Int} (h : WInv vs) (hb : 0 ≤ x ∧ x ≤ 255) (hw : wordN x = true) : WInv (vs ++ [x]) := by
  obtain ⟨⟨a, r, rfl, ha⟩, hall⟩ := h
  refine ⟨⟨a, r ++ [x], rfl, ha⟩, fun y hy => ?_⟩
  rcases List.mem_append.1 hy with hy | hy
  · exact hall y hy
  · rw [List.mem_singleton] at hy
    subst hy
    exact ⟨hb.1, hb.2, hw⟩
theorem WInv.snoc95 {vs : List Int} (h : WInv vs) : WInv (vs ++ [95]) := h.snoc (by decide) (by decide)
theorem WInv.name {vs : List Int} (h : WInv vs) (hl : vs.length ≤ 64) (hn : ((strOf vs).toList == [110, 111, 116]) = false) : isNameL (strOf vs).toList = true := by
  obtain ⟨⟨a, r, e, ha⟩, hall⟩ := h
  unfold isNameL
  rw [hn]
  rw [ByteArray.toList_eq, strOf_data] at *
  have h1 : isWordL (vs.map byteOf) = true := by
    unfold isWordL
    simp only [Bool.and_eq_true, decide_eq_true_eq, List.all_eq_true, List.length_map]
    refine ⟨by rw [e]; simp, hl, fun b hb => ?_⟩
    obtain ⟨x, hx, rfl⟩ := List.mem_map.1 hb
    obtain ⟨g1, g2, g3⟩ := hall x hx
    unfold wordB
    rw [show ((byteOf x).toNat : Int) = x from by unfold byteOf; rw [UInt8.toNat_ofNat']; omega]
    exact g3
  have h2 : lowN (headN (vs.map byteOf)) = true := by
    rw [e]
    show lowN ((byteOf a).toNat : Int) = true
    rw [show ((byteOf a).toNat : Int) = a from by unfold byteOf; rw [UInt8.toNat_ofNat']; omega]
    simp [lowN]; omega
  rw [h1, h2]
  rfl

set_option maxHeartbeats 4000000 in
set_option maxRecDepth 100000 in
theorem word_nm (s : ByteArray) (w : World) (hs : s.size ≤ 140737488351232) :
    Calls Tryd.prog 17 #[.string s] w fun e w' => (∃ t : ByteArray, e = .returned (.string t) ∧ isNameL t.toList = true) ∧ Below w.heap.size w w' := by
  obtain ⟨i0, hi0, hz0, hz1, hz2⟩ := info_parts Tryd.infoByte
  by_cases h0 : s.size = 0
  · have : s.toList = [] := by rw [ByteArray.toList_eq]; exact List.length_eq_zero_iff.1 h0
    go_enter Tryd.func17, Tryd.ntmps17
    go_wp2
    go_ret
    exact ⟨⟨_, rfl, by decide +kernel⟩, Below.refl _ _⟩
  · have hne : (s.toList == []) = false := by
      cases h : s.toList with
      | nil => rw [ByteArray.toList_eq] at h; exact absurd (show s.size = 0 from by have := congrArg List.length h; simpa using this) h0
      | cons a r => rfl
    have hi : (0 : Int) < (s.size : Int) := by omega
    have hxl : s[0].toNat < 256 := (s[0]).toNat_lt
    obtain ⟨x0, hx0⟩ : ∃ x0 : Int, (s[0].toNat : Int) = x0 := ⟨_, rfl⟩
    have hx1 : 0 ≤ x0 := by omega
    have hx2 : x0 ≤ 255 := by omega
    clear hxl
    go_enter Tryd.func17, Tryd.ntmps17
    go_wp2
    go_loopw [3, 4] (fun v i wr => ∃ (k : Nat) (vs : List Int), 1 ≤ k ∧ k ≤ 64 ∧ i = .int .i64 k ∧ vs.length = k ∧ Hid (WInv vs) ∧ Hid (wr.ownsRow w.heap.size 5 1 v k (vs.map (Value.int .u8))) ∧ Hid (Below w.heap.size w wr)) (fun _ i _ => 64 - (intOf i).toNat)
    case atStart => exact ⟨1, [_], by omega, by omega, rfl, rfl, WInv.one (by first | omega | (rw [Int.tmod_eq_emod_of_nonneg (by omega)]; omega)), byte_lit w _, (Below.refl _ _).alloc (Nat.le_refl _) _⟩
    case round =>
      obtain ⟨k, vs, hk1, hk2, rfl, hvl, HW, HO, HB⟩ := hrel
      clear hx0 hx1 hx2
      obtain ⟨ao, cap, rfl⟩ := own_shape HO.out
      by_cases hlt : k < s.size
      · have hi2 : (k : Int) < (s.size : Int) := by omega
        by_cases hlt2 : k < 64
        · have hi3 : (k : Int) < 64 := by omega
          have hb : (0 : Int) ≤ (s[k].toNat : Int) ∧ (s[k].toNat : Int) ≤ 255 := by have := s[k].toNat_lt; omega
          generalize hb0 : (s[k].toNat : Int) = b at *
          have HS := hide (fun (h : wordN b = true) => HW.out.snoc hb h)
          have HN := hide HW.out.snoc95
          have hcase : (97 ≤ b ∧ b ≤ 122) ∨ (¬ 97 ≤ b ∧ 65 ≤ b ∧ b ≤ 90) ∨ (¬ 97 ≤ b ∧ ¬ 65 ≤ b ∧ 48 ≤ b ∧ b ≤ 57) ∨ (¬ 97 ≤ b ∧ 65 ≤ b ∧ ¬ b ≤ 90 ∧ 48 ≤ b ∧ ¬ b ≤ 57 ∧ b = 95)
            ∨ (97 ≤ b ∧ ¬ b ≤ 122 ∧ 65 ≤ b ∧ ¬ b ≤ 90 ∧ 48 ≤ b ∧ ¬ b ≤ 57 ∧ b ≠ 95) ∨ (¬ 97 ≤ b ∧ 65 ≤ b ∧ ¬ b ≤ 90 ∧ 48 ≤ b ∧ ¬ b ≤ 57 ∧ b ≠ 95) ∨ (¬ 97 ≤ b ∧ ¬ 65 ≤ b ∧ 48 ≤ b ∧ ¬ b ≤ 57 ∧ b ≠ 95) ∨ (¬ 97 ≤ b ∧ ¬ 65 ≤ b ∧ ¬ 48 ≤ b ∧ b ≠ 95) := by omega
          rcases hcase with ⟨q1, q2⟩ | ⟨q1, q2, q3⟩ | ⟨q1, q2, q3, q4⟩ | ⟨q1, q2, q3, q4, q5, q6⟩ | ⟨q1, q2, q3, q4, q5, q6, q7⟩ | ⟨q1, q2, q3, q4, q5, q6⟩ | ⟨q1, q2, q3, q4, q5⟩ | ⟨q1, q2, q3, q4⟩
          all_goals (
            go_wp2_with (at_builtin; refine wpList_append_lies _ rfl _ _ 37 rfl w.heap.size 5 i0 (.int .u8 0) 1 1 Tryd.underlying37 hi0 hz0 hz1 hz2 rfl (by decide) (.slice ao k cap) k (vs.map (Value.int .u8)) rfl (World.ownsRow.alloc HO.out _) ⟨wr.heap.size, 0, none⟩ 1 1 [_] rfl rfl (byte_new wr _) (by simp [Value.oneCell']) (by decide) (by unfold maxLen; omega) (by omega) (by have := HB.out.size; simp; omega) (wr.heap.size + 1) (by simp) ?_; intro gg cap' w2 hown1 hgrow hat hlt1)
            have HB2 := hide (grown_below HB.out HB.out.size HO.out hgrow)
            clear hat hlt1 hgrow
            go_wp2
            go_roundw
            case rel => first | exact ⟨k + 1, vs ++ [95], by omega, by omega, by go_num, by simp [hvl], HN.out, by show World.ownsRow _ _ _ _ _ _ _; rw [List.map_append]; exact hown1, HB2⟩ | exact ⟨k + 1, vs ++ [b], by omega, by omega, by go_num, by simp [hvl], HS.out (by simp [wordN, lowN, upN, digN]; omega), by show World.ownsRow _ _ _ _ _ _ _; rw [List.map_append]; exact hown1, HB2⟩
            case measure => simp [intOf]; omega)
        · have hi3 : ¬ (k : Int) < 64 := by omega
          have hcv := text_string (vs := vs) (by rw [hvl]; exact HO.out)
          have HQ := hide (HW.out.name (by omega))
          generalize strOf vs = t at *
          cases hq : (t.toList == [110, 111, 116]) with
          | true =>
            clear HQ
            go_wp2
            go_ret
            exact ⟨⟨_, rfl, by decide +kernel⟩, HB.out⟩
          | false =>
            have HQ2 := hide (HQ.out hq)
            clear HQ
            go_wp2
            go_ret
            exact ⟨⟨_, rfl, HQ2.out⟩, HB.out⟩
      · have hi2 : ¬ (k : Int) < (s.size : Int) := by omega
        have hcv := text_string (vs := vs) (by rw [hvl]; exact HO.out)
        have HQ := hide (HW.out.name (by omega))
        generalize strOf vs = t at *
        cases hq : (t.toList == [110, 111, 116]) with
        | true =>
          clear HQ
          go_wp2
          go_ret
          exact ⟨⟨_, rfl, by decide +kernel⟩, HB.out⟩
        | false =>
          have HQ2 := hide (HQ.out hq)
          clear HQ
          go_wp2
          go_ret
          exact ⟨⟨_, rfl, HQ2.out⟩, HB.out⟩
end Go.Proofs.YtleakainhpgldaaDoor
