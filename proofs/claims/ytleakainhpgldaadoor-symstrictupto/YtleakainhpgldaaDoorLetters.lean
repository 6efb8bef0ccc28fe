/- edictlaw01.letters: at most 255 plain letters out of a string. -/
import Derived.Test.YtleakainhpgldaaDoorProg
import Derived.Test.YtleakainhpgldaaDoorReadPure
namespace Go.Proofs.YtleakainhpgldaaDoor
set_option linter.unusedSimpArgs false
set_option linter.unusedVariables false
open Go.RowKit

def Pln (l : List Int) : Prop := ∀ x ∈ l, 32 ≤ x ∧ x ≤ 126 ∧ x ≠ 34 ∧ x ≠ 92
theorem Pln.byt {l : List Int} (h : Pln l) : Byt l := fun x hx => by have := h x hx; omega
theorem Pln.flat {l : List Int} (h : Pln l) : l.flatMap escI = l := by
  induction l with
  | nil => rfl
  | cons a r ih =>
    rw [List.flatMap_cons, ih (fun x hx => h x (by simp [hx]))]
    have := h a (by simp)
    unfold escI
    rw [if_neg (by omega), if_neg (by omega), if_neg (by omega), if_neg (by omega), if_neg (by omega), if_pos (by omega)]
    rfl
theorem Pln.snoc {l : List Int} {x : Int} (h : Pln l) (hx : 32 ≤ x ∧ x ≤ 126 ∧ x ≠ 34 ∧ x ≠ 92) : Pln (l ++ [x]) := by
  intro y hy
  rcases List.mem_append.1 hy with hy | hy
  · exact h y hy
  · rw [List.mem_singleton] at hy; rw [hy]; exact hx

theorem own_none (w : World) (base : Nat) : w.ownsRow base 5 1 (.slice none 0 0) ([] : List Int).length (([] : List Int).map (Value.int .u8)) := ⟨rfl, .inl ⟨rfl, rfl⟩⟩

set_option maxHeartbeats 4000000 in
set_option maxRecDepth 100000 in
theorem letters_any (s : ByteArray) (w : World) (hs : s.size ≤ 140737488351232) :
    Calls Tryd.prog 9 #[.string s] w fun e w' => (∃ l : List Int, e = .returned (.string (strOf l)) ∧ Pln l ∧ l.length ≤ 255) ∧ Below w.heap.size w w' := by
  obtain ⟨i0, hi0, hz0, hy1, hy2⟩ := info_parts Tryd.infoByte
  have HN := hide (own_none w w.heap.size)
  go_enter Tryd.func9, Tryd.ntmps9
  go_wp2
  go_loopw [3, 4] (fun v i wr => ∃ (k : Nat) (l : List Int), k ≤ s.size ∧ i = .int .i64 k ∧ l.length ≤ 255 ∧ Hid (Pln l) ∧ Hid (wr.ownsRow w.heap.size 5 1 v l.length (l.map (Value.int .u8))) ∧ Hid (Below w.heap.size w wr)) (fun _ i _ => s.size - (intOf i).toNat)
  case atStart => exact ⟨0, [], by omega, rfl, by decide, (fun x hx => by cases hx), HN.out, Below.refl _ _⟩
  case round =>
    clear HN
    obtain ⟨k, l, hk, rfl, hl, HP, HO, HB⟩ := hrel
    obtain ⟨ao, cap, rfl⟩ := own_shape HO.out
    by_cases hlt : k < s.size
    · have hi : (k : Int) < (s.size : Int) := by omega
      by_cases hl2 : l.length < 255
      · have hl3 : (l.length : Int) < 255 := by omega
        have hxl : s[k].toNat < 256 := (s[k]).toNat_lt
        obtain ⟨x, hx⟩ : ∃ x : Int, (s[k].toNat : Int) = x := ⟨_, rfl⟩
        have b0 : 0 ≤ x := by omega
        have b1 : x ≤ 255 := by omega
        clear hxl
        by_cases c1 : 32 ≤ x
        · by_cases c2 : x ≤ 126
          · by_cases c3 : x = 34
            · have c3' : (x == 34) = true := by simp [c3]
              have c3'' : (x != 34) = false := by simp [c3]
              clear c3
              go_wp2
              go_roundw
              case rel => exact ⟨k + 1, l, by omega, by go_num, hl, HP.out, HO.out, HB.out⟩
              case measure => simp [intOf]; omega
            · have c3' : (x == 34) = false := by simp [c3]
              have c3'' : (x != 34) = true := by simp [c3]
              by_cases c4 : x = 92
              · have c4' : (x == 92) = true := by simp [c4]
                have c4'' : (x != 92) = false := by simp [c4]
                clear c3 c4
                go_wp2
                go_roundw
                case rel => exact ⟨k + 1, l, by omega, by go_num, hl, HP.out, HO.out, HB.out⟩
                case measure => simp [intOf]; omega
              · have c4' : (x == 92) = false := by simp [c4]
                have c4'' : (x != 92) = true := by simp [c4]
                have HP2 := hide (HP.out.snoc (x := x) ⟨c1, c2, c3, c4⟩)
                clear c3 c4
                go_wp2_with (at_builtin; refine wpList_append_lies _ rfl _ _ 37 rfl w.heap.size 5 i0 (.int .u8 0) 1 1 Tryd.underlying37 hi0 hz0 hy1 hy2 rfl (by decide) (.slice ao l.length cap) l.length (l.map (Value.int .u8)) rfl (World.ownsRow.alloc HO.out _) ⟨wr.heap.size, 0, none⟩ 1 1 (([x] : List Int).map (Value.int .u8)) rfl rfl (news_bytes wr [x]) (by simp [Value.oneCell']) (by decide) (by unfold maxLen; omega) (by omega) (by have := HB.out.size; simp; omega) (wr.heap.size + 1) (by simp) ?_; intro gg cap' w3 hown1 hgrow hat hlt1)
                have HB3 := hide (grown_below HB.out HB.out.size HO.out hgrow)
                have HO3 : Hid (w3.ownsRow w.heap.size 5 1 (.slice (some ⟨gg, 0, none⟩) (l.length + 1) cap') (l ++ [x]).length ((l ++ [x]).map (Value.int .u8))) := by show World.ownsRow _ _ _ _ _ _ _; rw [List.length_append, List.map_append]; exact hown1
                clear hown1 hgrow hat hlt1 HO HB
                go_wp2
                go_roundw
                case rel => exact ⟨k + 1, l ++ [x], by omega, by go_num, by rw [List.length_append, List.length_singleton]; omega, HP2.out, HO3.out, HB3.out⟩
                case measure => simp [intOf]; omega
          · have c2' : ¬ x ≤ 126 := c2
            go_wp2
            go_roundw
            case rel => exact ⟨k + 1, l, by omega, by go_num, hl, HP.out, HO.out, HB.out⟩
            case measure => simp [intOf]; omega
        · have c1' : ¬ 32 ≤ x := c1
          go_wp2
          go_roundw
          case rel => exact ⟨k + 1, l, by omega, by go_num, hl, HP.out, HO.out, HB.out⟩
          case measure => simp [intOf]; omega
      · have hl3 : ¬ (l.length : Int) < 255 := by omega
        have hconv := text_string HO.out
        go_wp2
        go_ret
        exact ⟨⟨l, rfl, HP.out, hl⟩, HB.out⟩
    · have hi : ¬ (k : Int) < (s.size : Int) := by omega
      have hconv := text_string HO.out
      go_wp2
      go_ret
      exact ⟨⟨l, rfl, HP.out, hl⟩, HB.out⟩
end Go.Proofs.YtleakainhpgldaaDoor
