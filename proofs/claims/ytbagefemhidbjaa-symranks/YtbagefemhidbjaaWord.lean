/- edictlaw01's word and made: some constant within the reach. -/
import Derived.Test.YtbagefemhidbjaaProg
import Derived.Test.YtbagefemhidbjaaByteRow
import Derived.Test.YtbagefemhidbjaaBox
namespace Go.Proofs.Ytbagefemhidbjaa
set_option linter.unusedSimpArgs false
set_option linter.unusedVariables false
open Go.RowKit

theorem byte_lit (w : World) (v : Value) : (w.alloc (.cells #[v] 5)).ownsRow w.heap.size 5 1 (.slice (some ⟨w.heap.size, 0, none⟩) 1 1) 1 [v] :=
  ⟨rfl, .inr ⟨w.heap.size, 1, #[v], rfl, Nat.le_refl _, heap_alloc_new w _, by omega, by decide, rfl, rfl⟩⟩

theorem byte_new (w : World) (v : Value) : ∀ j u, [v][j]? = some u → (w.alloc (.cells #[v] 5)).cell? ((⟨w.heap.size, 0, none⟩ : Addr).add j) = some u := by
  intro j u h
  match j, h with
  | 0, h =>
    simp only [List.getElem?_cons_zero, Option.some.injEq] at h
    subst h
    rw [addr_add]
    have h := heap_alloc_new w (.cells #[v] 5)
    simp only [World.cell?, h]
    simp only [Option.isSome_none, Bool.false_eq_true, if_false]
    rfl
  | j + 1, h => simp at h

set_option maxHeartbeats 4000000 in
set_option maxRecDepth 100000 in
theorem word_any (s : ByteArray) (w : World) (hs : s.size ≤ 140737488351232) :
    Calls Try.prog 39 #[.string s] w fun e w' => (∃ t : ByteArray, e = .returned (.string t) ∧ t.size ≤ 64) ∧ Below w.heap.size w w' := by
  obtain ⟨i0, hi0, hz0, hz1, hz2⟩ := info_parts Try.infoByte
  by_cases h0 : s.size = 0
  · have : s.toList = [] := by rw [ByteArray.toList_eq]; exact List.length_eq_zero_iff.1 h0
    go_enter Try.func39, Try.ntmps39
    go_wp2
    go_ret
    exact ⟨⟨_, rfl, by decide⟩, Below.refl _ _⟩
  · have hne : (s.toList == []) = false := by
      cases h : s.toList with
      | nil => rw [ByteArray.toList_eq] at h; exact absurd (show s.size = 0 from by have := congrArg List.length h; simpa using this) h0
      | cons a r => rfl
    have hi : (0 : Int) < (s.size : Int) := by omega
    go_enter Try.func39, Try.ntmps39
    go_wp2
    go_loopw [3, 4] (fun v i wr => ∃ (k : Nat) (vs : List Int), 1 ≤ k ∧ k ≤ 64 ∧ i = .int .i64 k ∧ vs.length = k ∧ Hid (wr.ownsRow w.heap.size 5 1 v k (vs.map (Value.int .u8))) ∧ Hid (Below w.heap.size w wr)) (fun _ i _ => 64 - (intOf i).toNat)
    case atStart => exact ⟨1, [_], by omega, by omega, rfl, rfl, byte_lit w _, (Below.refl _ _).alloc (Nat.le_refl _) _⟩
    case round =>
      obtain ⟨k, vs, hk1, hk2, rfl, hvl, HO, HB⟩ := hrel
      obtain ⟨ao, cap, rfl⟩ := own_shape HO.out
      by_cases hlt : k < s.size
      · have hi2 : (k : Int) < (s.size : Int) := by omega
        by_cases hlt2 : k < 64
        · have hi3 : (k : Int) < 64 := by omega
          have hb : (0 : Int) ≤ (s[k].toNat : Int) ∧ (s[k].toNat : Int) ≤ 255 := by have := s[k].toNat_lt; omega
          generalize hb0 : (s[k].toNat : Int) = b at *
          have hcase : (97 ≤ b ∧ b ≤ 122) ∨ (¬ 97 ≤ b ∧ 65 ≤ b ∧ b ≤ 90) ∨ (¬ 97 ≤ b ∧ ¬ 65 ≤ b ∧ 48 ≤ b ∧ b ≤ 57) ∨ (¬ 97 ≤ b ∧ 65 ≤ b ∧ ¬ b ≤ 90 ∧ 48 ≤ b ∧ ¬ b ≤ 57 ∧ b = 95)
            ∨ (97 ≤ b ∧ ¬ b ≤ 122 ∧ 65 ≤ b ∧ ¬ b ≤ 90 ∧ 48 ≤ b ∧ ¬ b ≤ 57 ∧ b ≠ 95) ∨ (¬ 97 ≤ b ∧ 65 ≤ b ∧ ¬ b ≤ 90 ∧ 48 ≤ b ∧ ¬ b ≤ 57 ∧ b ≠ 95) ∨ (¬ 97 ≤ b ∧ ¬ 65 ≤ b ∧ 48 ≤ b ∧ ¬ b ≤ 57 ∧ b ≠ 95) ∨ (¬ 97 ≤ b ∧ ¬ 65 ≤ b ∧ ¬ 48 ≤ b ∧ b ≠ 95) := by omega
          rcases hcase with ⟨q1, q2⟩ | ⟨q1, q2, q3⟩ | ⟨q1, q2, q3, q4⟩ | ⟨q1, q2, q3, q4, q5, q6⟩ | ⟨q1, q2, q3, q4, q5, q6, q7⟩ | ⟨q1, q2, q3, q4, q5, q6⟩ | ⟨q1, q2, q3, q4, q5⟩ | ⟨q1, q2, q3, q4⟩
          all_goals (
            go_wp2_with (at_builtin; refine wpList_append_lies _ rfl _ _ 100 rfl w.heap.size 5 i0 (.int .u8 0) 1 1 Try.underlying100 hi0 hz0 hz1 hz2 rfl (by decide) (.slice ao k cap) k (vs.map (Value.int .u8)) rfl (World.ownsRow.alloc HO.out _) ⟨wr.heap.size, 0, none⟩ 1 1 [_] rfl rfl (byte_new wr _) (by simp [Value.oneCell']) (by decide) (by unfold maxLen; omega) (by omega) (by have := HB.out.size; simp; omega) (wr.heap.size + 1) (by simp) ?_; intro gg cap' w2 hown1 hgrow hat hlt1)
            have HB2 := hide (grown_below HB.out HB.out.size HO.out hgrow)
            clear hat hlt1 hgrow
            go_wp2
            go_roundw
            case rel => exact ⟨k + 1, vs ++ [_], by omega, by omega, by go_num, by simp [hvl], by show World.ownsRow _ _ _ _ _ _ _; rw [List.map_append]; exact hown1, HB2⟩
            case measure => simp [intOf]; omega)
        · have hi3 : ¬ (k : Int) < 64 := by omega
          have hcv := text_string (vs := vs) (by rw [hvl]; exact HO.out)
          have hsz : (strOf vs).size ≤ 64 := by rw [strOf_size]; omega
          generalize strOf vs = t at *
          go_wp2
          all_goals (go_ret; first | exact ⟨⟨_, rfl, hsz⟩, HB.out⟩ | exact ⟨⟨_, rfl, by decide⟩, HB.out⟩)
      · have hi2 : ¬ (k : Int) < (s.size : Int) := by omega
        have hcv := text_string (vs := vs) (by rw [hvl]; exact HO.out)
        have hsz : (strOf vs).size ≤ 64 := by rw [strOf_size]; omega
        generalize strOf vs = t at *
        go_wp2
        all_goals (go_ret; first | exact ⟨⟨_, rfl, hsz⟩, HB.out⟩ | exact ⟨⟨_, rfl, by decide⟩, HB.out⟩)
end Go.Proofs.Ytbagefemhidbjaa
