/- The law's unused: a number that no variable of a pattern has. -/
import Derived.Test.YtgligipgjakecaaDoorRenPure
import Derived.Test.YtgligipgjakecaaDoorAlphaSame
namespace Go.Proofs.YtgligipgjakecaaDoor
set_option linter.unusedSimpArgs false
set_option linter.unusedVariables false
open Go.RowKit

set_option maxRecDepth 100000 in
set_option maxHeartbeats 2000000 in
theorem unused_any {w : World} {q : Int} {v : Value} {ss : List Slo} (h : Has elSlo w v ss) :
    Calls Tryd.prog 14 #[.agg #[.int .i64 q, v]] w fun e w' => ∃ n : Nat, e = .returned (.int .i64 (n : Int)) ∧ (n ≤ ss.length ∧ ∀ s ∈ ss, varIs (n : Int) s = false) ∧ Below w.heap.size w w' := by
  obtain ⟨va, vc, rfl, -, -, hlen⟩ := h.shape
  have HB0 := hide (belo1 w (.cells #[.int .i64 q, .slice va ss.length vc] 29))
  have hb1 : (w.alloc (.cells #[.int .i64 q, .slice va ss.length vc] 29)).cell? ⟨w.heap.size, 1, none⟩ = some (.slice va ss.length vc) := new_cells (cs := #[.int .i64 q, .slice va ss.length vc]) 1 _ rfl
  obtain ⟨W, hW⟩ : ∃ W, W = w.alloc (.cells #[.int .i64 q, .slice va ss.length vc] 29) := ⟨_, rfl⟩
  rw [← hW] at HB0 hb1
  have HL := hide (h.kept HB0.out)
  have HWd := hide hW
  clear h hW
  go_enter Tryd.func14, Tryd.ntmps14
  go_wp2
  rw [← HWd.out]
  clear HWd
  go_loopw [3] (fun n wl => ∃ k : Nat, k ≤ ss.length + 1 ∧ n = .int .i64 k ∧ Hid (∀ m < k, ∃ s ∈ ss, varIs (m : Int) s = true) ∧ wl = W) (fun n _ => ss.length + 1 - (intOf n).toNat)
  case atStart => exact ⟨0, by omega, rfl, fun m h => by omega, rfl⟩
  case round =>
    obtain ⟨k, hk, rfl, HK, rfl⟩ := hrel
    have hfew := used_few HK.out
    have hkl : (k : Int) ≤ (ss.length : Int) := by omega
    go_wp2
    go_loopw [4, 5] (fun o i wl => ∃ j : Nat, j ≤ ss.length ∧ i = .int .i64 j ∧ o = .bool ((ss.take j).any (varIs (k : Int))) ∧ wl = wr) (fun _ i _ => ss.length - (intOf i).toNat)
    case atStart => exact ⟨0, by omega, rfl, rfl, rfl⟩
    case round =>
      obtain ⟨j, hj, rfl, rfl, rfl⟩ := hrel
      by_cases hlt : j < ss.length
      · have hi : (j : Int) < (ss.length : Int) := by omega
        have hi0 : (0 : Int) ≤ (j : Int) := by omega
        obtain ⟨b, off, rfl, -, -, hrow⟩ := HL.out.row (by omega)
        obtain ⟨s, hs⟩ : ∃ s, ss[j]? = some s := ⟨_, List.getElem?_eq_getElem hlt⟩
        have y0 := hrow j s hs 0 _ rfl
        have y1 := hrow j s hs 1 _ rfl
        simp only [elSlo, Nat.add_zero] at y0 y1
        have HTk : Hid ((ss.take (j + 1)).any (varIs (k : Int)) = ((ss.take j).any (varIs (k : Int)) || varIs (k : Int) s)) := by show _ = _; rw [List.take_add_one, hs, List.any_append]; simp
        clear hrow hs
        obtain ⟨o, ho⟩ : ∃ o, (ss.take j).any (varIs (k : Int)) = o := ⟨_, rfl⟩
        rw [ho] at HTk ⊢
        clear ho
        cases o with
        | true =>
          go_wp2
          go_roundw
          case rel => exact ⟨j + 1, by omega, by go_num, by rw [HTk.out]; rfl, by first | rfl | trivial⟩
          case measure => simp [intOf]; omega
        | false =>
          cases hv : s.v with
          | false =>
            rw [hv] at y0
            have HVs : Hid (varIs (k : Int) s = false) := by show _ = _; unfold varIs; rw [hv]; rfl
            go_wp2
            go_roundw
            case rel => exact ⟨j + 1, by omega, by go_num, by rw [HTk.out, HVs.out]; rfl, by first | rfl | trivial⟩
            case measure => simp [intOf]; omega
          | true =>
            rw [hv] at y0
            have HVs : Hid (varIs (k : Int) s = (s.n == (k : Int))) := by show _ = _; unfold varIs; rw [hv]; rfl
            obtain ⟨e, he⟩ : ∃ e, (s.n == (k : Int)) = e := ⟨_, rfl⟩
            rw [he] at HVs
            have HE := hide he
            cases e
            all_goals
              have hne := HE.out
              go_wp2
              go_roundw
              case rel => exact ⟨j + 1, by omega, by go_num, by rw [HTk.out, HVs.out]; rfl, by first | rfl | trivial⟩
              case measure => simp [intOf]; omega
      · obtain rfl : j = ss.length := by omega
        have hi : ¬ (ss.length : Int) < (ss.length : Int) := by omega
        rw [List.take_of_length_le (Nat.le_refl _)]
        obtain ⟨o, ho⟩ : ∃ o, ss.any (varIs (k : Int)) = o := ⟨_, rfl⟩
        rw [ho]
        have HO := hide ho
        clear ho
        cases o with
        | true =>
          have HKn : Hid (∀ m < k + 1, ∃ s ∈ ss, varIs (m : Int) s = true) := fun m hm => by
            rcases Nat.lt_or_ge m k with h1 | h1
            · exact HK.out m h1
            · obtain rfl : m = k := by omega
              exact List.any_eq_true.1 HO.out
          go_wp2
          go_roundw
          case rel => exact ⟨k + 1, by omega, by go_num, HKn, by first | rfl | trivial⟩
          case measure => simp [intOf]; omega
        | false =>
          have HN : Hid (∀ s ∈ ss, varIs (k : Int) s = false) := fun s hs => by
            have := List.any_eq_false.1 HO.out s hs
            simpa using this
          go_wp2
          go_ret
          exact ⟨k, rfl, ⟨by omega, HN.out⟩, HB0.out⟩
end Go.Proofs.YtgligipgjakecaaDoor
