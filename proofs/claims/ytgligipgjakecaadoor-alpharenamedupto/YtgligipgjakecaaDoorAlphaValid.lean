/- alpha.like, alpha.Valid; the document's Valid. -/
import Derived.Test.YtgligipgjakecaaDoorProg
import Derived.Test.YtgligipgjakecaaDoorShapePure
import Derived.Test.YtgligipgjakecaaDoorPush
import Derived.Test.YtgligipgjakecaaDoorWellBase
import Derived.Test.YtgligipgjakecaaDoorOverAt
import Derived.WalkSpells
import Derived.Deep.DeepCutAuto
import Derived.WalkLawsBesides
namespace Go.Proofs.YtgligipgjakecaaDoor
set_option linter.unusedSimpArgs false
set_option linter.unusedVariables false
open Go.RowKit

theorem like_any {c : Int} (hc : I64 c) (w : World) : Calls Tryd.prog 17 #[.int .i64 c] w fun e w' => e = .returned (.int .i64 (-1 - c)) ∧ w' = w := by
  obtain ⟨h1, h2⟩ := hc
  go_enter Tryd.func17, Tryd.ntmps17
  go_wp2
  go_ret
  exact ⟨by go_num, rfl⟩
theorem like_at {c : Int} (hc : I64 c) (hn : c < 0) (w : World) : Calls Tryd.prog 17 #[.int .i64 c] w fun e w' => e = .returned (.int .i64 (at10 c : Nat)) ∧ w' = w := by
  rw [at10_eq hn]; exact like_any hc w

set_option maxHeartbeats 1000000 in
theorem valid_any {w : World} {q : Int} {v : Value} {cs : List Int} (h : Has elInt w v cs) :
    Calls Tryd.prog 8 #[.agg #[.int .i64 q, v]] w fun e w' => e = .returned (.bool (vldB q cs)) ∧ Below w.heap.size w w' := by
  obtain ⟨a, cc, rfl, -, -, hlen⟩ := h.shape
  have HB0 := hide (belo1 w (.cells #[.int .i64 q, .slice a cs.length cc] 25))
  by_cases hq : q < 0
  · have HN := hide (vldB_no (q := q) (cs := cs) fun h => by have := h.1; omega)
    go_enter Tryd.func8, Tryd.ntmps8
    go_wp2
    go_ret
    exact ⟨by rw [HN.out]; rfl, HB0.out⟩
  · have hb1 : (w.alloc (.cells #[.int .i64 q, .slice a cs.length cc] 25)).cell? ⟨w.heap.size, 1, none⟩ = some (.slice a cs.length cc) := new_cells (cs := #[.int .i64 q, .slice a cs.length cc]) 1 _ rfl
    have HL := hide (h.kept HB0.out)
    clear h
    obtain ⟨W, hW⟩ : ∃ W, W = w.alloc (.cells #[.int .i64 q, .slice a cs.length cc] 25) := ⟨_, rfl⟩
    go_enter Tryd.func8, Tryd.ntmps8
    go_wp2
    rw [← hW] at HB0 HL hb1 ⊢
    clear hW
    go_loopw [11] (fun i wl => ∃ k : Nat, k ≤ cs.length ∧ i = .int .i64 k ∧ Hid (∀ i c, i < k → cs[i]? = some c → CellOk cs i c) ∧ Hid (Below W.heap.size W wl)) (fun i _ => cs.length - (intOf i).toNat)
    case atStart => exact ⟨0, by omega, rfl, fun i c h => by omega, Below.refl _ _⟩
    case round =>
      obtain ⟨k, hk, rfl, HK, HB⟩ := hrel
      by_cases hlt : k < cs.length
      · have hi : (k : Int) < (cs.length : Int) := by omega
        have hi0 : (0 : Int) ≤ (k : Int) := by omega
        obtain ⟨b, off, rfl, -, -, hrow⟩ := HL.out.row (by omega)
        obtain ⟨c, hx⟩ : ∃ c, cs[k]? = some c := ⟨_, List.getElem?_eq_getElem hlt⟩
        have y0 := kept_cell HB.out (hrow k c hx 0 _ rfl)
        have yb := kept_cell HB.out hb1
        simp only [elInt, Nat.add_zero, Nat.mul_one] at y0
        have HX := hide hx
        have hc : I64 c := HL.out.ok (List.mem_of_getElem? hx)
        by_cases hn : c < 0
        · have HLk := hide (like_at hc hn)
          by_cases hj : at10 c ≤ k
          · have hj1 : ((at10 c : Nat) : Int) < (cs.length : Int) := by omega
            have hj0 : (0 : Int) ≤ ((at10 c : Nat) : Int) := by omega
            have hj2 : ¬ (k : Int) < ((at10 c : Nat) : Int) := by omega
            have hj3 : decide (k < at10 c) = false := by simp; omega
            obtain ⟨d, hd⟩ : ∃ d, cs[at10 c]? = some d := ⟨_, List.getElem?_eq_getElem (by omega)⟩
            have z0 := kept_cell HB.out (hrow _ d hd 0 _ rfl)
            simp only [elInt, Nat.add_zero, Nat.mul_one] at z0
            have HD := hide hd
            have yb' := over_cell yb
            have z0' := over_cell z0
            clear hd hx hrow
            by_cases he : d = c
            · subst he
              go_wp2
              refine wp_region_over (fun W => W = wr) (by kernel_rfl) (by kernel_rfl) rfl ?_
              rintro _ rfl
              repeat (go_big_quiet_step (first | (go_at_call 17; exact calls_over_same (HLk.out _))))
              refine wpQuiet_nil ?_
              rintro _ ⟨z, rfl⟩
              go_wp2
              go_roundw
              case rel => exact ⟨k + 1, by omega, by go_num, all_next HX.out HK.out (fun _ => ⟨hj, HD.out⟩), HB.out.trans ((over_below _ z).mono HB.out.size)⟩
              case measure => simp [intOf]; omega
            · have he1 : (d != c) = true := by simp [he]
              have HN := hide (vldB_no (q := q) (cs := cs) fun h => by have h1 := (h.2 k c HX.out hn).2; rw [HD.out] at h1; exact he (by simpa using h1))
              go_wp2
              refine wp_region_over (fun W => W = wr) (by kernel_rfl) (by kernel_rfl) rfl ?_
              rintro _ rfl
              repeat (go_big_quiet_step (first | (go_at_call 17; exact calls_over_same (HLk.out _))))
              refine wpQuiet_nil ?_
              rintro _ ⟨z, rfl⟩
              go_wp2
              go_ret
              exact ⟨by rw [HN.out]; rfl, belot HB0.out (HB.out.trans ((over_below _ z).mono HB.out.size))⟩
          · have hj2 : (k : Int) < ((at10 c : Nat) : Int) := by omega
            have hj3 : decide (k < at10 c) = true := by simp; omega
            have HN := hide (vldB_no (q := q) (cs := cs) fun h => by have h1 := (h.2 k c HX.out hn).1; exact hj h1)
            clear hx hrow
            go_wp2
            refine wp_region_over (fun W => W = wr) (by kernel_rfl) (by kernel_rfl) rfl ?_
            rintro _ rfl
            repeat (go_big_quiet_step (first | (go_at_call 17; exact calls_over_same (HLk.out _))))
            refine wpQuiet_nil ?_
            rintro _ ⟨z, rfl⟩
            go_wp2
            go_ret
            exact ⟨by rw [HN.out]; rfl, belot HB0.out (HB.out.trans ((over_below _ z).mono HB.out.size))⟩
        · have hn1 : decide (c < 0) = false := by simp; omega
          clear hx hrow
          go_wp2
          refine wp_region_over (fun W => W = wr) (by kernel_rfl) (by kernel_rfl) rfl ?_
          rintro _ rfl
          repeat (go_big_quiet_step (first | fail))
          refine wpQuiet_nil ?_
          rintro _ ⟨z, rfl⟩
          go_wp2
          go_roundw
          case rel => exact ⟨k + 1, by omega, by go_num, all_next HX.out HK.out (fun h => absurd h (by omega)), HB.out.trans ((over_below _ z).mono HB.out.size)⟩
          case measure => simp [intOf]; omega
      · obtain rfl : k = cs.length := by omega
        have hi : ¬ (cs.length : Int) < (cs.length : Int) := by omega
        have HN := hide (vldB_yes (q := q) (cs := cs) ⟨by omega, all_done HK.out⟩)
        go_wp2
        go_ret
        exact ⟨by rw [HN.out]; rfl, belot HB0.out HB.out⟩
end Go.Proofs.YtgligipgjakecaaDoor
