/- edictlaw08.ints, equalEdges, equalInts: a copy; the same lists are the same. -/
import Derived.Test.YtjifhmlfnnagcaaEdgeMem
import Derived.Test.YtjifhmlfnnagcaaOverAt
namespace Go.Proofs.Ytjifhmlfnnagcaa
set_option linter.unusedSimpArgs false
set_option linter.unusedVariables false
open Go.RowKit


theorem neqEdg (a : Edg) (w : World) : (binOp .neq 25 (.agg #[.int .i64 a.f, .int .i64 a.t, .bool a.neg, .int .i64 a.r]) (.agg #[.int .i64 a.f, .int .i64 a.t, .bool a.neg, .int .i64 a.r])).run Try.prog w = .ok (.bool false) w := by
  have h1 := run_equalIn_struct (P := Try.prog) w 9999 25 #[.int .i64 a.f, .int .i64 a.t, .bool a.neg, .int .i64 a.r] #[.int .i64 a.f, .int .i64 a.t, .bool a.neg, .int .i64 a.r] (by kernel_rfl) (by kernel_rfl)
  simp only [binOp]
  simp only [Op.equal, Op.maxDepth, Sem.run_bind]
  go_simp

set_option maxHeartbeats 1000000 in
theorem equalEdges_any {w : World} {v1 v2 : Value} {L : List Edg} (h1 : Has elEdg w v1 L) (h2 : Has elEdg w v2 L) :
    Calls Try.prog 10 #[v1, v2] w fun e w' => e = .returned (.bool true) ∧ Below w.heap.size w w' := by
  obtain ⟨va, vc, rfl, -, -, hlen⟩ := h1.shape
  obtain ⟨ua, uc, rfl, -, -, -⟩ := h2.shape
  have H1 := hide h1
  have H2 := hide h2
  clear h1 h2
  go_enter Try.func10, Try.ntmps10
  go_wp2
  go_loopw [5] (fun i wl => ∃ k : Nat, k ≤ L.length ∧ i = .int .i64 k ∧ Hid (Below w.heap.size w wl)) (fun i _ => L.length - (intOf i).toNat)
  case atStart => exact ⟨0, by omega, rfl, Below.refl _ _⟩
  case round =>
    obtain ⟨k, hk, rfl, HB⟩ := hrel
    by_cases hlt : k < L.length
    · have hi : (k : Int) < (L.length : Int) := by omega
      have hi0 : (0 : Int) ≤ (k : Int) := by omega
      obtain ⟨b, bo, rfl, -, -, hrow⟩ := H1.out.row (by omega)
      obtain ⟨c, co, rfl, -, -, krow⟩ := H2.out.row (by omega)
      obtain ⟨t, hx⟩ : ∃ t, L[k]? = some t := ⟨_, List.getElem?_eq_getElem hlt⟩
      have y0 := over_cell (kept_cell HB.out (hrow k t hx 0 _ rfl))
      have y1 := over_cell (kept_cell HB.out (hrow k t hx 1 _ rfl))
      have y2 := over_cell (kept_cell HB.out (hrow k t hx 2 _ rfl))
      have y3 := over_cell (kept_cell HB.out (hrow k t hx 3 _ rfl))
      have z0 := over_cell (kept_cell HB.out (krow k t hx 0 _ rfl))
      have z1 := over_cell (kept_cell HB.out (krow k t hx 1 _ rfl))
      have z2 := over_cell (kept_cell HB.out (krow k t hx 2 _ rfl))
      have z3 := over_cell (kept_cell HB.out (krow k t hx 3 _ rfl))
      simp only [elEdg, Nat.add_zero] at y0 y1 y2 y3 z0 z1 z2 z3
      have hq := neqEdg t
      clear hrow hx krow
      go_wp2
      refine wp_region_over (fun W => W = wr) (by kernel_rfl) (by kernel_rfl) rfl ?_
      rintro W rfl
      repeat (go_big_quiet_step (first | fail))
      refine wpQuiet_nil ?_
      rintro _ ⟨z, rfl⟩
      go_wp2
      go_roundw
      case rel => exact ⟨k + 1, by omega, by go_num, HB.out.trans ((over_below W z).mono HB.out.size)⟩
      case measure => simp [intOf]; omega
    · obtain rfl : k = L.length := by omega
      have hi : ¬ (L.length : Int) < (L.length : Int) := by omega
      go_wp2
      go_ret
      exact ⟨rfl, HB.out⟩

set_option maxHeartbeats 1000000 in
theorem equalInts_any {w : World} {v1 v2 : Value} {L : List Int} (h1 : Has elInt w v1 L) (h2 : Has elInt w v2 L) :
    Calls Try.prog 15 #[v1, v2] w fun e w' => e = .returned (.bool true) ∧ Below w.heap.size w w' := by
  obtain ⟨va, vc, rfl, -, -, hlen⟩ := h1.shape
  obtain ⟨ua, uc, rfl, -, -, -⟩ := h2.shape
  have H1 := hide h1
  have H2 := hide h2
  clear h1 h2
  go_enter Try.func15, Try.ntmps15
  go_wp2
  go_loopw [5] (fun i wl => ∃ k : Nat, k ≤ L.length ∧ i = .int .i64 k ∧ Hid (Below w.heap.size w wl)) (fun i _ => L.length - (intOf i).toNat)
  case atStart => exact ⟨0, by omega, rfl, Below.refl _ _⟩
  case round =>
    obtain ⟨k, hk, rfl, HB⟩ := hrel
    by_cases hlt : k < L.length
    · have hi : (k : Int) < (L.length : Int) := by omega
      have hi0 : (0 : Int) ≤ (k : Int) := by omega
      obtain ⟨b, bo, rfl, -, -, hrow⟩ := H1.out.row (by omega)
      obtain ⟨c, co, rfl, -, -, krow⟩ := H2.out.row (by omega)
      obtain ⟨t, hx⟩ : ∃ t, L[k]? = some t := ⟨_, List.getElem?_eq_getElem hlt⟩
      have y0 := over_cell (kept_cell HB.out (hrow k t hx 0 _ rfl))
      have z0 := over_cell (kept_cell HB.out (krow k t hx 0 _ rfl))
      simp only [elInt, Nat.add_zero, Nat.mul_one] at y0 z0
      have hq : (t != t) = false := by simp
      clear hrow hx krow
      go_wp2
      refine wp_region_over (fun W => W = wr) (by kernel_rfl) (by kernel_rfl) rfl ?_
      rintro W rfl
      repeat (go_big_quiet_step (first | fail))
      refine wpQuiet_nil ?_
      rintro _ ⟨z, rfl⟩
      go_wp2
      go_roundw
      case rel => exact ⟨k + 1, by omega, by go_num, HB.out.trans ((over_below W z).mono HB.out.size)⟩
      case measure => simp [intOf]; omega
    · obtain rfl : k = L.length := by omega
      have hi : ¬ (L.length : Int) < (L.length : Int) := by omega
      go_wp2
      go_ret
      exact ⟨rfl, HB.out⟩
end Go.Proofs.Ytjifhmlfnnagcaa
