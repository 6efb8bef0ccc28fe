/- The document's merge of two lists of constants: the plain merge, in new memory. -/
import Derived.Test.YthhoiejjejdffaaMergePure
import Derived.Test.YthhoiejjejdffaaRefCmp
import Derived.Test.YthhoiejjejdffaaOpen
import Derived.Test.YthhoiejjejdffaaBox
import Derived.Laws.AppendOwn
import Derived.Deep.AppendLies
import Derived.Deep.DeepCutAuto
import Derived.Deep.LoopGhost
namespace Go.Proofs.Ythhoiejjejdffaa
set_option linter.unusedSimpArgs false
set_option linter.unusedVariables false
open Go.RowKit

set_option maxRecDepth 100000 in
set_option maxHeartbeats 2000000 in
theorem merge_any (a1 a2 : Option Addr) (n1 c1 n2 c2 : Nat) (xs ys : List Con) (w : World) (hx : IsCons w a1 n1 xs) (hy : IsCons w a2 n2 ys) (hz : (n1 + n2) * 32 ≤ 140737488351232) :
    Calls Try.prog 91 #[.slice a1 n1 c1, .slice a2 n2 c2] w fun e w' => ∃ v, e = .returned v ∧ Holds3 w.heap.size w' v (List.merge xs ys leC) ∧ Below w.heap.size w w' := by
  obtain ⟨hx1, hx2, hx3, hx4⟩ := hx
  obtain ⟨hy1, hy2, hy3, hy4⟩ := hy
  have HX := hide hx1
  have HY := hide hy1
  clear hx1 hy1
  obtain ⟨i0, hi0, hz0, hz1, hz2⟩ := info_parts Try.info3
  go_enter Try.func91, Try.ntmps91
  go_wp2_with fail
  go_loopw [5, 6, 7, 8] (fun l i j _ wr => ∃ (p q : Nat) (out : List Con), p ≤ n1 ∧ q ≤ n2 ∧ i = .int .i64 p ∧ j = .int .i64 q ∧ Hid (out.length = p + q) ∧ Hid (Holds3 w.heap.size wr l out) ∧ Hid (out ++ List.merge (xs.drop p) (ys.drop q) leC = List.merge xs ys leC) ∧ Below w.heap.size w wr) (fun _ i j _ _ => (n1 - (intOf i).toNat) + (n2 - (intOf j).toNat))
  case atStart => exact ⟨0, 0, [], Nat.zero_le _, Nat.zero_le _, rfl, rfl, by show (0 : Nat) = 0 + 0; rfl, World.ownsRow_nil _ _ _ _, rfl, Below.refl _ _⟩
  case round =>
    obtain ⟨p, q, out, hp, hq, rfl, rfl, HLEN, HO, HM, hb⟩ := hrel
    have hlen2 : out.length ≤ p + q := by rw [HLEN.out]; exact Nat.le_refl _
    by_cases hp1 : p < n1
    · have e1 : (p : Int) < (n1 : Int) := by omega
      obtain ⟨b1, o1, rfl, hr1⟩ := hx4 (by omega)
      obtain ⟨x, hxx⟩ : ∃ x, xs[p]? = some x := ⟨_, List.getElem?_eq_getElem (by rw [HX.out]; exact hp1)⟩
      obtain ⟨x0, x1, x2⟩ := hr1 p x hxx
      have sx : x.s.size ≤ maxLen := by have := (hx3 x (List.mem_of_getElem? hxx)).2.2; unfold maxLen; omega
      have HXX := hide hxx
      clear hxx
      by_cases hq1 : q < n2
      · obtain ⟨b2, o2, rfl, hr2⟩ := hy4 (by omega)
        obtain ⟨y, hyy⟩ : ∃ y, ys[q]? = some y := ⟨_, List.getElem?_eq_getElem (by rw [HY.out]; exact hq1)⟩
        have e3 : (q : Int) < (n2 : Int) := by omega
        have e4 : decide (n2 ≤ q) = false := by simp; omega
        obtain ⟨y0, y1, y2⟩ := hr2 q y hyy
        have sy : y.s.size ≤ maxLen := by have := (hy3 y (List.mem_of_getElem? hyy)).2.2; unfold maxLen; omega
        have HYY := hide hyy
        clear hyy
        go_wp2_with fail
        refine wp_region_over (fun W => Below w.heap.size w W ∧ Hid (Holds3 w.heap.size W u5 out)) (by kernel_rfl) (by kernel_rfl) ⟨hb, HO⟩ ?_
        rintro W ⟨hW, HOW⟩
        have x0' := over_cell (kept_cell hW x0)
        have x1' := over_cell (kept_cell hW x1)
        have x2' := over_cell (kept_cell hW x2)
        have y0' := over_cell (kept_cell hW y0)
        have y1' := over_cell (kept_cell hW y1)
        have y2' := over_cell (kept_cell hW y2)
        repeat (go_big_quiet_step ((go_at_call 74; exact calls_over (refCompare_any x y _ sx sy))))
        refine wpQuiet_nil ?_
        rintro _ ⟨z, rfl⟩
        have hW2 : Below w.heap.size w (over W z) := hW.trans ((over_below W z).mono hW.size)
        have HO2 : Hid (Holds3 w.heap.size (over W z) u5 out) := holds_grow HOW.out (over_below W z)
        have x0'' := x0' z
        have x1'' := x1' z
        have x2'' := x2' z
        have y0'' := y0' z
        have y1'' := y1' z
        have y2'' := y2' z
        clear x0' x1' x2' y0' y1' y2' x0 x1 x2 y0 y1 y2 HOW HO hb
        generalize over W z = W2 at *
        clear hW
        have HO := HO2
        have hb := hW2
        clear HO2 hW2
        by_cases hc : cmpC x y ≤ 0
        · have HC : Hid (leC x y = true) := decide_eq_true hc
          go_wp2_with (at_builtin; refine wpList_append_lies _ rfl _ _ 32 rfl w.heap.size 34 i0 (.agg #[.int .i64 0, .int .i64 0, .string ⟨#[]⟩]) 3 32 Try.underlying32 hi0 hz0 hz1 hz2 rfl (by decide) u5 out.length (out.flatMap cells3) rfl (World.ownsRow.alloc HO.out _) ⟨W2.heap.size, 0, none⟩ 1 1 [.int .i64 x.k, .int .i64 x.n, .string x.s] rfl rfl (World.news_of_block (cs := #[.int .i64 x.k, .int .i64 x.n, .string x.s]) (t := 34) (fr := (0, 0)) (heap_alloc_new W2 _)) (by simp [Value.oneCell']) (by decide) (by unfold maxLen; omega) (by omega) (by have := hb.size; simp; omega) (W2.heap.size + 1) (by simp) ?_; intro g cap' w1 hown1 hgrow hat hlt)
          have HN := hide (holds_snoc rfl hown1)
          have hb1 : Below w.heap.size w w1 := (hb.alloc hb.size _).grown hgrow (by have := hb.size; simp; omega) (fun k hk => ((HO.out.lt) k hk).1)
          clear hown1 hgrow hat hlt
          go_wp2
          go_roundw
          case rel => exact ⟨p + 1, q, out ++ [x], by omega, by omega, by go_num, by go_num, len_snoc HLEN.out (by omega), HN, step_a HXX.out HYY.out HC.out HM.out, hb1⟩
          case measure => simp [intOf]; omega
        · have HC : Hid (leC x y = false) := decide_eq_false hc
          go_wp2_with (at_builtin; refine wpList_append_lies _ rfl _ _ 32 rfl w.heap.size 34 i0 (.agg #[.int .i64 0, .int .i64 0, .string ⟨#[]⟩]) 3 32 Try.underlying32 hi0 hz0 hz1 hz2 rfl (by decide) u5 out.length (out.flatMap cells3) rfl (World.ownsRow.alloc HO.out _) ⟨W2.heap.size, 0, none⟩ 1 1 [.int .i64 y.k, .int .i64 y.n, .string y.s] rfl rfl (World.news_of_block (cs := #[.int .i64 y.k, .int .i64 y.n, .string y.s]) (t := 34) (fr := (0, 0)) (heap_alloc_new W2 _)) (by simp [Value.oneCell']) (by decide) (by unfold maxLen; omega) (by omega) (by have := hb.size; simp; omega) (W2.heap.size + 1) (by simp) ?_; intro g cap' w1 hown1 hgrow hat hlt)
          have HN := hide (holds_snoc rfl hown1)
          have hb1 : Below w.heap.size w w1 := (hb.alloc hb.size _).grown hgrow (by have := hb.size; simp; omega) (fun k hk => ((HO.out.lt) k hk).1)
          clear hown1 hgrow hat hlt
          go_wp2
          go_roundw
          case rel => exact ⟨p, q + 1, out ++ [y], by omega, by omega, by go_num, by go_num, len_snoc HLEN.out (by omega), HN, step_b HXX.out HYY.out HC.out HM.out, hb1⟩
          case measure => simp [intOf]; omega
      · have e2 : (n2 : Int) ≤ (q : Int) := by omega
        have x0'' := kept_cell hb x0
        have x1'' := kept_cell hb x1
        have x2'' := kept_cell hb x2
        clear x0 x1 x2
        go_wp2_with (at_builtin; refine wpList_append_lies _ rfl _ _ 32 rfl w.heap.size 34 i0 (.agg #[.int .i64 0, .int .i64 0, .string ⟨#[]⟩]) 3 32 Try.underlying32 hi0 hz0 hz1 hz2 rfl (by decide) u5 out.length (out.flatMap cells3) rfl (World.ownsRow.alloc HO.out _) ⟨wr.heap.size, 0, none⟩ 1 1 [.int .i64 x.k, .int .i64 x.n, .string x.s] rfl rfl (World.news_of_block (cs := #[.int .i64 x.k, .int .i64 x.n, .string x.s]) (t := 34) (fr := (0, 0)) (heap_alloc_new wr _)) (by simp [Value.oneCell']) (by decide) (by unfold maxLen; omega) (by omega) (by have := hb.size; simp; omega) (wr.heap.size + 1) (by simp) ?_; intro g cap' w1 hown1 hgrow hat hlt)
        have HN := hide (holds_snoc rfl hown1)
        have hb1 : Below w.heap.size w w1 := (hb.alloc hb.size _).grown hgrow (by have := hb.size; simp; omega) (fun k hk => ((HO.out.lt) k hk).1)
        clear hown1 hgrow hat hlt
        go_wp2
        go_roundw
        case rel => exact ⟨p + 1, q, out ++ [x], by omega, by omega, by go_num, by go_num, len_snoc HLEN.out (by omega), HN, step_a0 HXX.out (by rw [HY.out]; omega) HM.out, hb1⟩
        case measure => simp [intOf]; omega
    · have e1 : ¬ (p : Int) < (n1 : Int) := by omega
      by_cases hq1 : q < n2
      · obtain ⟨b2, o2, rfl, hr2⟩ := hy4 (by omega)
        obtain ⟨y, hyy⟩ : ∃ y, ys[q]? = some y := ⟨_, List.getElem?_eq_getElem (by rw [HY.out]; exact hq1)⟩
        have e3 : (q : Int) < (n2 : Int) := by omega
        have e4 : decide (n2 ≤ q) = false := by simp; omega
        obtain ⟨y0, y1, y2⟩ := hr2 q y hyy
        have HYY := hide hyy
        clear hyy
        have y0'' := kept_cell hb y0
        have y1'' := kept_cell hb y1
        have y2'' := kept_cell hb y2
        clear y0 y1 y2
        go_wp2_with (at_builtin; refine wpList_append_lies _ rfl _ _ 32 rfl w.heap.size 34 i0 (.agg #[.int .i64 0, .int .i64 0, .string ⟨#[]⟩]) 3 32 Try.underlying32 hi0 hz0 hz1 hz2 rfl (by decide) u5 out.length (out.flatMap cells3) rfl (World.ownsRow.alloc HO.out _) ⟨wr.heap.size, 0, none⟩ 1 1 [.int .i64 y.k, .int .i64 y.n, .string y.s] rfl rfl (World.news_of_block (cs := #[.int .i64 y.k, .int .i64 y.n, .string y.s]) (t := 34) (fr := (0, 0)) (heap_alloc_new wr _)) (by simp [Value.oneCell']) (by decide) (by unfold maxLen; omega) (by omega) (by have := hb.size; simp; omega) (wr.heap.size + 1) (by simp) ?_; intro g cap' w1 hown1 hgrow hat hlt)
        have HN := hide (holds_snoc rfl hown1)
        have hb1 : Below w.heap.size w w1 := (hb.alloc hb.size _).grown hgrow (by have := hb.size; simp; omega) (fun k hk => ((HO.out.lt) k hk).1)
        clear hown1 hgrow hat hlt
        go_wp2
        go_roundw
        case rel => exact ⟨p, q + 1, out ++ [y], by omega, by omega, by go_num, by go_num, len_snoc HLEN.out (by omega), HN, step_b0 (by rw [HX.out]; omega) HYY.out HM.out, hb1⟩
        case measure => simp [intOf]; omega
      · have e2 : ¬ (q : Int) < (n2 : Int) := by omega
        go_wp2
        go_ret
        have hfin := step_end (by rw [HX.out]; omega) (by rw [HY.out]; omega) HM.out
        exact ⟨_, rfl, hfin ▸ HO.out, hb⟩
end Go.Proofs.Ythhoiejjejdffaa
