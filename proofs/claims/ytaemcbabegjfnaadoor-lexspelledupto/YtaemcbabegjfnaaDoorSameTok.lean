/- Lists of tokens in memory that say the same: edictlaw02.same. -/
import Derived.Test.YtaemcbabegjfnaaDoorProg
import Derived.Test.YtaemcbabegjfnaaDoorLexRow
namespace Go.Proofs.YtaemcbabegjfnaaDoor
set_option linter.unusedSimpArgs false
set_option linter.unusedVariables false
open Go.RowKit
attribute [local go_sem] over_cellAt over_frozenAt over_setAt

theorem tok_neq_self (t : Tok) (w : World) : (binOp .neq 24 (.agg #[.int .i64 t.k, .string t.t, .int .i64 t.n, .int .i64 t.op, .int .i64 (t.off : Int), .int .i64 (t.en : Int)]) (.agg #[.int .i64 t.k, .string t.t, .int .i64 t.n, .int .i64 t.op, .int .i64 (t.off : Int), .int .i64 (t.en : Int)])).run Tryd.prog w = .ok (.bool false) w := by
  have h1 := run_equalIn_struct (P := Tryd.prog) w 9999 24 #[.int .i64 t.k, .string t.t, .int .i64 t.n, .int .i64 t.op, .int .i64 (t.off : Int), .int .i64 (t.en : Int)] #[.int .i64 t.k, .string t.t, .int .i64 t.n, .int .i64 t.op, .int .i64 (t.off : Int), .int .i64 (t.en : Int)] (by kernel_rfl) (by kernel_rfl)
  simp only [binOp]
  simp only [Op.equal, Op.maxDepth, Sem.run_bind]
  go_simp

/-- A slice value leads to the tokens L. -/
def IsToks (w : World) (v : Value) (L : List Tok) : Prop := ∃ ao cap, v = .slice ao L.length cap ∧ (0 < L.length → ∃ g, ao = some ⟨g, 0, none⟩ ∧ ∀ i t, L[i]? = some t → TokAt w g (i * 6) t)

theorem own_isToks {w : World} {base : Nat} {v : Value} {L : List Tok} (h : w.ownsRow base 24 6 v L.length (L.flatMap cells6)) : IsToks w v L := by
  by_cases h0 : 0 < L.length
  · obtain ⟨g, cap, hv, _, _, hr⟩ := own_toks h h0
    exact ⟨_, cap, hv, fun _ => ⟨g, rfl, hr⟩⟩
  · obtain ⟨ao, cap, hv⟩ := own_shape h
    exact ⟨ao, cap, hv, fun h => absurd h h0⟩
theorem IsToks.kept {w w' : World} {v : Value} {L : List Tok} (h : IsToks w v L) (hb : Below w.heap.size w w') : IsToks w' v L := by
  obtain ⟨ao, cap, hv, hr⟩ := h
  exact ⟨ao, cap, hv, fun h0 => by obtain ⟨g, e, hg⟩ := hr h0; exact ⟨g, e, fun i t hi => (hg i t hi).kept hb⟩⟩

set_option maxHeartbeats 1000000 in
theorem same_self (v1 v2 : Value) (L : List Tok) (w : World) (hl : L.length ≤ 65537) (h1 : IsToks w v1 L) (h2 : IsToks w v2 L) :
    Calls Tryd.prog 8 #[v1, v2] w fun e w' => e = .returned (.bool true) ∧ Below w.heap.size w w' := by
  obtain ⟨a1, c1, rfl, r1⟩ := h1
  obtain ⟨a2, c2, rfl, r2⟩ := h2
  obtain ⟨n, hn⟩ : ∃ n, n = L.length := ⟨_, rfl⟩
  rw [← hn] at hl r1 r2 ⊢
  have HN := hide hn
  have HR1 := hide r1
  have HR2 := hide r2
  clear hn r1 r2
  go_enter Tryd.func8, Tryd.ntmps8
  go_wp2
  go_loopw [5] (fun i wr => ∃ k : Nat, k ≤ n ∧ i = .int .i64 k ∧ Below w.heap.size w wr) (fun i _ => n - (intOf i).toNat)
  case atStart => exact ⟨0, Nat.zero_le _, rfl, Below.refl _ _⟩
  case round =>
    obtain ⟨k, hk, rfl, hb⟩ := hrel
    by_cases hlt : k < n
    · have hi : (k : Int) < (n : Int) := by omega
      obtain ⟨g1, rfl, q1⟩ := HR1.out (by omega)
      obtain ⟨g2, rfl, q2⟩ := HR2.out (by omega)
      obtain ⟨t, ht⟩ : ∃ t, L[k]? = some t := ⟨_, List.getElem?_eq_getElem (by have := HN.out; omega)⟩
      obtain ⟨x0, x1, x2, x3, x4, x5⟩ := q1 k t ht
      obtain ⟨y0, y1, y2, y3, y4, y5⟩ := q2 k t ht
      have hq := tok_neq_self t
      clear ht q1 q2
      go_wp2
      refine wp_region_over (fun W => Below w.heap.size w W) (by kernel_rfl) (by kernel_rfl) hb ?_
      intro W hW
      have x0' := over_cell (kept_cell hW x0)
      have x1' := over_cell (kept_cell hW x1)
      have x2' := over_cell (kept_cell hW x2)
      have x3' := over_cell (kept_cell hW x3)
      have x4' := over_cell (kept_cell hW x4)
      have x5' := over_cell (kept_cell hW x5)
      have y0' := over_cell (kept_cell hW y0)
      have y1' := over_cell (kept_cell hW y1)
      have y2' := over_cell (kept_cell hW y2)
      have y3' := over_cell (kept_cell hW y3)
      have y4' := over_cell (kept_cell hW y4)
      have y5' := over_cell (kept_cell hW y5)
      clear x0 x1 x2 x3 x4 x5 y0 y1 y2 y3 y4 y5
      repeat (go_big_quiet_step (first | fail))
      refine wpQuiet_nil ?_
      rintro _ ⟨x, rfl⟩
      have hb3 : Below w.heap.size w (over W x) := hW.trans ((over_below W x).mono hW.size)
      clear x0' x1' x2' x3' x4' x5' y0' y1' y2' y3' y4' y5'
      go_wp2
      go_roundw
      case rel => exact ⟨k + 1, by omega, by go_num, hb3⟩
      case measure => simp [intOf]; omega
    · have hi : ¬ (k : Int) < (n : Int) := by omega
      go_wp2
      go_ret
      exact ⟨rfl, hb⟩

theorem fault_same (c f : Int) (w : World) : (binOp .neq 33 (.agg #[.int .i64 c, .int .i64 0, .int .i64 f]) (.agg #[.int .i64 c, .int .i64 0, .int .i64 f])).run Tryd.prog w = .ok (.bool false) w := by
  have h1 := run_equalIn_struct (P := Tryd.prog) w 9999 33 #[.int .i64 c, .int .i64 0, .int .i64 f] #[.int .i64 c, .int .i64 0, .int .i64 f] (by kernel_rfl) (by kernel_rfl)
  simp only [binOp]
  simp only [Op.equal, Op.maxDepth, Sem.run_bind]
  go_simp
theorem fault_eq (c f : Int) (w : World) : (binOp .eql 33 (.agg #[.int .i64 c, .int .i64 0, .int .i64 f]) (.agg #[.int .i64 c, .int .i64 0, .int .i64 f])).run Tryd.prog w = .ok (.bool true) w := by
  have h1 := run_equalIn_struct (P := Tryd.prog) w 9999 33 #[.int .i64 c, .int .i64 0, .int .i64 f] #[.int .i64 c, .int .i64 0, .int .i64 f] (by kernel_rfl) (by kernel_rfl)
  simp only [binOp]
  simp only [Op.equal, Op.maxDepth, Sem.run_bind]
  go_simp

theorem own_cap {w : World} {base e size g n m cap : Nat} {xs : List Value} (h : w.ownsRow base e size (.slice (some ⟨g, 0, none⟩) n cap) m xs) : n ≤ cap := by
  rcases h.2 with ⟨h0, _⟩ | ⟨g', cap', cur, hv, _, _, h1, _⟩
  · cases h0
  · cases hv; exact h1

theorem take_isToks {w : World} {g cp : Nat} {L : List Tok} (h : ∀ i t, L[i]? = some t → TokAt w g (i * 6) t) (k : Nat) (hk : k ≤ L.length) : IsToks w (.slice (some ⟨g, 0, none⟩) k cp) (L.take k) :=
  ⟨_, cp, by rw [List.length_take, Nat.min_eq_left hk], fun _ => ⟨g, rfl, fun i t hi => h i t (by rw [List.getElem?_take] at hi; split at hi; exact hi; cases hi)⟩⟩


end Go.Proofs.YtaemcbabegjfnaaDoor
