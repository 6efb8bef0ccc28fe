/- edictlaw01.SymOrder returns true at every three constants. -/
import Derived.Test.YtlccgnlchngkeaaCmp
import Derived.Test.YtlccgnlchngkeaaConEq
import Derived.Test.YtlccgnlchngkeaaOpen
import Derived.Deep.DeepCutAuto
namespace Go.Proofs.Ytlccgnlchngkeaa
set_option linter.unusedSimpArgs false
set_option linter.unusedVariables false
open Go.RowKit

def Facts (w : World) (a b c : Con) (W : World) : Prop :=
  conAt W w.heap.size 0 a ∧ conAt W (w.heap.size + 1) 0 b ∧ conAt W (w.heap.size + 1 + 1) 0 c ∧ Below w.heap.size w W

theorem conAt_kept {w w' : World} {b off : Nat} {c : Con} (h : conAt w b off c) (hb : Below w.heap.size w w') : conAt w' b off c :=
  ⟨kept_cell hb h.1, kept_cell hb h.2.1, kept_cell hb h.2.2⟩

theorem Facts.step {w W W' : World} {a b c : Con} (h : Facts w a b c W) (hb : Below W.heap.size W W') : Facts w a b c W' :=
  ⟨conAt_kept h.1 hb, conAt_kept h.2.1 hb, conAt_kept h.2.2.1 hb, h.2.2.2.trans (hb.mono h.2.2.2.size)⟩

def boxOf (c : Con) (t : TypeId) : Obj := .cells #[.int .i64 c.k, .int .i64 c.n, .string c.s] t

theorem conAt_new (w : World) (c : Con) (t : TypeId) : conAt (w.alloc (boxOf c t)) w.heap.size 0 c := by
  unfold conAt boxOf
  refine ⟨?_, ?_, ?_⟩ <;> go_simp

theorem conAt_alloc {w : World} {b off : Nat} {c : Con} (h : conAt w b off c) (o : Obj) : conAt (w.alloc o) b off c :=
  conAt_kept h ((Below.refl _ _).alloc (Nat.le_refl _) _)

theorem size_alloc (w : World) (o : Obj) : (w.alloc o).heap.size = w.heap.size + 1 := by simp

theorem Facts.start (w : World) (a b c : Con) (t : TypeId) : Facts w a b c (((w.alloc (boxOf a t)).alloc (boxOf b t)).alloc (boxOf c t)) := by
  refine ⟨conAt_alloc (conAt_alloc (conAt_new _ _ _) _) _, ?_, ?_, (((Below.refl _ _).alloc (Nat.le_refl _) _).alloc (by simp) _).alloc (by simp; omega) _⟩
  · have := conAt_alloc (conAt_new (w.alloc (boxOf a t)) b t) (boxOf c t)
    rw [size_alloc] at this
    exact this
  · have := conAt_new ((w.alloc (boxOf a t)).alloc (boxOf b t)) c t
    rw [size_alloc, size_alloc] at this
    exact this

theorem lt_ints (p q : Int) : (cmpC ⟨1, p, ⟨#[]⟩⟩ ⟨1, q, ⟨#[]⟩⟩ < 0) = (p < q) := by
  rcases cmpC_cases ⟨1, p, ⟨#[]⟩⟩ ⟨1, q, ⟨#[]⟩⟩ with ⟨l, e⟩ | ⟨l, e⟩ | ⟨l, m, e⟩ | ⟨l, m, e⟩ | ⟨l, m, e⟩
  · simp only at l; omega
  · simp only at l; omega
  · rw [e]; simp only at m; simp [m]
  · rw [e]; simp only at m; simp; omega
  · rw [e, cmpL_refl]; simp only at m; simp; omega

theorem cmp_texts (s p q : ByteArray) : cmpC ⟨3, 0, s ++ p⟩ ⟨3, 0, s ++ q⟩ = cmpL p.toList q.toList := by
  rcases cmpC_cases ⟨3, 0, s ++ p⟩ ⟨3, 0, s ++ q⟩ with ⟨l, e⟩ | ⟨l, e⟩ | ⟨l, m, e⟩ | ⟨l, m, e⟩ | ⟨l, m, e⟩
  · simp only at l; omega
  · simp only at l; omega
  · simp only at m; omega
  · simp only at m; omega
  · rw [e]
    simp only [ByteArray.toList_eq, ByteArray.data_append, Array.toList_append]
    exact cmpL_pre _ _ _

theorem lt_texts (s p q : ByteArray) : decide (cmpC ⟨3, 0, s ++ p⟩ ⟨3, 0, s ++ q⟩ < 0) = Op.bytesLess p.toList q.toList := by
  rw [cmp_texts, less_eq]
  rcases cmpL_rng p.toList q.toList with h | h | h <;> rw [h] <;> rfl

theorem eq_texts (s p q : ByteArray) : (cmpC ⟨3, 0, s ++ p⟩ ⟨3, 0, s ++ q⟩ == 0) = (p.toList == q.toList) := by
  rw [cmp_texts, Bool.eq_iff_iff]
  simp only [beq_iff_eq]
  constructor
  · exact cmpL_zero _ _
  · intro h; rw [h]; exact cmpL_refl _

set_option maxRecDepth 100000 in
set_option maxHeartbeats 1000000 in
theorem symOrder_walk (a b c : Con) (w : World) (ha : a.ok) (hb : b.ok) (hc : c.ok) :
    Calls Try.prog 3 #[a.val, b.val, c.val] w fun e w' => e = .returned (.bool true) ∧ Below w.heap.size w w' := by
  have F0 := Facts.start w a b c 23
  unfold Con.val
  go_enter Try.func3, Try.ntmps3
  go_wp2_with fail
  refine (compare_any a b _).mono ?_
  rintro e w1 ⟨rfl, h1⟩
  have F1 := F0.step h1
  clear h1 F0
  have F1' := F1
  obtain ⟨⟨a0, a1, a2⟩, ⟨b0, b1, b2⟩, ⟨c0, c1, c2⟩, -⟩ := F1'
  go_wp2_with fail
  refine (compare_any b a _).mono ?_
  rintro e w2 ⟨rfl, h1⟩
  rw [cmpC_anti b a]
  have F2 := F1.step h1
  clear h1 F1 a0 a1 a2 b0 b1 b2 c0 c1 c2 w1
  have F2' := F2
  obtain ⟨⟨a0, a1, a2⟩, ⟨b0, b1, b2⟩, ⟨c0, c1, c2⟩, -⟩ := F2'
  go_wp2_with fail
  refine (compare_any b c _).mono ?_
  rintro e w3 ⟨rfl, h1⟩
  have F3 := F2.step h1
  clear h1 F2 a0 a1 a2 b0 b1 b2 c0 c1 c2 w2
  have F3' := F3
  obtain ⟨⟨a0, a1, a2⟩, ⟨b0, b1, b2⟩, ⟨c0, c1, c2⟩, -⟩ := F3'
  go_wp2_with fail
  refine (compare_any a c _).mono ?_
  rintro e w4 ⟨rfl, h1⟩
  have F4 := F3.step h1
  clear h1 F3 a0 a1 a2 b0 b1 b2 c0 c1 c2 w3
  have F4' := F4
  obtain ⟨⟨a0, a1, a2⟩, ⟨b0, b1, b2⟩, ⟨c0, c1, c2⟩, -⟩ := F4'
  have rx := cmpC_rng a b
  have heo : ∀ w, (binOp .eql 23 (.agg #[.int .i64 a.k, .int .i64 a.n, .string a.s]) (.agg #[.int .i64 b.k, .int .i64 b.n, .string b.s])).run Try.prog w = .ok (.bool (cmpC a b == 0)) w := fun w => by rw [conEq_cmp]; exact eqCon a b w
  have htr := hide (cmpC_trans a b c)
  generalize cmpC a b = x at *
  generalize cmpC b c = y at *
  generalize cmpC a c = z at *
  obtain ⟨rx1, rx2⟩ := rx
  go_wp2_with fail
  refine (compare_any a a _).mono ?_
  rintro e w5 ⟨rfl, h1⟩
  rw [cmpC_refl a]
  have F5 := F4.step h1
  clear h1 F4 a0 a1 a2 b0 b1 b2 c0 c1 c2 w4
  have F5' := F5
  obtain ⟨⟨a0, a1, a2⟩, ⟨b0, b1, b2⟩, ⟨c0, c1, c2⟩, -⟩ := F5'
  have z0 : w.heap.size < w5.heap.size := lt_of_cell a0
  have z1 : w.heap.size + 1 < w5.heap.size := lt_of_cell b0
  have z2 : w.heap.size + 1 + 1 < w5.heap.size := lt_of_cell c0
  go_upto_region 7 with fail
  go_cut [66] (fun t wc => t = .bool false ∧ Facts w a b c wc)
  case first =>
    go_wp2_with fail
    all_goals go_meet
    · have hx : x ≤ 0 := by assumption
      have hy : y ≤ 0 := by assumption
      have hz := htr.out hx hy
      exact ⟨by rw [show decide (0 < z) = false from by simp; omega], F5⟩
    · exact ⟨rfl, F5⟩
    · exact ⟨rfl, F5⟩
  case rest =>
    obtain ⟨rfl, F6⟩ := hcut
    clear a0 a1 a2 b0 b1 b2 c0 c1 c2 z0 z1 z2 F5 w5
    have F6' := F6
    obtain ⟨⟨a0, a1, a2⟩, ⟨b0, b1, b2⟩, ⟨c0, c1, c2⟩, -⟩ := F6'
    have z0 : w.heap.size < wc.heap.size := lt_of_cell a0
    have z1 : w.heap.size + 1 < wc.heap.size := lt_of_cell b0
    have z2 : w.heap.size + 1 + 1 < wc.heap.size := lt_of_cell c0
    have N1 := conAt_alloc (conAt_new wc ⟨1, a.n, ⟨#[]⟩⟩ 23) (boxOf ⟨1, b.n, ⟨#[]⟩⟩ 23)
    have N2 := conAt_new (wc.alloc (boxOf ⟨1, a.n, ⟨#[]⟩⟩ 23)) ⟨1, b.n, ⟨#[]⟩⟩ 23
    rw [size_alloc] at N2
    go_wp2_with fail
    refine wp_region_over (fun W => Facts w a b c W ∧ conAt W wc.heap.size 0 ⟨1, a.n, ⟨#[]⟩⟩ ∧ conAt W (wc.heap.size + 1) 0 ⟨1, b.n, ⟨#[]⟩⟩) (by kernel_rfl) (by kernel_rfl) ⟨F6.step (((Below.refl _ _).alloc (Nat.le_refl _) _).alloc (by simp) _), N1, N2⟩ ?_
    clear N1 N2 a0 a1 a2 b0 b1 b2 c0 c1 c2
    rintro W ⟨FW, NW, MW⟩
    have FW' := FW
    obtain ⟨⟨a0, a1, a2⟩, ⟨b0, b1, b2⟩, -, -⟩ := FW'
    obtain ⟨n0, n1, n2⟩ := NW
    obtain ⟨m0, m1, m2⟩ := MW
    have a1' := over_cell a1
    have b1' := over_cell b1
    have n0' := over_cell n0
    have n1' := over_cell n1
    have n2' := over_cell n2
    have m0' := over_cell m0
    have m1' := over_cell m1
    have m2' := over_cell m2
    have hn := lt_ints a.n b.n
    repeat (go_big_quiet_step ((go_at_call 9; exact calls_over (compare_any ⟨1, a.n, ⟨#[]⟩⟩ ⟨1, b.n, ⟨#[]⟩⟩ _))))
    refine wpQuiet_nil ?_
    rintro _ ⟨v, rfl⟩
    have F7 := FW.step (over_below W v)
    have N7 : conAt (over W v) wc.heap.size 0 ⟨1, a.n, ⟨#[]⟩⟩ := conAt_kept ⟨n0, n1, n2⟩ (over_below W v)
    clear a0 a1 a2 b0 b1 b2 n0 n1 n2 m0 m1 m2 a1' b1' n0' n1' n2' m0' m1' m2' hn FW F6 z0 z1 z2
    generalize over W v = W7 at *
    have F7' := F7
    obtain ⟨⟨a0, a1, a2⟩, ⟨b0, b1, b2⟩, ⟨c0, c1, c2⟩, -⟩ := F7'
    have z0 : w.heap.size < W7.heap.size := lt_of_cell a0
    have z1 : w.heap.size + 1 < W7.heap.size := lt_of_cell b0
    have z2 : wc.heap.size < W7.heap.size := lt_of_cell N7.1
    have sa := ha.2.2
    have sb := hb.2.2
    go_wp2_with fail
    go_loop [13, 14] (fun l i => ∃ s : ByteArray, s.size ≤ 250 ∧ i = .int .i64 s.size ∧ l = .string s) (fun _ i => 250 - (intOf i).toNat)
    case atStart => exact ⟨⟨#[]⟩, by decide, rfl, rfl⟩
    case round =>
      obtain ⟨s, hs, rfl, rfl⟩ := hrel
      by_cases hlt : s.size < 250
      · have hi : (s.size : Int) < 250 := by omega
        go_wp2_with fail
        go_round
        case rel => exact ⟨s ++ ⟨#[120]⟩, by rw [ByteArray.size_append]; show s.size + 1 ≤ 250; omega, by rw [ByteArray.size_append]; show Value.int .i64 _ = Value.int .i64 ((s.size + 1 : Nat) : Int); go_num, rfl⟩
        case measure => simp [intOf]; omega
      · have hi : ¬ (s.size : Int) < 250 := by omega
        have P1 := conAt_alloc (conAt_new W7 ⟨3, 0, s ++ a.s⟩ 23) (boxOf ⟨3, 0, s ++ b.s⟩ 23)
        have P2 := conAt_new (W7.alloc (boxOf ⟨3, 0, s ++ a.s⟩ 23)) ⟨3, 0, s ++ b.s⟩ 23
        rw [size_alloc] at P2
        go_wp2_with fail
        refine wp_region_over (fun W => Facts w a b c W ∧ conAt W wc.heap.size 0 ⟨1, a.n, ⟨#[]⟩⟩ ∧ conAt W W7.heap.size 0 ⟨3, 0, s ++ a.s⟩ ∧ conAt W (W7.heap.size + 1) 0 ⟨3, 0, s ++ b.s⟩) (by kernel_rfl) (by kernel_rfl)
          ⟨F7.step (((Below.refl _ _).alloc (Nat.le_refl _) _).alloc (by simp) _), conAt_kept N7 (((Below.refl _ _).alloc (Nat.le_refl _) _).alloc (by simp) _), P1, P2⟩ ?_
        clear P1 P2 a0 a1 a2 b0 b1 b2 c0 c1 c2 N7 z0 z1 z2
        rintro W ⟨FW, NW, PW, QW⟩
        have FW' := FW
        obtain ⟨⟨a0, a1, a2⟩, ⟨b0, b1, b2⟩, -, -⟩ := FW'
        obtain ⟨p0, p1, p2⟩ := PW
        obtain ⟨q0, q1, q2⟩ := QW
        have a2' := over_cell a2
        have b2' := over_cell b2
        have p0' := over_cell p0
        have p1' := over_cell p1
        have p2' := over_cell p2
        have q0' := over_cell q0
        have q1' := over_cell q1
        have q2' := over_cell q2
        have hp := lt_texts s a.s b.s
        have hq := eq_texts s a.s b.s
        repeat (go_big_quiet_step ((go_at_call 9; exact calls_over (compare_any ⟨3, 0, s ++ a.s⟩ ⟨3, 0, s ++ b.s⟩ _))))
        refine wpQuiet_nil ?_
        rintro _ ⟨v, rfl⟩
        have F8 := FW.step (over_below W v)
        have N8 : conAt (over W v) wc.heap.size 0 ⟨1, a.n, ⟨#[]⟩⟩ := conAt_kept NW (over_below W v)
        clear a0 a1 a2 b0 b1 b2 p0 p1 p2 q0 q1 q2 a2' b2' p0' p1' p2' q0' q1' q2' hp hq FW NW F7
        generalize over W v = W8 at *
        have F8' := F8
        obtain ⟨⟨a0, a1, a2⟩, ⟨b0, b1, b2⟩, -, -⟩ := F8'
        have z0 : w.heap.size < W8.heap.size := lt_of_cell a0
        have z1 : w.heap.size + 1 < W8.heap.size := lt_of_cell b0
        have z2 : wc.heap.size < W8.heap.size := lt_of_cell N8.1
        have N8' := N8
        obtain ⟨n0, n1, n2⟩ := N8'
        have X1 := conAt_alloc (conAt_new W8 ⟨2, 0, a.s⟩ 23) (boxOf ⟨3, 0, b.s⟩ 23)
        have X2 := conAt_new (W8.alloc (boxOf ⟨2, 0, a.s⟩ 23)) ⟨3, 0, b.s⟩ 23
        rw [size_alloc] at X2
        have B8 : Below W8.heap.size W8 ((W8.alloc (boxOf ⟨2, 0, a.s⟩ 23)).alloc (boxOf ⟨3, 0, b.s⟩ 23)) := ((Below.refl _ _).alloc (Nat.le_refl _) _).alloc (by simp) _
        have F9 := F8.step B8
        have N9 := conAt_kept N8 B8
        have k1 : cmpC ⟨1, a.n, ⟨#[]⟩⟩ ⟨2, 0, a.s⟩ = -1 := rfl
        have k2 : cmpC ⟨2, 0, a.s⟩ ⟨3, 0, b.s⟩ = -1 := rfl
        have k3 : cmpC ⟨1, a.n, ⟨#[]⟩⟩ ⟨3, 0, b.s⟩ = -1 := rfl
        go_wp2_with fail
        refine (compare_any ⟨1, a.n, ⟨#[]⟩⟩ ⟨2, 0, a.s⟩ _).mono ?_
        rintro e w9 ⟨rfl, h9⟩
        rw [k1]
        have F9' := F9.step h9
        have N9' := conAt_kept N9 h9
        have X1' := conAt_kept X1 h9
        have X2' := conAt_kept X2 h9
        clear F8 N8 a0 a1 a2 b0 b1 b2 n0 n1 n2 B8 F9 N9 X1 X2 h9 z0 z1 z2
        have N9'' := N9'
        obtain ⟨n0, n1, n2⟩ := N9''
        have X1'' := X1'
        obtain ⟨p0, p1, p2⟩ := X1''
        have X2'' := X2'
        obtain ⟨q0, q1, q2⟩ := X2''
        go_wp2_with fail
        refine (compare_any ⟨2, 0, a.s⟩ ⟨3, 0, b.s⟩ _).mono ?_
        rintro e w10 ⟨rfl, h9⟩
        rw [k2]
        have F10 := F9'.step h9
        have N10 := conAt_kept N9' h9
        have X10 := conAt_kept X2' h9
        clear n0 n1 n2 p0 p1 p2 q0 q1 q2 X1' X2' N9' F9' h9
        obtain ⟨n0, n1, n2⟩ := N10
        obtain ⟨q0, q1, q2⟩ := X10
        go_wp2_with fail
        refine (compare_any ⟨1, a.n, ⟨#[]⟩⟩ ⟨3, 0, b.s⟩ _).mono ?_
        rintro e w11 ⟨rfl, h9⟩
        rw [k3]
        have F11 := F10.step h9
        clear n0 n1 n2 q0 q1 q2 h9 F10 k1 k2 k3
        go_wp2_with fail
        go_ret
        exact ⟨rfl, F11.2.2.2⟩
end Go.Proofs.Ytlccgnlchngkeaa
