/- edictlaw02.LexNothing returns true: Blank means no token and no fault; a Blank text around a token changes nothing. -/
import Derived.Test.YtaiehmfhhdnijaaDoorProg
import Derived.Test.YtaiehmfhhdnijaaDoorLexNothingPure
namespace Go.Proofs.YtaiehmfhhdnijaaDoor
set_option linter.unusedSimpArgs false
set_option linter.unusedVariables false
open Go.RowKit
attribute [local go_sem] over_cellAt over_frozenAt over_setAt

theorem blank_a1 : blankW ⟨#[97]⟩ 1 1 = true := by
  have h : gapW ⟨#[97]⟩ 1 = (1, true) := gapW_end _ _ (by decide)
  have := blank_gap ⟨#[97]⟩ 1 (by decide) (by decide) (by rw [h])
  rw [h] at this
  exact this
theorem blank_a0 : blankW ⟨#[97]⟩ 0 1 = false := by
  have e : blankW ⟨#[97]⟩ 0 1 = ((gapN [97]).2 && decide (0 + (gapN [97]).1 = 1)) := rfl
  rw [e, gapN_stop (by rfl)]
  rfl

theorem fault_ne (c : Int) (f : Int) (hc : c ≠ 0) (w : World) : (binOp .neq 31 (.agg #[.int .i64 c, .int .i64 0, .int .i64 f]) (.agg #[.int .i64 0, .int .i64 0, .int .i64 0])).run Tryd.prog w = .ok (.bool true) w := by
  have h1 := run_equalIn_struct (P := Tryd.prog) w 9999 31 #[.int .i64 c, .int .i64 0, .int .i64 f] #[.int .i64 0, .int .i64 0, .int .i64 0] (by kernel_rfl) (by kernel_rfl)
  simp only [binOp]
  simp only [Op.equal, Op.maxDepth, Sem.run_bind]
  go_simp

theorem ended_fault (ao : Option Addr) (n cap : Nat) (c : Int) (f m : Nat) (hc : c ≠ 0) (w : World) :
    Calls Tryd.prog 13 #[.slice ao n cap, .agg #[.int .i64 c, .int .i64 0, .int .i64 (f : Int)], .int .i64 m] w fun e w' => e = .returned (.bool false) ∧ Below w.heap.size w w' := by
  have hf := fault_ne c f hc
  go_enter Tryd.func13, Tryd.ntmps13
  go_wp2
  go_ret
  exact ⟨rfl, (Below.refl _ _).alloc (Nat.le_refl _) _⟩

/-- What Scan and ended say of a text: idle, or not. -/
theorem ended_scan (s : ByteArray) (v : Value) (base : Nat) (W : World) (hs : s.size ≤ 140737488351232) (hown : W.ownsRow base 36 6 v (scanX s).1.length ((scanX s).1.flatMap cells6)) :
    ∃ ao cp, v = .slice ao (scanX s).1.length cp ∧ ∀ W', Below W.heap.size W W' →
      Calls Tryd.prog 13 #[.slice ao (scanX s).1.length cp, .agg #[.int .i64 (scanX s).2.1, .int .i64 0, .int .i64 ((scanX s).2.2 : Int)], .int .i64 (s.size : Int)] W' fun e w' => e = .returned (.bool (decide ((scanX s).2.1 = 0))) ∧ Below W'.heap.size W' w' := by
  obtain ⟨ao, cp, hv⟩ := own_shape hown
  refine ⟨ao, cp, hv, fun W' hb => ?_⟩
  by_cases hc : (scanX s).2.1 = 0
  · have hsz : s.size ≤ 65536 := by
      rcases Nat.lt_or_ge 65536 s.size with h | h
      · have e1 : scanX s = ([], 1, 0) := if_pos h
        rw [e1] at hc
        cases hc
      · exact h
    have T := scan_toks s hsz
    obtain ⟨hf0, h0, hz2, hz3⟩ := toks_zero T hc
    have hlen := toks_len T
    obtain ⟨g, cap, hv2, _, _, hrow⟩ := own_toks hown h0
    rw [hv] at hv2
    injection hv2 with e1 _ e2
    subst e1 e2
    rw [hc, hf0, show decide ((0 : Int) = 0) = true from rfl]
    exact ended_any g cp s.size _ W' h0 (by omega) (fun i t hi => (hrow i t hi).kept hb) hz3 hz2
  · have := ended_fault ao (scanX s).1.length cp (scanX s).2.1 (scanX s).2.2 s.size hc W'
    rw [show decide ((scanX s).2.1 = 0) = false from by simp [hc]]
    exact this

theorem below_chain {w w1 w2 : World} {o : Obj} (h1 : Below w.heap.size w w1) (h2 : Below (w1.alloc o).heap.size (w1.alloc o) w2) : Below w.heap.size w w2 := by
  have hU : Below w1.heap.size w1 (w1.alloc o) := (Below.refl _ _).alloc (Nat.le_refl _) _
  have h := h1.trans (hU.mono h1.size)
  exact h.trans (h2.mono h.size)

set_option maxHeartbeats 4000000 in
set_option maxRecDepth 100000 in
theorem lexNothing_walk (s : ByteArray) (w : World) (hs : s.size ≤ 140737488351232) (hl : LexLaid w) :
    Calls Tryd.prog 4 #[.string s] w fun e w' => e = .returned (.bool true) ∧ Below w.heap.size w w' := by
  have q1 := blank_a1
  have q0 := blank_a0
  have HS := hide (scan_any s w hl hs)
  have HEn := hide (fun v base W h => ended_scan s v base W hs h)
  have hidle := idle_iff s
  have hgapn := blank_gapN s
  have HL := hide hl
  clear hl
  unfold faultVal at HS
  generalize hR : scanX s = R at *
  obtain ⟨L, c, f⟩ := R
  simp only at hidle HS HEn
  cases hB : blankW s 0 (s.size : Int) with
  | false =>
    have hid : ¬ (c = 0 ∧ L.length = 1) := fun h => by rw [hidle.1 h] at hB; cases hB
    clear hidle hgapn hR
    obtain ⟨n, hn⟩ : ∃ n, n = L.length := ⟨_, rfl⟩
    rw [← hn] at HS HEn hid
    clear hn
    by_cases hc : c = 0
    · have en : ((n : Int) == 1) = false := by simp; omega
      rw [show decide (c = 0) = true from by simp [hc]] at HEn
      clear hid hc
      go_enter Tryd.func4, Tryd.ntmps4
      go_wp2_with (first
        | (go_at_call 11; refine (blank_any _ _ _ _ ?_ ?_ ?_).mono ?_; (first | exact hs | decide); (first | omega | decide); (first | omega | decide); rintro e w' ⟨rfl, hw'⟩; have hw' := hw'.symm; subst hw')
        | (go_at_call 12; refine HS.out.mono ?_; rintro e w1 ⟨v, rfl, hown, hb1⟩; obtain ⟨ao, cp, rfl, hen⟩ := HEn.out _ _ _ hown; have HE1 := hide hen; have HB1 := hide hb1; clear hown hen hb1)
        | (go_at_call 13; refine (HE1.out _ ((Below.refl _ _).alloc (Nat.le_refl _) _)).mono ?_; rintro e w2 ⟨rfl, hb2⟩; have HB2 := hide hb2; clear hb2))
      go_ret
      have hU : Below w1.heap.size w1 (w1.alloc (.cells #[.int .i64 c, .int .i64 0, .int .i64 (f : Int)] 31)) := (Below.refl _ _).alloc (Nat.le_refl _) _
      have h1 := HB1.out.trans (hU.mono HB1.out.size)
      exact ⟨rfl, h1.trans (HB2.out.mono h1.size)⟩
    · rw [show decide (c = 0) = false from by simp [hc]] at HEn
      clear hid hc
      go_enter Tryd.func4, Tryd.ntmps4
      go_wp2_with (first
        | (go_at_call 11; refine (blank_any _ _ _ _ ?_ ?_ ?_).mono ?_; (first | exact hs | decide); (first | omega | decide); (first | omega | decide); rintro e w' ⟨rfl, hw'⟩; have hw' := hw'.symm; subst hw')
        | (go_at_call 12; refine HS.out.mono ?_; rintro e w1 ⟨v, rfl, hown, hb1⟩; obtain ⟨ao, cp, rfl, hen⟩ := HEn.out _ _ _ hown; have HE1 := hide hen; have HB1 := hide hb1; clear hown hen hb1)
        | (go_at_call 13; refine (HE1.out _ ((Below.refl _ _).alloc (Nat.le_refl _) _)).mono ?_; rintro e w2 ⟨rfl, hb2⟩; have HB2 := hide hb2; clear hb2))
      go_ret
      have hU : Below w1.heap.size w1 (w1.alloc (.cells #[.int .i64 c, .int .i64 0, .int .i64 (f : Int)] 31)) := (Below.refl _ _).alloc (Nat.le_refl _) _
      have h1 := HB1.out.trans (hU.mono HB1.out.size)
      exact ⟨rfl, h1.trans (HB2.out.mono h1.size)⟩
  | true =>
    obtain ⟨hc, h1⟩ := hidle.2 hB
    rw [show decide (c = 0) = true from by simp [hc], h1] at HEn
    rw [h1] at HS
    have hgn := hgapn hB
    clear hidle hgapn hR hc h1
    by_cases hbig : (65536 : Int) < 2 * (s.size : Int) + 3
    · clear hgn
      go_enter Tryd.func4, Tryd.ntmps4
      go_wp2_with (first
        | (go_at_call 11; refine (blank_any _ _ _ _ ?_ ?_ ?_).mono ?_; (first | exact hs | decide); (first | omega | decide); (first | omega | decide); rintro e w' ⟨rfl, hw'⟩; have hw' := hw'.symm; subst hw')
        | (go_at_call 12; refine HS.out.mono ?_; rintro e w1 ⟨v, rfl, hown, hb1⟩; obtain ⟨ao, cp, rfl, hen⟩ := HEn.out _ _ _ hown; have HE1 := hide hen; have HB1 := hide hb1; clear hown hen hb1 HS HEn)
        | (go_at_call 13; refine (HE1.out _ ((Below.refl _ _).alloc (Nat.le_refl _) _)).mono ?_; rintro e w2 ⟨rfl, hb2⟩; have HB2 := hide hb2; clear hb2 HE1))
      go_ret
      have hU : Below w1.heap.size w1 (w1.alloc (.cells #[.int .i64 c, .int .i64 0, .int .i64 (f : Int)] 31)) := (Below.refl _ _).alloc (Nat.le_refl _) _
      have h1 := HB1.out.trans (hU.mono HB1.out.size)
      exact ⟨rfl, h1.trans (HB2.out.mono h1.size)⟩
    · have hsz2 : 2 * s.size + 3 ≤ 65536 := by omega
      have hscan := twice_scan s hgn hsz2
      have htw : twice s = s ++ ⟨#[10, 97, 10]⟩ ++ s := rfl
      have htz := twice_size s
      have HS2 : Hid (∀ W, LexLaid W → Calls Tryd.prog 12 #[.string (s ++ ⟨#[10, 97, 10]⟩ ++ s)] W fun e w' => ∃ g cp, e = .returned (.tuple #[.slice (some ⟨g, 0, none⟩) 2 cp, .agg #[.int .i64 0, .int .i64 0, .int .i64 0]]) ∧ Below W.heap.size W w' ∧
          TokAt w' g 0 ⟨1, ⟨#[97]⟩, 0, 0, s.size + 1, s.size + 2⟩ ∧ ∀ W', Below w'.heap.size w' W' → Calls Tryd.prog 13 #[.slice (some ⟨g, 0, none⟩) 2 cp, .agg #[.int .i64 0, .int .i64 0, .int .i64 0], .int .i64 ((s.size : Int) + 3 + (s.size : Int))] W' fun e w'' => e = .returned (.bool true) ∧ Below W'.heap.size W' w'') := by
        intro W hW
        refine (scan_any (twice s) W hW (by omega)).mono ?_
        rintro e w' ⟨v, he, hown, hb⟩
        have hes := ended_scan (twice s) v _ w' (by omega) hown
        rw [hscan] at he hown hes
        obtain ⟨g, cp, rfl, _, _, hrow⟩ := own_toks hown (by simp)
        obtain ⟨ao, cp', hv, hen⟩ := hes
        injection hv with e1 _ e2
        subst e1 e2
        rw [show ((twice s).size : Int) = (s.size : Int) + 3 + (s.size : Int) from by omega] at hen
        exact ⟨g, cp, he, hb, hrow 0 _ rfl, hen⟩
      have hq := tok_self ⟨1, ⟨#[97]⟩, 0, 0, s.size + 1, s.size + 2⟩
      simp only [Int.natCast_add, Int.natCast_one, Int.cast_ofNat_Int] at hq
      have hdec : decide ((65536 : Int) < 2 * (s.size : Int) + 3) = false := by simp; omega
      clear hgn hscan htw htz hsz2 hbig
      go_enter Tryd.func4, Tryd.ntmps4
      go_wp2_with (first
        | (go_at_call 11; refine (blank_any _ _ _ _ ?_ ?_ ?_).mono ?_; (first | exact hs | decide); (first | omega | decide); (first | omega | decide); rintro e w' ⟨rfl, hw'⟩; have hw' := hw'.symm; subst hw')
        | (go_at_call 12; refine HS.out.mono ?_; rintro e w1 ⟨v, rfl, hown, hb1⟩; obtain ⟨ao, cp, rfl, hen⟩ := HEn.out _ _ _ hown; have HE1 := hide hen; have HB1 := hide hb1; clear hown hen hb1 HS HEn)
        | (go_at_call 13; refine (HE1.out _ ((Below.refl _ _).alloc (Nat.le_refl _) _)).mono ?_; rintro e w2 ⟨rfl, hb2⟩; have HB2 := hide hb2; clear hb2 HE1)
        | (go_at_call 12; refine (HS2.out _ (HL.out.kept (below_chain HB1.out HB2.out))).mono ?_; rintro e w3 ⟨g, cp2, rfl, hb3, htk, hen⟩; have HB3 := hide hb3; have HE2 := hide hen; have HTK := hide htk; clear hb3 hen htk)
        | (go_at_call 13; refine (HE2.out _ ((Below.refl _ _).alloc (Nat.le_refl _) _)).mono ?_; rintro e w4 ⟨rfl, hb4⟩; obtain ⟨c0, c1, c2, c3, c4, c5⟩ := (HTK.out.kept ((Below.refl _ _).alloc (Nat.le_refl _) _)).kept hb4; have HB4 := hide hb4; clear hb4))
      go_ret
      have h2 := below_chain HB1.out HB2.out
      have h3 := h2.trans (HB3.out.mono h2.size)
      exact ⟨rfl, below_chain h3 HB4.out⟩

end Go.Proofs.YtaiehmfhhdnijaaDoor
