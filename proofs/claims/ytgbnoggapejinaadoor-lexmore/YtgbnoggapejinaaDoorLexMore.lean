/- edictlaw02.LexMore returns true: what was found stays when more follows behind a line feed. -/
import Derived.Test.YtgbnoggapejinaaDoorProg
import Derived.Test.YtgbnoggapejinaaDoorLexSame
namespace Go.Proofs.YtgbnoggapejinaaDoor
set_option linter.unusedSimpArgs false
set_option linter.unusedVariables false
open Go.RowKit
attribute [local go_sem] over_cellAt over_frozenAt over_setAt

/-- Scan of a text of which the first tokens are known. -/
theorem more_scan (T1 : ByteArray) (L r2 : List Tok) (c2 : Int) (f2 k : Nat) (hT : T1.size ≤ 65536) (hscan : scanX T1 = (L.dropLast ++ r2, c2, f2)) (hk : L.length = k + 1) (hk1 : 1 ≤ k) (W : World) (hW : LexLaid W) :
    Calls Tryd.prog 12 #[.string T1] W fun e w' => ∃ g2 n2 cp2, e = .returned (.tuple #[.slice (some ⟨g2, 0, none⟩) n2 cp2, .agg #[.int .i64 c2, .int .i64 0, .int .i64 (f2 : Int)]]) ∧ Below W.heap.size W w' ∧ (k : Int) ≤ (n2 : Int) ∧ (k : Int) ≤ (cp2 : Int) ∧ n2 ≤ 65537 ∧ IsToks w' (.slice (some ⟨g2, 0, none⟩) k cp2) (L.take k) := by
  have htk : L.take k = L.dropLast := by rw [List.dropLast_eq_take, hk]; rfl
  have hdl : L.dropLast.length = k := by rw [List.length_dropLast, hk]; rfl
  have T2 := scan_toks T1 hT
  have hlen2 := toks_len T2
  have hs := scan_any T1 W hW (by omega)
  rw [hscan] at hs hlen2
  simp only at hs hlen2
  refine hs.mono ?_
  rintro e w' ⟨v, he, hown, hb⟩
  obtain ⟨g2, cp2, rfl, _, _, hrow⟩ := own_toks hown (by rw [List.length_append]; omega)
  have hcap := own_cap hown
  have hll : (L.dropLast ++ r2).length = k + r2.length := by rw [List.length_append, hdl]
  refine ⟨g2, _, cp2, he, hb, by omega, by omega, by omega, ?_⟩
  have h1 := take_isToks (cp := cp2) hrow k (by omega)
  rw [List.take_append_of_le_length (by omega), List.take_of_length_le (by omega)] at h1
  rw [htk]; exact h1

set_option maxHeartbeats 4000000 in
set_option maxRecDepth 100000 in
theorem lexMore_walk (s m : ByteArray) (w : World) (hs : s.size ≤ 140737488351232) (hm : m.size ≤ 140737488351232) (hl : LexLaid w) :
    Calls Tryd.prog 6 #[.string s, .string m] w fun e w' => e = .returned (.bool true) ∧ Below w.heap.size w w' := by
  have HH := hide (fun W => head_any s W hs)
  obtain ⟨hT2, hT6⟩ := head_size s
  obtain ⟨r, hr, -⟩ := head_begun s
  have T := scan_toks (headS s) hT6
  generalize headS s = T0 at *
  have hlen := toks_len T
  have hL0 : 0 < (scanX T0).1.length := by rw [hr]; simp
  have h0 : (scanX T0).1[0]? = some aTok := by rw [hr]; rfl
  have hzero := fun h => toks_zero T h
  have hmore := fun h => toks_more (pre_append T0 m) T h
  have HS := hide (fun W hW => scan_any T0 W hW (by omega))
  have hL2 : (scanX T0).2.1 = 0 → 2 ≤ (scanX T0).1.length := fun hc => by
    obtain ⟨_, _, hz, _⟩ := toks_zero T hc
    rcases Nat.lt_or_ge (scanX T0).1.length 2 with h | h
    · rw [show (scanX T0).1.length - 1 = 0 by omega, h0] at hz
      injection hz with hz
      exact absurd (congrArg Tok.k hz) (fun h => by cases h)
    · exact h
  clear hr T
  generalize scanX T0 = R at *
  obtain ⟨L, c, f⟩ := R
  simp only at hL0 h0 hlen HS hzero hmore hL2
  obtain ⟨k, hk⟩ : ∃ k, L.length = k + 1 := ⟨L.length - 1, by omega⟩
  have hn1 : k + 1 ≤ 65537 := by omega
  have HL := hide hl
  have H0 := hide h0
  have HL0 := hide hL0
  have HK := hide hk
  rw [hk] at HS
  unfold faultVal at HS
  by_cases hc : c = 0
  · obtain ⟨hf0, _, hz2, hz3⟩ := hzero hc
    obtain ⟨r2, c2, f2, T2⟩ := hmore hc
    have hk1 : 1 ≤ k := by have := hL2 hc; omega
    subst hc hf0
    clear hzero hmore hL2
    have HEn : Hid (∀ g cp W, (∀ i t, L[i]? = some t → TokAt W g (i * 6) t) → Calls Tryd.prog 14 #[.slice (some ⟨g, 0, none⟩) (k + 1) cp, .agg #[.int .i64 0, .int .i64 0, .int .i64 0], .int .i64 (T0.size : Int)] W fun e w' => e = .returned (.bool true) ∧ Below W.heap.size W w') := fun g cp W hW => by
      have := ended_any g cp T0.size L W hL0 (by omega) hW hz3 hz2
      rw [HK.out] at this
      exact this
    clear hz2 hz3
    by_cases hbig : (65536 : Int) < (T0.size : Int) + 1 + (m.size : Int)
    · clear hlen hL0 h0 hk hl
      go_enter Tryd.func6, Tryd.ntmps6
      go_wp2_with (first
        | (go_at_call 11; refine (HH.out _).mono ?_; rintro e w' ⟨rfl, hw'⟩; have hw' := hw'.symm; subst hw')
        | (go_at_call 12; refine (HS.out _ HL.out).mono ?_; rintro e w1 ⟨v, rfl, hown, hb1⟩; rw [← HK.out] at hown; obtain ⟨g, cp, rfl, hg1, hg2, hrow⟩ := own_toks hown HL0.out; rw [HK.out]; have HRow : Hid (∀ i t, L[i]? = some t → TokAt w1 g (i * 6) t) := hrow; have HB1 := hide hb1; clear hown hrow hb1)
        | (go_at_call 13; refine (begun_any g (k + 1) cp _ (Nat.succ_pos _) ((HRow.out 0 aTok H0.out).kept ((Below.refl _ _).alloc (Nat.le_refl _) _))).mono ?_; rintro e w' ⟨rfl, hw'⟩; have hw' := hw'.symm; subst hw'))
      go_ret
      exact ⟨rfl, HB1.out.alloc HB1.out.size _⟩
    · have hsz : (T0 ++ ⟨#[10]⟩ ++ m).size = T0.size + 1 + m.size := by
        rw [ByteArray.size_append, ByteArray.size_append]; rfl
      have hscan := scan_eq (s := T0 ++ ⟨#[10]⟩ ++ m) (by omega) T2
      have htk : L.take k = L.dropLast := by rw [List.dropLast_eq_take, HK.out]; rfl
      have hdl : L.dropLast.length = k := by rw [List.length_dropLast, HK.out]; rfl
      have HS2 := hide (fun W hW => more_scan (T0 ++ ⟨#[10]⟩ ++ m) L r2 c2 f2 k (by omega) hscan HK.out hk1 W hW)
      have HSm : Hid (∀ g g2 cp cp2 W, IsToks W (.slice (some ⟨g2, 0, none⟩) k cp2) (L.take k) → (∀ i t, L[i]? = some t → TokAt W g (i * 6) t) → Calls Tryd.prog 16 #[.slice (some ⟨g2, 0, none⟩) k cp2, .slice (some ⟨g, 0, none⟩) k cp] W fun e w' => e = .returned (.bool true) ∧ Below W.heap.size W w') := fun g g2 cp cp2 W h1 h2 =>
        same_self _ _ (L.take k) W (by rw [htk]; omega) h1 (take_isToks h2 k (by rw [HK.out]; omega))
      have hdec : decide ((65536 : Int) < (T0.size : Int) + 1 + (m.size : Int)) = false := by simpa using hbig
      clear hlen hL0 h0 hk hl hscan htk hdl T2 hsz hbig
      go_enter Tryd.func6, Tryd.ntmps6
      go_wp2_with (first
        | (go_at_call 11; refine (HH.out _).mono ?_; rintro e w' ⟨rfl, hw'⟩; have hw' := hw'.symm; subst hw')
        | (go_at_call 12; refine (HS.out _ HL.out).mono ?_; rintro e w1 ⟨v, rfl, hown, hb1⟩; rw [← HK.out] at hown; obtain ⟨g, cp, rfl, hg1, hg2, hrow⟩ := own_toks hown HL0.out; have hcap := own_cap hown; rw [HK.out] at hcap ⊢; have HRow : Hid (∀ i t, L[i]? = some t → TokAt w1 g (i * 6) t) := hrow; have HB1 := hide hb1; clear hown hrow hb1 HS)
        | (go_at_call 13; refine (begun_any g (k + 1) cp _ (Nat.succ_pos _) ((HRow.out 0 aTok H0.out).kept ((Below.refl _ _).alloc (Nat.le_refl _) _))).mono ?_; rintro e w' ⟨rfl, hw'⟩; have hw' := hw'.symm; subst hw')
        | (go_at_call 12; refine (HS2.out _ (HL.out.kept (HB1.out.alloc HB1.out.size _))).mono ?_; rintro e w2 ⟨g2, n2, cp2, rfl, hb2, hkn, hn2, hn3, ht2⟩; have HB2 := hide hb2; have HT2 := hide ht2; clear hb2 ht2 HS2))
      have hw1w2 : Below w1.heap.size w1 w2 := ((Below.refl _ _).alloc (Nat.le_refl _) _).trans (HB2.out.mono (by simp))
      have hU : Below w2.heap.size w2 (w2.alloc (.cells #[.int .i64 c2, .int .i64 0, .int .i64 (f2 : Int)] 31)) := (Below.refl _ _).alloc (Nat.le_refl _) _
      have hbx : box3 w1.heap.size (w1.alloc (.cells #[.int .i64 0, .int .i64 0, .int .i64 0] 31)) 0 0 0 := heap_alloc_new w1 _
      obtain ⟨x0, x1, x2, _⟩ := (hbx.kept HB2.out).cells
      have HRU : Hid (∀ y i t, L[i]? = some t → TokAt (over (w2.alloc (.cells #[.int .i64 c2, .int .i64 0, .int .i64 (f2 : Int)] 31)) y) g (i * 6) t) := fun y i t hi => (((HRow.out i t hi).kept hw1w2).kept hU).kept (over_below _ y)
      have HE2 : Hid (∀ y, Calls Tryd.prog 14 #[.slice (some ⟨g, 0, none⟩) (k + 1) cp, .agg #[.int .i64 0, .int .i64 0, .int .i64 0], .int .i64 (T0.size : Int)] (over (w2.alloc (.cells #[.int .i64 c2, .int .i64 0, .int .i64 (f2 : Int)] 31)) y) fun e w' => e = .returned (.bool true) ∧ Below (over (w2.alloc (.cells #[.int .i64 c2, .int .i64 0, .int .i64 (f2 : Int)] 31)) y).heap.size (over (w2.alloc (.cells #[.int .i64 c2, .int .i64 0, .int .i64 (f2 : Int)] 31)) y) w') := fun y => HEn.out _ _ _ (HRU.out y)
      have HM2 : Hid (∀ y, Calls Tryd.prog 16 #[.slice (some ⟨g2, 0, none⟩) k cp2, .slice (some ⟨g, 0, none⟩) k cp] (over (w2.alloc (.cells #[.int .i64 c2, .int .i64 0, .int .i64 (f2 : Int)] 31)) y) fun e w' => e = .returned (.bool true) ∧ Below (over (w2.alloc (.cells #[.int .i64 c2, .int .i64 0, .int .i64 (f2 : Int)] 31)) y).heap.size (over (w2.alloc (.cells #[.int .i64 c2, .int .i64 0, .int .i64 (f2 : Int)] 31)) y) w') := fun y => HSm.out _ _ _ _ _ ((HT2.out.kept hU).kept (over_below _ y)) (HRU.out y)
      have HBw : Hid (Below w.heap.size w (w2.alloc (.cells #[.int .i64 c2, .int .i64 0, .int .i64 (f2 : Int)] 31))) := by
        have h := HB1.out.trans (hw1w2.mono HB1.out.size)
        exact h.trans (hU.mono h.size)
      have d0 := over_cell (kept_cell hU x0)
      have d1 := over_cell (kept_cell hU x1)
      have d2 := over_cell (kept_cell hU x2)
      clear hw1w2 hU hbx x0 x1 x2
      have hk2 : (k : Int) ≤ (cp : Int) := by omega
      refine wp_region_over (fun W => W = w2.alloc (.cells #[.int .i64 c2, .int .i64 0, .int .i64 (f2 : Int)] 31)) (by kernel_rfl) (by kernel_rfl) rfl ?_
      rintro W rfl
      repeat (go_big_quiet_step (first | (go_at_call 14; exact calls_over (HE2.out _)) | (go_at_call 16; exact calls_over (HM2.out _))))
      refine wpQuiet_nil ?_
      rintro _ ⟨y, rfl⟩
      clear d0 d1 d2
      go_wp2
      go_ret
      exact ⟨rfl, HBw.out.trans ((over_below _ y).mono HBw.out.size)⟩
  · have ec : (c == 0) = false := by simpa using hc
    have ec2 : (c != 0) = true := by simpa using hc
    clear hlen hL0 h0 hk hl hmore hL2 hzero hc
    go_enter Tryd.func6, Tryd.ntmps6
    go_wp2_with (first
      | (go_at_call 11; refine (HH.out _).mono ?_; rintro e w' ⟨rfl, hw'⟩; have hw' := hw'.symm; subst hw')
      | (go_at_call 12; refine (HS.out _ HL.out).mono ?_; rintro e w1 ⟨v, rfl, hown, hb1⟩; rw [← HK.out] at hown; obtain ⟨g, cp, rfl, hg1, hg2, hrow⟩ := own_toks hown HL0.out; rw [HK.out]; have HRow : Hid (∀ i t, L[i]? = some t → TokAt w1 g (i * 6) t) := hrow; have HB1 := hide hb1; clear hown hrow hb1)
      | (go_at_call 13; refine (begun_any g (k + 1) cp _ (Nat.succ_pos _) ((HRow.out 0 aTok H0.out).kept ((Below.refl _ _).alloc (Nat.le_refl _) _))).mono ?_; rintro e w' ⟨rfl, hw'⟩; have hw' := hw'.symm; subst hw'))
    go_ret
    exact ⟨rfl, HB1.out.alloc HB1.out.size _⟩

end Go.Proofs.YtgbnoggapejinaaDoor
