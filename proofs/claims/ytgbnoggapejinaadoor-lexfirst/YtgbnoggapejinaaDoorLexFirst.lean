/- edictlaw02.LexFirst returns true: cut off at its fault a text has the same tokens and no fault. -/
import Derived.Test.YtgbnoggapejinaaDoorProg
import Derived.Test.YtgbnoggapejinaaDoorLexSame
namespace Go.Proofs.YtgbnoggapejinaaDoor
set_option linter.unusedSimpArgs false
set_option linter.unusedVariables false
open Go.RowKit
attribute [local go_sem] over_cellAt over_frozenAt over_setAt

/-- Scan of a text that is cut off ahead of its fault. -/
theorem first_scan {T0 : ByteArray} {L : List Tok} {c : Int} {f : Nat} (hT : T0.size ≤ 65536) (T : Toks T0 0 L c f) (hc : c ≠ 0) (hL : 0 < L.length) (q : Nat) (hq : q = (gapW T0 (endOf 0 L)).1) (W : World) (hW : LexLaid W) :
    Calls Tryd.prog 12 #[.string (T0.extract 0 q)] W fun e w' => ∃ g2 cp2, e = .returned (.tuple #[.slice (some ⟨g2, 0, none⟩) (L.length + 1) cp2, .agg #[.int .i64 0, .int .i64 0, .int .i64 0]]) ∧ Below W.heap.size W w' ∧ L.length + 1 ≤ cp2 ∧
      (∀ W', Below w'.heap.size w' W' → Calls Tryd.prog 14 #[.slice (some ⟨g2, 0, none⟩) (L.length + 1) cp2, .agg #[.int .i64 0, .int .i64 0, .int .i64 0], .int .i64 (q : Int)] W' fun e w'' => e = .returned (.bool true) ∧ Below W'.heap.size W' w'') ∧
      IsToks w' (.slice (some ⟨g2, 0, none⟩) L.length cp2) L := by
  have hb := toks_bad T hc
  have hg := gapW_le T0 _ hb.2.1
  have hz : (T0.extract 0 q).size = q := by rw [ByteArray.size_extract]; omega
  have T2 := toks_first T hc
  rw [← hq] at T2
  have hscan := scan_eq (s := T0.extract 0 q) (by omega) T2
  refine (scan_any (T0.extract 0 q) W hW (by omega)).mono ?_
  rintro e w' ⟨v, he, hown, hbl⟩
  have hes := ended_scan (T0.extract 0 q) v _ w' (by omega) hown
  rw [hscan] at he hown hes
  obtain ⟨g2, cp2, rfl, _, _, hrow⟩ := own_toks hown (by simp)
  have hcap := own_cap hown
  simp only [List.length_append, List.length_singleton] at hcap he hes
  obtain ⟨ao, cp', hv, hen⟩ := hes
  injection hv with e1 _ e2
  subst e1 e2
  rw [hz] at hen
  refine ⟨g2, cp2, he, hbl, hcap, hen, ?_⟩
  have h1 := take_isToks (cp := cp2) hrow L.length (by simp)
  rw [List.take_left] at h1
  exact h1

set_option maxHeartbeats 4000000 in
set_option maxRecDepth 100000 in
theorem lexFirst_walk (s : ByteArray) (w : World) (hs : s.size ≤ 140737488351232) (hl : LexLaid w) :
    Calls Tryd.prog 7 #[.string s] w fun e w' => e = .returned (.bool true) ∧ Below w.heap.size w w' := by
  have HH := hide (fun W => head_any s W hs)
  obtain ⟨hT2, hT6⟩ := head_size s
  obtain ⟨r, hr, -⟩ := head_begun s
  have T := scan_toks (headS s) hT6
  generalize headS s = T0 at *
  have hlen := toks_len T
  have hL0 : 0 < (scanX T0).1.length := by rw [hr]; simp
  have h0 : (scanX T0).1[0]? = some aTok := by rw [hr]; rfl
  have HS := hide (fun W hW => scan_any T0 W hW (by omega))
  clear hr
  generalize scanX T0 = R at *
  obtain ⟨L, c, f⟩ := R
  simp only at hL0 h0 hlen HS T
  obtain ⟨n, hn⟩ : ∃ n, n = L.length := ⟨_, rfl⟩
  have hn0 : 0 < n := by omega
  have hn1 : n ≤ 65537 := by omega
  have HN := hide hn
  have HL := hide hl
  have H0 := hide h0
  have HL0 := hide hL0
  unfold faultVal at HS
  by_cases hc : c = 0
  · obtain ⟨hf0, _, hz2, hz3⟩ := toks_zero T hc
    subst hc hf0
    have HEn : Hid (∀ g cp W, (∀ i t, L[i]? = some t → TokAt W g (i * 6) t) → Calls Tryd.prog 14 #[.slice (some ⟨g, 0, none⟩) n cp, .agg #[.int .i64 0, .int .i64 0, .int .i64 0], .int .i64 (T0.size : Int)] W fun e w' => e = .returned (.bool true) ∧ Below W.heap.size W w') := fun g cp W hW => by
      have := ended_any g cp T0.size L W hL0 (by omega) hW hz3 hz2
      rw [← HN.out] at this
      exact this
    clear hz2 hz3 hlen hL0 h0 hn hl T
    go_enter Tryd.func7, Tryd.ntmps7
    go_wp2_with (first
      | (go_at_call 11; refine (HH.out _).mono ?_; rintro e w' ⟨rfl, hw'⟩; have hw' := hw'.symm; subst hw')
      | (go_at_call 12; refine (HS.out _ HL.out).mono ?_; rintro e w1 ⟨v, rfl, hown, hb1⟩; obtain ⟨g, cp, rfl, hg1, hg2, hrow⟩ := own_toks hown HL0.out; rw [← HN.out]; have HRow : Hid (∀ i t, L[i]? = some t → TokAt w1 g (i * 6) t) := hrow; have HB1 := hide hb1; clear hown hrow hb1)
      | (go_at_call 13; refine (begun_any g n cp _ hn0 ((HRow.out 0 aTok H0.out).kept ((Below.refl _ _).alloc (Nat.le_refl _) _))).mono ?_; rintro e w' ⟨rfl, hw'⟩; have hw' := hw'.symm; subst hw')
      | (go_at_call 14; refine (HEn.out _ _ _ (fun i t hi => (HRow.out i t hi).kept ((Below.refl _ _).alloc (Nat.le_refl _) _))).mono ?_; rintro e w2 ⟨rfl, hb2⟩; have HB2 := hide hb2; clear hb2))
    go_ret
    exact ⟨rfl, below_chain HB1.out HB2.out⟩
  · obtain ⟨hf1, hf2⟩ := toks_place T hc
    obtain ⟨q, hq⟩ : ∃ q, q = (gapW T0 (endOf 0 L)).1 := ⟨_, rfl⟩
    have HS2 := hide (fun W hW => first_scan hT6 T hc hL0 q hq W hW)
    rw [← hn] at HS2
    have g1 : ¬ (f : Int) < 0 := by omega
    have g2 : ¬ (T0.size : Int) ≤ (f : Int) := by omega
    have g3 : (f : Int) ≤ (T0.size : Int) := by omega
    have ec : (c == 0) = false := by simpa using hc
    have HSame : Hid (∀ g cp g2 cp2 W, IsToks W (.slice (some ⟨g2, 0, none⟩) n cp2) L → (∀ i t, L[i]? = some t → TokAt W g (i * 6) t) → Calls Tryd.prog 16 #[.slice (some ⟨g2, 0, none⟩) n cp2, .slice (some ⟨g, 0, none⟩) n cp] W fun e w' => e = .returned (.bool true) ∧ Below W.heap.size W w') := fun g cp g2 cp2 W h1 h2 => by
      have h3 := take_isToks (cp := cp) h2 L.length (Nat.le_refl _)
      rw [List.take_length] at h3
      rw [HN.out]
      rw [HN.out] at h1
      exact same_self _ _ L W (by have := HN.out; omega) h1 h3
    by_cases h12 : c = 12
    · obtain ⟨T3, hq1, _⟩ := toks_escape T h12
      rw [← hq] at T3 hq1
      have hz3 : (T0.extract 0 f).size = f := by rw [ByteArray.size_extract]; omega
      have hscan3 := scan_eq (s := T0.extract 0 f) (by omega) T3
      have HS3 : Hid (∀ W, LexLaid W → Calls Tryd.prog 12 #[.string (T0.extract 0 f)] W fun e w' => ∃ ao cp, e = .returned (.tuple #[.slice ao n cp, .agg #[.int .i64 11, .int .i64 0, .int .i64 (q : Int)]]) ∧ Below W.heap.size W w') := by
        intro W hW
        refine (scan_any (T0.extract 0 f) W hW (by omega)).mono ?_
        rintro e w' ⟨v, he, hown, hbl⟩
        rw [hscan3] at he hown
        obtain ⟨ao, cp, rfl⟩ := own_shape hown
        rw [HN.out]
        exact ⟨ao, cp, he, hbl⟩
      have k1 : ¬ (q : Int) < 0 := by omega
      have k2 : ¬ (f : Int) ≤ (q : Int) := by omega
      have k3 : (q : Int) ≤ (T0.size : Int) := by omega
      subst h12
      clear hlen hL0 h0 hn hl T T3 hz3 hscan3 hf1 hf2 hq hc hq1
      go_enter Tryd.func7, Tryd.ntmps7
      go_wp2_with (first
        | (go_at_call 11; refine (HH.out _).mono ?_; rintro e w' ⟨rfl, hw'⟩; have hw' := hw'.symm; subst hw')
        | (go_at_call 12; refine (HS.out _ HL.out).mono ?_; rintro e w1 ⟨v, rfl, hown, hb1⟩; obtain ⟨g, cp, rfl, hg1, hg2, hrow⟩ := own_toks hown HL0.out; rw [← HN.out]; have HRow : Hid (∀ i t, L[i]? = some t → TokAt w1 g (i * 6) t) := hrow; have HB1 := hide hb1; clear hown hrow hb1 HS)
        | (go_at_call 13; refine (begun_any g n cp _ hn0 ((HRow.out 0 aTok H0.out).kept ((Below.refl _ _).alloc (Nat.le_refl _) _))).mono ?_; rintro e w' ⟨rfl, hw'⟩; have hw' := hw'.symm; subst hw')
        | (go_at_call 12; refine (HS3.out _ (HL.out.kept (HB1.out.alloc HB1.out.size _))).mono ?_; rintro e w3 ⟨ao3, cp3, rfl, hb3⟩; have HB3 := hide (below_chain HB1.out hb3); have HR3 : Hid (∀ i t, L[i]? = some t → TokAt w3 g (i * 6) t) := (fun i t hi => ((HRow.out i t hi).kept ((Below.refl _ _).alloc (Nat.le_refl _) _)).kept hb3); clear hb3 HS3))
      go_wp2_with (first
        | (go_at_call 12; refine (HS2.out _ (HL.out.kept (HB3.out.alloc HB3.out.size _))).mono ?_; rintro e w2 ⟨g2, cp2, rfl, hb2, hcap, hen, ht2⟩; have HB2 := hide hb2; have HE2 := hide hen; have HT2 := hide ht2; clear hb2 hen ht2))
      have hw : Below w.heap.size w w2 := below_chain HB3.out HB2.out
      have HW2 := hide hw
      have HR2 : Hid (∀ W, Below w2.heap.size w2 W → ∀ i t, L[i]? = some t → TokAt W g (i * 6) t) := fun W hW i t hi => ((HR3.out i t hi).kept (((Below.refl _ _).alloc (Nat.le_refl _) _).trans (HB2.out.mono (by simp)))).kept hW
      clear hw
      have hk2 : (n : Int) ≤ (cp2 : Int) := by omega
      go_wp2_with (first
        | (go_at_call 14; refine (HE2.out _ ((Below.refl _ _).alloc (Nat.le_refl _) _)).mono ?_; rintro e w4 ⟨rfl, hb4⟩; have hb24 : Below w2.heap.size w2 w4 := (((Below.refl _ _).alloc (Nat.le_refl _) _).trans (hb4.mono (by simp))); have HB4 := hide hb24; clear hb4 hb24)
        | (go_at_call 16; refine (HSame.out _ _ _ _ _ (HT2.out.kept HB4.out) (HR2.out _ HB4.out)).mono ?_; rintro e w5 ⟨rfl, hb5⟩; have HB5 := hide hb5; clear hb5))
      go_ret
      have h4 := HW2.out.trans (HB4.out.mono HW2.out.size)
      exact ⟨rfl, h4.trans (HB5.out.mono h4.size)⟩
    · have hqf : q = f := by rw [hq]; exact (hf2 h12).symm
      subst hqf
      have e12 : (c == 12) = false := by simpa using h12
      clear hlen hL0 h0 hn hl T hf1 hf2 hq hc h12
      go_enter Tryd.func7, Tryd.ntmps7
      go_wp2_with (first
        | (go_at_call 11; refine (HH.out _).mono ?_; rintro e w' ⟨rfl, hw'⟩; have hw' := hw'.symm; subst hw')
        | (go_at_call 12; refine (HS.out _ HL.out).mono ?_; rintro e w3 ⟨v, rfl, hown, hb1⟩; obtain ⟨g, cp, rfl, hg1, hg2, hrow⟩ := own_toks hown HL0.out; rw [← HN.out]; have HR3 : Hid (∀ i t, L[i]? = some t → TokAt w3 g (i * 6) t) := hrow; have HB3 := hide hb1; clear hown hrow hb1 HS)
        | (go_at_call 13; refine (begun_any g n cp _ hn0 ((HR3.out 0 aTok H0.out).kept ((Below.refl _ _).alloc (Nat.le_refl _) _))).mono ?_; rintro e w' ⟨rfl, hw'⟩; have hw' := hw'.symm; subst hw')
        | (go_at_call 12; refine (HS2.out _ (HL.out.kept (HB3.out.alloc HB3.out.size _))).mono ?_; rintro e w2 ⟨g2, cp2, rfl, hb2, hcap, hen, ht2⟩; have HB2 := hide hb2; have HE2 := hide hen; have HT2 := hide ht2; clear hb2 hen ht2))
      have hw : Below w.heap.size w w2 := below_chain HB3.out HB2.out
      have HW2 := hide hw
      have HR2 : Hid (∀ W, Below w2.heap.size w2 W → ∀ i t, L[i]? = some t → TokAt W g (i * 6) t) := fun W hW i t hi => ((HR3.out i t hi).kept (((Below.refl _ _).alloc (Nat.le_refl _) _).trans (HB2.out.mono (by simp)))).kept hW
      clear hw
      have hk2 : (n : Int) ≤ (cp2 : Int) := by omega
      go_wp2_with (first
        | (go_at_call 14; refine (HE2.out _ ((Below.refl _ _).alloc (Nat.le_refl _) _)).mono ?_; rintro e w4 ⟨rfl, hb4⟩; have hb24 : Below w2.heap.size w2 w4 := (((Below.refl _ _).alloc (Nat.le_refl _) _).trans (hb4.mono (by simp))); have HB4 := hide hb24; clear hb4 hb24)
        | (go_at_call 16; refine (HSame.out _ _ _ _ _ (HT2.out.kept HB4.out) (HR2.out _ HB4.out)).mono ?_; rintro e w5 ⟨rfl, hb5⟩; have HB5 := hide hb5; clear hb5))
      go_ret
      have h4 := HW2.out.trans (HB4.out.mono HW2.out.size)
      exact ⟨rfl, h4.trans (HB5.out.mono h4.size)⟩

end Go.Proofs.YtgbnoggapejinaaDoor
