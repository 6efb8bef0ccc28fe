/- edictlaw02.LexGaps returns true: tokens lie one behind the other, gaps between. -/
import Derived.Test.YtaiehmfhhdnijaaDoorProg
import Derived.Test.YtaiehmfhhdnijaaDoorLexLaw
namespace Go.Proofs.YtaiehmfhhdnijaaDoor
set_option linter.unusedSimpArgs false
set_option linter.unusedVariables false
open Go.RowKit
attribute [local go_sem] over_cellAt over_frozenAt over_setAt

theorem endOf_snoc (t : Tok) : ∀ (l : List Tok) (o : Nat), endOf o (l ++ [t]) = t.en
  | [], _ => rfl
  | x :: r, _ => endOf_snoc t r x.en

theorem toks_at {s : ByteArray} {o : Nat} {L : List Tok} {c : Int} {f : Nat} (h : Toks s o L c f) : ∀ i t, L[i]? = some t → nextX s (endOf o (L.take i)) = .tok t ∧ endOf o (L.take i) ≤ s.size := by
  induction h with
  | bad _ _ => intro i t h; simp at h
  | last h1 h2 h3 =>
    intro i t h
    rcases i with _ | i
    · obtain rfl := Option.some.inj h; exact ⟨h2, h1⟩
    · simp at h
  | more h1 h2 h3 h4 ih =>
    intro i t h
    rcases i with _ | i
    · obtain rfl := Option.some.inj h; exact ⟨h2, h1⟩
    · exact ih i t h

theorem next_end {s : ByteArray} {o : Nat} {t : Tok} (ho : o ≤ s.size) (h : nextX s o = .tok t) (hk : t.k = 0) : t = endTok s.size := by
  have hg := gapW_le s o ho
  unfold nextX at h
  split at h
  · obtain ⟨_, h2⟩ := tokAt_en hg.2 h
    rcases h2 with ⟨_, h3, _⟩ | ⟨h3, _⟩
    · rw [h3] at h
      unfold tokAt at h
      rw [dif_neg (by omega)] at h
      injection h with h
      exact h.symm
    · omega
  · cases h

theorem toks_zero {s : ByteArray} {o : Nat} {L : List Tok} {c : Int} {f : Nat} (h : Toks s o L c f) (hc : c = 0) : f = 0 ∧ 0 < L.length ∧ L[L.length - 1]? = some (endTok s.size) ∧ ∀ i t, L[i]? = some t → i + 1 < L.length → t.k ≠ 0 := by
  induction h with
  | bad h1 h2 => have := next_bad h2; omega
  | last h1 h2 h3 =>
    refine ⟨rfl, by simp, by rw [← next_end h1 h2 h3]; rfl, ?_⟩
    intro i t h hi
    simp at hi
  | more h1 h2 h3 h4 ih =>
    obtain ⟨a, b, d, e⟩ := ih hc
    refine ⟨a, by simp, ?_, ?_⟩
    · rw [← d, List.length_cons, show ∀ n, 0 < n → n + 1 - 1 = (n - 1) + 1 from fun n hn => by omega]
      · rfl
      · exact b
    · intro i t h hi
      rcases i with _ | i
      · obtain rfl := Option.some.inj h; exact h3
      · exact e i t h (by simpa using hi)

theorem toks_bad {s : ByteArray} {o : Nat} {L : List Tok} {c : Int} {f : Nat} (h : Toks s o L c f) (hc : c ≠ 0) : nextX s (endOf o L) = .bad c f ∧ endOf o L ≤ s.size ∧ ∀ t ∈ L, t.k ≠ 0 := by
  induction h with
  | bad h1 h2 => exact ⟨h2, h1, by simp⟩
  | last h1 h2 h3 => exact absurd rfl hc
  | more h1 h2 h3 h4 ih =>
    obtain ⟨a, b, d⟩ := ih hc
    refine ⟨a, b, ?_⟩
    intro t ht
    rcases List.mem_cons.1 ht with rfl | ht
    · exact h3
    · exact d t ht

theorem toks_len {s : ByteArray} {o : Nat} {L : List Tok} {c : Int} {f : Nat} (h : Toks s o L c f) : L.length + o ≤ s.size + 1 := by
  induction h with
  | bad h1 h2 => simp; omega
  | last h1 h2 h3 => simp; omega
  | more h1 h2 h3 h4 ih =>
    obtain ⟨-, -, a, b⟩ := next_tok h1 h2
    obtain ⟨_, b1, b2⟩ := b.resolve_left (fun h => h3 h.1)
    simp
    omega

set_option maxHeartbeats 4000000 in
set_option maxRecDepth 100000 in
theorem lexGaps_walk (s : ByteArray) (w : World) (hs : s.size ≤ 140737488351232) (hl : LexLaid w) :
    Calls Tryd.prog 6 #[.string s] w fun e w' => e = .returned (.bool true) ∧ Below w.heap.size w w' := by
  have HH := hide (fun W => head_any s W hs)
  obtain ⟨hT2, hT6⟩ := head_size s
  obtain ⟨r, hr, -⟩ := head_begun s
  have T := scan_toks (headS s) hT6
  have HS := hide (scan_any (headS s) w hl (by omega))
  generalize headS s = T0 at *
  generalize scanX T0 = R at *
  obtain ⟨L, c, f⟩ := R
  simp only at hr T HS
  have hlen := toks_len T
  have hL0 : 0 < L.length := by rw [hr]; simp
  have hat := toks_at T
  have hzero := fun h => toks_zero T h
  have hbad := fun h => toks_bad T h
  have h0 : L[0]? = some aTok := by rw [hr]; rfl
  obtain ⟨n, hn⟩ : ∃ n, n = L.length := ⟨_, rfl⟩
  clear hl hr T hs
  have HAt := hide hat
  have HZero := hide hzero
  have HBad := hide hbad
  have H0 := hide h0
  have HLen := hide hlen
  have HL0 := hide hL0
  have HN := hide hn
  have hn1 : n ≤ 65537 := by omega
  have hn0 : 0 < n := by omega
  clear hat hzero hbad h0 hlen hL0 hn
  unfold faultVal at HS
  go_enter Tryd.func6, Tryd.ntmps6
  go_wp2_with (first
    | (go_at_call 14; refine (HH.out _).mono ?_; rintro e w' ⟨rfl, hw'⟩; have hw' := hw'.symm; subst hw')
    | (go_at_call 12; refine HS.out.mono ?_; rintro e w1 ⟨v, rfl, hown, hb1⟩; obtain ⟨g, cp, rfl, hg1, hg2, hrow⟩ := own_toks hown HL0.out; rw [← HN.out]; have HRow : Hid (∀ i t, L[i]? = some t → TokAt (w1.alloc (.cells #[.int .i64 c, .int .i64 0, .int .i64 (f : Int)] 31)) g (i * 6) t) := (fun i t hi => (hrow i t hi).kept ((Below.refl _ _).alloc (Nat.le_refl _) _)); have HB1 := hide hb1; clear hown hrow hb1)
    | (go_at_call 15; refine (begun_any g n cp _ hn0 (HRow.out 0 aTok H0.out)).mono ?_; rintro e w' ⟨rfl, hw'⟩; have hw' := hw'.symm; subst hw'))
  have hUb : Below w1.heap.size w1 (w1.alloc (.cells #[.int .i64 c, .int .i64 0, .int .i64 (f : Int)] 31)) := (Below.refl _ _).alloc (Nat.le_refl _) _
  have HUb := hide hUb
  clear hUb
  go_loopw [6, 7, 8] (fun e i _ wr => ∃ (k : Nat) (x : World), k ≤ n ∧ i = .int .i64 k ∧ e = .int .i64 ((endOf 0 (L.take k) : Nat) : Int) ∧ wr = over (w1.alloc (.cells #[.int .i64 c, .int .i64 0, .int .i64 (f : Int)] 31)) x) (fun _ i _ _ => n - (intOf i).toNat)
  case atStart => exact ⟨0, _, Nat.zero_le _, rfl, rfl, over_eq (Below.refl _ _)⟩
  case round =>
    obtain ⟨k, x, hk, rfl, rfl, rfl⟩ := hrel
    by_cases hlt : k < n
    · have hi : (k : Int) < (n : Int) := by omega
      obtain ⟨t, ht⟩ : ∃ t, L[k]? = some t := ⟨_, List.getElem?_eq_getElem (by have := HN.out; omega)⟩
      obtain ⟨hx, hle⟩ := HAt.out k t ht
      obtain ⟨hgap, hoff, hge, hcase⟩ := next_tok hle hx
      have hbl := blank_gap T0 _ hT6 hle hgap
      rw [← hoff] at hbl
      have hend : endOf 0 (L.take (k + 1)) = t.en := by
        rw [List.take_succ_eq_append_getElem (by have := HN.out; omega), endOf_snoc]
        have := (List.getElem?_eq_some_iff.1 ht).2
        rw [this]
      generalize endOf 0 (L.take k) = E at *
      have hen : t.off ≤ t.en ∧ t.en ≤ T0.size := by rcases hcase with ⟨_, a, b⟩ | ⟨_, a, b⟩ <;> omega
      have HBl : Hid (∀ W, Calls Tryd.prog 11 #[.string T0, .int .i64 (E : Int), .int .i64 (t.off : Int)] W fun e w' => e = .returned (.bool true) ∧ w' = W) := fun W => by
        have := blank_any T0 (E : Int) (t.off : Int) W (by omega) (by omega) (by omega)
        rw [hbl] at this
        exact this
      have g1 : ¬ (t.off : Int) < (E : Int) := by omega
      have g2 : ¬ (t.en : Int) < (t.off : Int) := by omega
      have g3 : ¬ (T0.size : Int) < (t.en : Int) := by omega
      obtain ⟨c0, c1, c2, c3, c4, c5⟩ := HRow.out k t ht
      have HEnd := hide hend
      clear hx hle hgap hoff hge hbl ht hend
      rcases hcase with ⟨a1, a2, a3⟩ | ⟨a1, a2, a3⟩
      · have e1 : (t.k == 0) = true := by simpa using a1
        have e2 : ((t.en : Int) == (t.off : Int)) = true := by simp; omega
        clear a1 a2 a3 hen
        go_wp2_with (go_at_call 11; refine (HBl.out _).mono ?_; rintro e w' ⟨rfl, hw'⟩; have hw' := hw'.symm; subst hw')
        go_roundw
        case rel => exact ⟨k + 1, _, by omega, by go_num, by rw [HEnd.out], over_eq ((over_below (w1.alloc (.cells #[.int .i64 c, .int .i64 0, .int .i64 (f : Int)] 31)) x).alloc (over_size (w1.alloc (.cells #[.int .i64 c, .int .i64 0, .int .i64 (f : Int)] 31)) x) _)⟩
        case measure => simp [intOf]; omega
      · have e1 : (t.k == 0) = false := by simp; omega
        have e2 : ((t.en : Int) == (t.off : Int)) = false := by simp; omega
        clear a1 a2 a3 hen
        go_wp2_with (go_at_call 11; refine (HBl.out _).mono ?_; rintro e w' ⟨rfl, hw'⟩; have hw' := hw'.symm; subst hw')
        go_roundw
        case rel => exact ⟨k + 1, _, by omega, by go_num, by rw [HEnd.out], over_eq ((over_below (w1.alloc (.cells #[.int .i64 c, .int .i64 0, .int .i64 (f : Int)] 31)) x).alloc (over_size (w1.alloc (.cells #[.int .i64 c, .int .i64 0, .int .i64 (f : Int)] 31)) x) _)⟩
        case measure => simp [intOf]; omega
    · obtain rfl : k = n := by omega
      have hi : ¬ (k : Int) < (k : Int) := by omega
      have hfull : L.take k = L := List.take_of_length_le (by rw [HN.out]; exact Nat.le_refl _)
      rw [hfull]
      clear hfull
      have hUx : Below w.heap.size w (over (w1.alloc (.cells #[.int .i64 c, .int .i64 0, .int .i64 (f : Int)] 31)) x) := (HB1.out.trans (HUb.out.mono HB1.out.size)).trans ((over_below (w1.alloc (.cells #[.int .i64 c, .int .i64 0, .int .i64 (f : Int)] 31)) x).mono (Nat.le_trans HB1.out.size HUb.out.size))
      have HUx := hide hUx
      clear hUx
      by_cases hc : c = 0
      · obtain ⟨hf0, _, hz2, hz3⟩ := HZero.out hc
        subst hc
        subst hf0
        have HEn : Hid (∀ W, (∀ i t, L[i]? = some t → TokAt W g (i * 6) t) → Calls Tryd.prog 13 #[.slice (some ⟨g, 0, none⟩) k cp, .agg #[.int .i64 0, .int .i64 0, .int .i64 0], .int .i64 (T0.size : Int)] W fun e w' => e = .returned (.bool true) ∧ Below W.heap.size W w') := fun W hW => by
          have := ended_any g cp T0.size L W (by have := HN.out; omega) (by have := HN.out; omega) hW hz3 hz2
          rw [← HN.out] at this
          exact this
        clear hz2 hz3
        go_wp2_with (go_at_call 13; refine (HEn.out _ (fun i t hi => (HRow.out i t hi).kept (over_below _ _))).mono ?_; rintro e w' ⟨rfl, hb⟩; have hb := hide hb)
        go_ret
        exact ⟨rfl, HUx.out.trans (hb.out.mono HUx.out.size)⟩
      · obtain ⟨hx, hle, hk0⟩ := HBad.out hc
        have ec : (c == 0) = false := by simpa using hc
        obtain ⟨m, rfl⟩ : ∃ m, k = m + 1 := ⟨k - 1, by omega⟩
        obtain ⟨t, ht⟩ : ∃ t, L[m]? = some t := ⟨_, List.getElem?_eq_getElem (by have := HN.out; omega)⟩
        have c0 := (HRow.out m t ht).c0
        have et : (t.k == 0) = false := by simpa using hk0 t (List.mem_of_getElem? ht)
        have hgl := gapW_le T0 _ hle
        have hbd := next_bad hx
        have hgb := fun h => gap_bad_lt T0 _ hle h
        have hbg := fun h => blank_gap T0 _ hT6 hle h
        generalize endOf 0 L = E at *
        have hf1 : E ≤ f ∧ f < T0.size := by
          rcases hbd with ⟨a, _, b⟩ | ⟨_, _, _, a, b, _⟩
          · have := hgb a; omega
          · omega
        have g1 : ¬ (f : Int) < (E : Int) := by omega
        have g2 : ¬ (T0.size : Int) ≤ (f : Int) := by omega
        by_cases h16 : c = 16
        · have e16 : (c == 16) = true := by simpa using h16
          clear hx hle hk0 ht hgl hbd hgb hbg hc h16
          go_wp2
          go_ret
          exact ⟨rfl, HUx.out⟩
        have e16 : (c == 16) = false := by simpa using h16
        by_cases h12 : c = 12
        · have e12 : (c == 12) = true := by simpa using h12
          clear hx hle hk0 ht hgl hbd hgb hbg hc h12 h16
          go_wp2
          go_ret
          exact ⟨rfl, HUx.out⟩
        have e12 : (c == 12) = false := by simpa using h12
        obtain ⟨b1, _, _, _, _, b2⟩ := hbd.resolve_left (fun h => h16 h.2.1)
        have hbl := hbg b1
        rw [← b2 h12] at hbl
        have HBl : Hid (∀ W, Calls Tryd.prog 11 #[.string T0, .int .i64 (E : Int), .int .i64 (f : Int)] W fun e w' => e = .returned (.bool true) ∧ w' = W) := fun W => by
          have := blank_any T0 (E : Int) (f : Int) W (by omega) (by omega) (by omega)
          rw [hbl] at this
          exact this
        clear hx hle hk0 ht hgl hbd hgb hbg hc h12 h16 b1 b2 hbl
        go_wp2_with (go_at_call 11; refine (HBl.out _).mono ?_; rintro e w' ⟨rfl, hw'⟩; have hw' := hw'.symm; subst hw')
        go_ret
        exact ⟨rfl, HUx.out⟩

end Go.Proofs.YtaiehmfhhdnijaaDoor
