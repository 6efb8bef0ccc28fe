/- What cut of edicttop answers at the tokens of a text. -/
import Derived.Test.YtplldgkdjainlaaDoorProg
import Derived.Test.YtplldgkdjainlaaDoorTopSpTok
import Derived.Test.YtplldgkdjainlaaDoorTopSkip
import Derived.Test.YtplldgkdjainlaaDoorTopMax
import Derived.Test.YtplldgkdjainlaaDoorAppendAny
namespace Go.Proofs.YtplldgkdjainlaaDoor
set_option linter.unusedSimpArgs false
set_option linter.unusedVariables false
open Go.RowKit

theorem endOf_take (L : List Tok) (k : Nat) (t : Tok) (h : L[k]? = some t) : endOf 0 (L.take (k + 1)) = t.en := by
  rw [List.take_add_one, h, Option.toList_some]
  exact endOf_snoc t _ _

set_option maxRecDepth 100000 in
set_option maxHeartbeats 8000000 in
theorem cut_any (s : ByteArray) (L : List Tok) (c : Int) (f : Nat) (v : Value) (base : Nat) (w : World) (hs : s.size ≤ 65536) (htl : TopLaid w) (hT : Toks s 0 L c f) (ho : w.ownsRow base 32 6 v L.length (L.flatMap cells6)) :
    Calls Tryd.prog 9 #[.string s, v] w fun e w' => e = .returned (.tuple #[.bool true, .int .i64 (endOf 0 L : Nat)]) ∧ Below w.heap.size w w' := by
  have HT := hide hT
  have HTl := hide htl
  have HOwn := hide ho
  have hln := toks_len hT
  obtain ⟨va, vc, rfl, -, -, -⟩ := own_shape6 ho
  obtain ⟨n, hn⟩ : ∃ n, n = L.length := ⟨_, rfl⟩
  have HN := hide hn
  rw [← hn] at hln ⊢
  clear hT htl ho hn
  go_enter Tryd.func9, Tryd.ntmps9
  go_wp2
  go_loopw [6, 14] (fun av i wl => ∃ k : Nat, k ≤ n ∧ i = .int .i64 k ∧ av = .int .i64 (endOf 0 (L.take k) : Nat) ∧ Hid (Below w.heap.size w wl)) (fun _ i _ => n - (intOf i).toNat)
  case atStart => exact ⟨0, by omega, rfl, rfl, Below.refl _ _⟩
  case round =>
    obtain ⟨k, hk, rfl, rfl, HB⟩ := hrel
    by_cases hlt : k < n
    · have hi : (k : Int) < (n : Int) := by omega
      have hi0 : (0 : Int) ≤ (k : Int) := by omega
      obtain ⟨t, ht⟩ : ∃ t, L[k]? = some t := ⟨_, List.getElem?_eq_getElem (by have := HN.out; omega)⟩
      obtain ⟨hx, hoe⟩ := toks_at HT.out k t ht
      obtain ⟨g, cap, hgv, -, -, hcells⟩ := own_toks HOwn.out (by have := HN.out; omega)
      cases hgv
      obtain ⟨c0, c1, c2, c3, c4, c5⟩ := (hcells k t ht).kept HB.out
      have hnt := next_tok hoe hx
      obtain ⟨o, hoo⟩ : ∃ o, o = endOf 0 (L.take k) := ⟨_, rfl⟩
      rw [← hoo] at hx hoe hnt ⊢
      have HSk := hide (fun W => skip_any s o W (by omega) hoe)
      have hgw : gapW s o = (t.off, true) := Prod.ext hnt.2.1.symm hnt.1
      rw [skip_true hgw] at HSk
      have HEn := hide (endOf_take L k t ht)
      clear hoo hcells
      by_cases h0 : t.k = 0
      · have hl := toks_k0 HT.out k t ht h0
        have het := next_end hoe hx h0
        have HFin : Hid (endOf 0 L = s.size) := by
          have := HEn.out
          rw [List.take_of_length_le (by omega)] at this
          show _ = _
          rw [this, het]
          rfl
        have hkn : (k : Int) = (n : Int) - 1 := by have := HN.out; omega
        subst het
        simp only [endTok] at c0 c1 c2 c3 c4 c5 HSk
        have e1 : ((k : Int) == (n : Int) - 1) = true := by simpa using hkn
        clear hx hnt hgw HEn hkn h0
        go_wp2_with (go_at_call 13; refine (HSk.out _).mono ?_; rintro e w' ⟨rfl, hw'⟩; have hw' := hw'.symm; subst hw')
        go_ret2
        exact ⟨by rw [HFin.out]; rfl, HB.out.trans ((belowA wr _).mono HB.out.size)⟩
      · have hnz := (hnt.2.2.2).resolve_left (fun h => h0 h.1)
        have htok : tokAt s t.off = .tok t := by
          unfold nextX at hx
          rw [hgw] at hx
          simpa using hx
        have HSp := hide (fun (V : World) (hb : Below w.heap.size w V) => sp_tok (s := s) V (by omega) (HTl.out.kept hb) htok h0)
        have HMx := hide (tok_max (s := s) (by omega) htok h0)
        obtain ⟨tk, tt, tn, top, toff, ten⟩ := t
        simp only at c0 c1 c2 c3 c4 c5 HSk hnz h0 HEn HMx
        unfold Spells at HSp
        simp only at HSp
        have z0 : (tk == 0) = false := by simpa using h0
        have p1 : ¬ (ten : Int) ≤ (toff : Int) := by omega
        have p2 : ¬ (s.size : Int) < (ten : Int) := by omega
        have p1' : decide ((ten : Int) ≤ (toff : Int)) = false := decide_eq_false p1
        have p2' : decide ((s.size : Int) < (ten : Int)) = false := decide_eq_false p2
        have p6 : decide (ten ≤ toff) = false := decide_eq_false (by omega)
        have p7 : decide (s.size < ten) = false := decide_eq_false (by omega)
        have p3 : (toff : Int) ≤ (ten : Int) := by omega
        have p4 : (ten : Int) ≤ (s.size : Int) := by omega
        have p5 : (0 : Int) ≤ (toff : Int) := by omega
        have po : ((toff : Int) != (toff : Int)) = false := by simp
        clear hx hnt hgw htok ht
        go_wp2_with (go_at_call 13; refine (HSk.out _).mono ?_; rintro e w' ⟨rfl, hw'⟩; have hw' := hw'.symm; subst hw')
        obtain ⟨Y, hY⟩ : ∃ Y, Y = wr.alloc (.cells #[.int .i64 tk, .string tt, .int .i64 tn, .int .i64 top, .int .i64 toff, .int .i64 ten] 32) := ⟨_, rfl⟩
        have HBY : Hid (Below w.heap.size w Y) := by rw [hY]; exact HB.out.trans ((belowA wr _).mono HB.out.size)
        have d0 : Y.cell? ⟨wr.heap.size, 0, none⟩ = some (.int .i64 tk) := by rw [hY]; simp
        have d1 : Y.cell? ⟨wr.heap.size, 1, none⟩ = some (.string tt) := by rw [hY]; simp
        have d2 : Y.cell? ⟨wr.heap.size, 2, none⟩ = some (.int .i64 tn) := by rw [hY]; simp
        have d3 : Y.cell? ⟨wr.heap.size, 3, none⟩ = some (.int .i64 top) := by rw [hY]; simp
        have d4 : Y.cell? ⟨wr.heap.size, 4, none⟩ = some (.int .i64 toff) := by rw [hY]; simp
        have d5 : Y.cell? ⟨wr.heap.size, 5, none⟩ = some (.int .i64 ten) := by rw [hY]; simp
        rw [← hY]
        clear hY c0 c1 c2 c3 c4 c5 HSk
        refine wp_region_over (fun W => W = Y) (by kernel_rfl) (by kernel_rfl) rfl ?_
        rintro W rfl
        have x0 := over_cell d0
        have x1 := over_cell d1
        have x2 := over_cell d2
        have x3 := over_cell d3
        have x4 := over_cell d4
        have x5 := over_cell d5
        repeat (go_big_quiet_step (first | (go_at_call 14; exact calls_over (HSp.out _ (HBY.out.trans ((over_below _ _).mono HBY.out.size))))))
        refine wpQuiet_nil ?_
        rintro _ ⟨z, rfl⟩
        have HB3 := hide (HBY.out.trans ((over_below W z).mono HBY.out.size))
        have y0 := kept_cell (over_below W z) d0
        have y3 := kept_cell (over_below W z) d3
        have y5 := kept_cell (over_below W z) d5
        clear d0 d1 d2 d3 d4 d5 x0 x1 x2 x3 x4 x5 HSp HBY
        generalize over W z = W3 at *
        by_cases hel : ten < s.size
        · have q1 : (ten : Int) < (s.size : Int) := by omega
          obtain ⟨m1, m2⟩ := HMx.out hel
          have HWb := hide (fun V => tword_any (s[ten].toNat : Int) V (by have := s[ten].toNat_lt; omega))
          by_cases k3 : tk ≤ 3
          · rw [m1 (.inl k3)] at HWb
            have k11 : (tk == 11) = false := by simp; omega
            clear m1 m2 HMx
            go_wp2_with (go_at_call 15; refine (HWb.out _).mono ?_; rintro e w' ⟨rfl, hw'⟩; have hw' := hw'.symm; subst hw')
            go_roundw
            case rel => exact ⟨k + 1, by omega, by go_num, by rw [HEn.out], HB3⟩
            case measure => simp [intOf]; omega
          by_cases k10 : tk = 10
          · rw [m1 (.inr k10)] at HWb
            subst k10
            clear m1 m2 HMx
            go_wp2_with (go_at_call 15; refine (HWb.out _).mono ?_; rintro e w' ⟨rfl, hw'⟩; have hw' := hw'.symm; subst hw')
            go_roundw
            case rel => exact ⟨k + 1, by omega, by go_num, by rw [HEn.out], HB3⟩
            case measure => simp [intOf]; omega
          have k10' : (tk == 10) = false := by simpa using k10
          by_cases k11 : tk = 11
          · subst k11
            by_cases o3 : top = 3
            · subst o3
              have hb : ((s[ten].toNat : Int) == 61) = false := by simpa using m2 rfl (.inl rfl)
              clear m1 m2 HMx HWb
              go_wp2
              go_roundw
              case rel => exact ⟨k + 1, by omega, by go_num, by rw [HEn.out], HB3⟩
              case measure => simp [intOf]; omega
            have o3' : (top == 3) = false := by simpa using o3
            by_cases o5 : top = 5
            · subst o5
              have hb : ((s[ten].toNat : Int) == 61) = false := by simpa using m2 rfl (.inr rfl)
              clear m1 m2 HMx HWb
              go_wp2
              go_roundw
              case rel => exact ⟨k + 1, by omega, by go_num, by rw [HEn.out], HB3⟩
              case measure => simp [intOf]; omega
            have o5' : (top == 5) = false := by simpa using o5
            clear m1 m2 HMx HWb
            go_wp2
            go_roundw
            case rel => exact ⟨k + 1, by omega, by go_num, by rw [HEn.out], HB3⟩
            case measure => simp [intOf]; omega
          have k11' : (tk == 11) = false := by simpa using k11
          clear m1 m2 HMx HWb
          go_wp2
          go_roundw
          case rel => exact ⟨k + 1, by omega, by go_num, by rw [HEn.out], HB3⟩
          case measure => simp [intOf]; omega
        · have q1 : ¬ (ten : Int) < (s.size : Int) := by omega
          clear HMx
          go_wp2
          go_roundw
          case rel => exact ⟨k + 1, by omega, by go_num, by rw [HEn.out], HB3⟩
          case measure => simp [intOf]; omega
    · have hi : ¬ (k : Int) < (n : Int) := by omega
      have hke : k = L.length := by have := HN.out; omega
      have HFin : Hid (endOf 0 (L.take k) = endOf 0 L) := by show _ = _; rw [List.take_of_length_le (by omega)]
      go_wp2
      go_ret2
      exact ⟨by rw [← HFin.out]; rfl, HB.out⟩
end Go.Proofs.YtplldgkdjainlaaDoor
