/- edictlaw01.SymFull returns true: a table takes 65536 constants and not one more. -/
import Derived.Test.YtlghlkgdngoagaaProg
import Derived.Test.YtlghlkgdngoagaaFull
namespace Go.Proofs.Ytlghlkgdngoagaa
set_option linter.unusedSimpArgs false
set_option linter.unusedVariables false
open Go.RowKit Go.Maps

theorem keyAny (z : Int) (w : World) : Calls Try.prog 18 #[.int .i64 z] w fun e w' => e = .returned (.agg #[.int .i64 1, .int .i64 z, .string ⟨#[]⟩]) ∧ Below w.heap.size w w' := key_any z w

theorem neqSelf (z : Int) (w : World) : (binOp .neq 34 (.agg #[.int .i64 1, .int .i64 z, .string ⟨#[]⟩]) (.agg #[.int .i64 1, .int .i64 z, .string ⟨#[]⟩])).run Try.prog w = .ok (.bool false) w := by
  have := neqCon (keyI z) (keyI z) w
  rw [conEq_refl] at this
  exact this

set_option maxHeartbeats 4000000 in
set_option maxRecDepth 100000 in
theorem symFull_walk (w : World) : Calls Try.prog 5 #[] w fun e w' => e = .returned (.bool true) ∧ Below w.heap.size w w' := by
  have HNew := hide (newTable_any w (base := 0) (Nat.zero_le _))
  go_enter Try.func5, Try.ntmps5
  go_wp2_with (first
    | (go_at_call 15; refine HNew.out.mono ?_; rintro e w1 ⟨p, m, rfl, h1, hb1, hp, hm⟩; have H1 := hide h1; have HB1 := hide hb1; clear h1 hb1)
    | (go_at_call 16; refine (silent_any _).mono ?_; rintro e w2 ⟨rfl, hb2⟩; have HB2 := hide hb2; clear hb2))
  have HT0 : Hid (Tab w w2 p m 0 0) := ⟨none, 0, H1.out.grow HB2.out, HB1.out.trans (HB2.out.mono HB1.out.size), fun a h => by cases h⟩
  clear H1 HB1 HB2
  go_loopw [2, 3, 4] (fun i _ _ wr => ∃ k n : Nat, i = .int .i64 k ∧ n ≤ k ∧ Hid (k ≤ 65536 ∧ Tab w wr p m n k)) (fun i _ _ _ => 65536 - (intOf i).toNat)
  case atStart => exact ⟨0, 0, rfl, Nat.le_refl _, by omega, HT0.out⟩
  case round =>
    obtain ⟨k, n, rfl, hn, HT⟩ := hrel
    by_cases hlt : k < 65536
    · have hi : decide ((k : Int) < 65536) = true := decide_eq_true (by omega)
      have hk : (k : Int) < 1000000 := by omega
      have HLt := hide hlt
      clear hlt
      go_wp2_with (first
        | (go_at_call 18; refine (keyAny _ _).mono ?_; rintro e w3 ⟨rfl, hb3⟩; have HB3 := hide hb3; clear hb3)
        | (go_at_call 17; refine (tab_next hp hm (HT.out.2.grow HB3.out) hn HLt.out).mono ?_; rintro e w4 ⟨rfl, ht4⟩; have HT4 := hide ht4; clear ht4))
      go_roundw
      case rel => exact ⟨k + 1, n + 1, by go_num, by omega, HLt.out, HT4.out⟩
      case measure => have := HLt.out; simp [intOf]; omega
    · have hi : decide ((k : Int) < 65536) = false := decide_eq_false (by omega)
      have HK : Hid (k = 65536) := by have := HT.out.1; show k = 65536; omega
      have hkb : (k : Int) < 1000000 := by have := HK.out; omega
      have HT1 : Hid (Tab w wr p m n k) := HT.out.2
      have HN : Hid (n ≤ 65536) := by have := HK.out; show n ≤ 65536; omega
      clear hlt hn HT HT0 hi
      have hi : ¬ (k : Int) < 65536 := by have := HK.out; omega
      go_wp2
      clear hi
      generalize hwr : wr = wa at *
      clear hwr
      go_loopw [5, 6, 7] (fun i _ _ wr => ∃ j : Nat, i = .int .i64 j ∧ Hid (j ≤ k ∧ Tab w wr p m n k)) (fun i _ _ _ => 65536 - (intOf i).toNat)
      case atStart => exact ⟨0, rfl, Nat.zero_le _, HT1.out⟩
      case round =>
        obtain ⟨j, rfl, HT⟩ := hrel
        by_cases hlt : j < 65536
        · have hi : decide ((j : Int) < 65536) = true := decide_eq_true (by omega)
          have hj : (j : Int) < 1000000 := by omega
          have HLt : Hid (j < k) := by rw [HK.out]; exact hlt
          have HK6 : Hid (k ≤ 65536) := by have := HK.out; show k ≤ 65536; omega
          clear hlt
          go_wp2_with (first
            | (go_at_call 19; refine (tab_at HT.out.2 HK6.out HLt.out).mono ?_; rintro e w3 ⟨rfl, hb3⟩; have HB3 := hide hb3; clear hb3))
          have hU : Below w3.heap.size w3 (w3.alloc (.cells #[.int .i64 1, .int .i64 (7 * (j : Int) - 100000), .string ⟨#[]⟩] 34)) := (Below.refl _ _).alloc (Nat.le_refl _) _
          have HTU : Hid (Tab w (w3.alloc (.cells #[.int .i64 1, .int .i64 (7 * (j : Int) - 100000), .string ⟨#[]⟩] 34)) p m n k) := (HT.out.2.grow HB3.out).grow hU
          have hbox := conAt_new w3 (keyN j) 34
          unfold boxOf keyN keyI at hbox
          obtain ⟨x0, x1, x2⟩ := hbox
          have x0' := over_cell x0
          have x1' := over_cell x1
          have x2' := over_cell x2
          simp only [Nat.zero_add] at x0' x1' x2'
          have hne := neqSelf (7 * (j : Int) - 100000)
          have HF : Hid (∀ y, Calls Try.prog 20 #[.pointer (some ⟨p, 0, none⟩), .agg #[.int .i64 1, .int .i64 (7 * (j : Int) - 100000), .string ⟨#[]⟩]] (over (w3.alloc (.cells #[.int .i64 1, .int .i64 (7 * (j : Int) - 100000), .string ⟨#[]⟩] 34)) y) fun e W' => e = .returned (.int .i64 (j : Int)) ∧ Below (over (w3.alloc (.cells #[.int .i64 1, .int .i64 (7 * (j : Int) - 100000), .string ⟨#[]⟩] 34)) y).heap.size (over (w3.alloc (.cells #[.int .i64 1, .int .i64 (7 * (j : Int) - 100000), .string ⟨#[]⟩] 34)) y) W') := fun y => tab_find (HTU.out.grow (over_below _ y)) HK6.out HLt.out
          clear x0 x1 x2 hU
          refine wp_region_over (fun W => W = (w3.alloc (.cells #[.int .i64 1, .int .i64 (7 * (j : Int) - 100000), .string ⟨#[]⟩] 34))) (by kernel_rfl) (by kernel_rfl) rfl ?_
          rintro W rfl
          repeat (go_big_quiet_step (first | (go_at_call 18; exact calls_over (keyAny _ _)) | (go_at_call 20; exact calls_over (HF.out _))))
          refine wpQuiet_nil ?_
          rintro _ ⟨y, rfl⟩
          have HT5 : Hid (Tab w (over (w3.alloc (.cells #[.int .i64 1, .int .i64 (7 * (j : Int) - 100000), .string ⟨#[]⟩] 34)) y) p m n k) := HTU.out.grow (over_below _ y)
          clear x0' x1' x2' hne HF HTU
          go_wp2
          go_roundw
          case rel => exact ⟨j + 1, by go_num, HLt.out, HT5.out⟩
          case measure => have := HLt.out; have := HK.out; simp [intOf]; omega
        · have hi : ¬ (j : Int) < 65536 := by omega
          have HT6 : Hid (Tab w wr p m n 65536) := by have h := HT.out.2; rw [HK.out] at h; exact h
          have HJ : Hid (k = 65536) := HK.out
          clear hlt HT HT1
          go_wp2_with (go_at_call 18; refine (keyAny _ _).mono ?_; rintro e w3 ⟨rfl, hb3⟩; have HB3 := hide hb3; clear hb3)
          clear hi
          have HT7 : Hid (Tab w w3 p m n 65536) := HT6.out.grow HB3.out
          refine (tab_full HT7.out).mono ?_
          rintro e w4 ⟨rfl, hb4⟩
          have HT8 : Hid (Tab w w4 p m n 65536) := HT7.out.grow hb4
          clear hb4 HT7 HT6 HB3
          have HL : Hid (∀ y, Calls Try.prog 21 #[.pointer (some ⟨p, 0, none⟩)] (over w4 y) fun e W' => e = .returned (.int .i64 65536) ∧ W' = over w4 y) := fun y => tab_len (HT8.out.grow (over_below _ y))
          have HF : Hid (∀ y, Calls Try.prog 20 #[.pointer (some ⟨p, 0, none⟩), .agg #[.int .i64 1, .int .i64 3, .string ⟨#[]⟩]] (over w4 y) fun e W' => e = .returned (.int .i64 (-1)) ∧ Below (over w4 y).heap.size (over w4 y) W') := fun y => tab_none (HT8.out.grow (over_below _ y)) (Nat.le_refl _) (.inl rfl)
          go_wp2_with fail
          refine wp_region_over (fun W => W = w4) (by kernel_rfl) (by kernel_rfl) rfl ?_
          rintro W rfl
          repeat (go_big_quiet_step (first | (go_at_call 18; exact calls_over (keyAny _ _)) | (go_at_call 21; exact calls_over_same (HL.out _)) | (go_at_call 20; exact calls_over (HF.out _))))
          refine wpQuiet_nil ?_
          rintro _ ⟨y, rfl⟩
          have HT9 : Hid (Tab w (over W y) p m n 65536) := HT8.out.grow (over_below _ y)
          clear HL HF HT8
          generalize over W y = w5 at *
          go_wp2_with (go_at_call 18; refine (keyAny _ _).mono ?_; rintro e w6 ⟨rfl, hb6⟩; have HB6 := hide hb6; clear hb6)
          have HT10 : Hid (Tab w w6 p m n 65536) := HT9.out.grow HB6.out
          refine (tab_old HT10.out (Nat.le_refl _) (by omega)).mono ?_
          rintro e w7 ⟨rfl, hb7⟩
          have HT11 : Hid (Tab w w7 p m n 65536) := HT10.out.grow hb7
          clear hb7 HT10 HT9 HB6
          go_wp2_with fail
          refine (tab_bad HT11.out).mono ?_
          rintro e w8 ⟨rfl, hb8⟩
          have HT12 : Hid (Tab w w8 p m n 65536) := HT11.out.grow hb8
          clear hb8 HT11
          have HC : Hid (Calls Try.prog 22 #[.pointer (some ⟨p, 0, none⟩), .int .i64 65535] w8 fun e W' => e = .returned (.tuple #[]) ∧ Tab w W' p m n 65535) := tab_cut hp hm HT12.out (Nat.le_refl _) (d := 65535) (by omega)
          go_wp2_with fail
          refine HC.out.mono ?_
          rintro e w9 ⟨rfl, ht9⟩
          have HT13 := hide ht9
          clear ht9 HC HT12
          go_wp2_with (go_at_call 18; refine (keyAny _ _).mono ?_; rintro e w10 ⟨rfl, hb10⟩; have HB10 := hide hb10; clear hb10)
          refine (tab_last hp hm (HT13.out.grow HB10.out) HN.out).mono ?_
          rintro e w11 ⟨rfl, hb11, hf11⟩
          have HB11 := hide hb11
          have HF : Hid (∀ y, Calls Try.prog 20 #[.pointer (some ⟨p, 0, none⟩), .agg #[.int .i64 1, .int .i64 358745, .string ⟨#[]⟩]] (over w11 y) fun e W' => e = .returned (.int .i64 (-1)) ∧ Below (over w11 y).heap.size (over w11 y) W') := fun y => hf11 _ (over_below _ y)
          clear hb11 hf11
          go_wp2_with fail
          refine wp_region_over (fun W => W = w11) (by kernel_rfl) (by kernel_rfl) rfl ?_
          rintro W rfl
          repeat (go_big_quiet_step (first | (go_at_call 18; exact calls_over (keyAny _ _)) | (go_at_call 20; exact calls_over (HF.out _))))
          refine wpQuiet_nil ?_
          rintro _ ⟨y2, rfl⟩
          go_wp2
          go_ret
          exact ⟨rfl, HB11.out.trans ((over_below _ y2).mono HB11.out.size)⟩

end Go.Proofs.Ytlghlkgdngoagaa
