/- Two strings one behind the other. The maker's own strings: mod, long, names, variables, texts, integers, operators. The maker's names, variables and integers. The maker's integers and texts. What the maker's texts are read as: every tree with its places. The maker step by step, as plain functions: its text so far, how many tokens were put, the trees; and that they are the pieces and the trees of MakeTree and MakeRead. Faults held against none; boxes that stay. The maker in memory: its text so far, its gaps, where it is in them; the gap ahead of the next token. The maker puts a token. -/
import Derived.Test.YtilckhdaijfddaaDoorProg
import Derived.Test.YtilckhdaijfddaaDoorOpen
import Derived.Test.YtilckhdaijfddaaDoorPkM1
import Derived.Test.YtilckhdaijfddaaDoorParseLit
import Derived.Test.YtilckhdaijfddaaDoorForms
import Derived.Deep.DeepCutAuto

namespace Go.Proofs.YtilckhdaijfddaaDoor
set_option linter.unusedSimpArgs false
set_option linter.unusedVariables false
open Go.RowKit

theorem small_cat (a b : ByteArray) (h : a.size + b.size ≤ 1000000) (w : World) : (Op.stringOp .add a b).run Tryd.prog w = .ok (.string (a ++ b)) w := by
  have h1 : ¬ (((a.size + b.size : Nat) : Int) > IntKind.i64.max) := by show ¬ _ > (9223372036854775807 : Int); omega
  unfold Op.stringOp
  simp only
  rw [if_neg h1]
  rfl
end Go.Proofs.YtilckhdaijfddaaDoor

namespace Go.Proofs.YtilckhdaijfddaaDoor
set_option linter.unusedSimpArgs false
set_option linter.unusedVariables false
open Go.RowKit

set_option maxRecDepth 100000 in
set_option maxHeartbeats 1000000 in
theorem mod_3 (n : Int) (w : World) : Calls Tryd.prog 19 #[.int .i64 n, .int .i64 3] w fun e w' => e = .returned (.int .i64 (modM n 3)) ∧ w' = w := by
  go_enter Tryd.func19, Tryd.ntmps19
  go_wp2
  go_ret
  have h1 := Int.tmod_lt_of_pos n (show (0 : Int) < 3 by decide)
  have h2 := Int.lt_tmod_of_pos n (show (0 : Int) < 3 by decide)
  unfold modM
  generalize n.tmod 3 = x at *
  have hw : wrap64 (x + 3) = x + 3 := by unfold wrap64; omega
  have h3 : (x + 3).tmod 3 = (x + 3) % 3 := Int.tmod_eq_emod_of_nonneg (by omega)
  refine ⟨?_, rfl⟩
  show Ending.returned (.int .i64 ((wrap64 (x + 3)).tmod 3)) = _
  rw [hw, h3]

set_option maxRecDepth 100000 in
set_option maxHeartbeats 1000000 in
theorem mod_4 (n : Int) (w : World) : Calls Tryd.prog 19 #[.int .i64 n, .int .i64 4] w fun e w' => e = .returned (.int .i64 (modM n 4)) ∧ w' = w := by
  go_enter Tryd.func19, Tryd.ntmps19
  go_wp2
  go_ret
  have h1 := Int.tmod_lt_of_pos n (show (0 : Int) < 4 by decide)
  have h2 := Int.lt_tmod_of_pos n (show (0 : Int) < 4 by decide)
  unfold modM
  generalize n.tmod 4 = x at *
  have hw : wrap64 (x + 4) = x + 4 := by unfold wrap64; omega
  have h3 : (x + 4).tmod 4 = (x + 4) % 4 := Int.tmod_eq_emod_of_nonneg (by omega)
  refine ⟨?_, rfl⟩
  show Ending.returned (.int .i64 ((wrap64 (x + 4)).tmod 4)) = _
  rw [hw, h3]

set_option maxRecDepth 100000 in
set_option maxHeartbeats 1000000 in
theorem mod_6 (n : Int) (w : World) : Calls Tryd.prog 19 #[.int .i64 n, .int .i64 6] w fun e w' => e = .returned (.int .i64 (modM n 6)) ∧ w' = w := by
  go_enter Tryd.func19, Tryd.ntmps19
  go_wp2
  go_ret
  have h1 := Int.tmod_lt_of_pos n (show (0 : Int) < 6 by decide)
  have h2 := Int.lt_tmod_of_pos n (show (0 : Int) < 6 by decide)
  unfold modM
  generalize n.tmod 6 = x at *
  have hw : wrap64 (x + 6) = x + 6 := by unfold wrap64; omega
  have h3 : (x + 6).tmod 6 = (x + 6) % 6 := Int.tmod_eq_emod_of_nonneg (by omega)
  refine ⟨?_, rfl⟩
  show Ending.returned (.int .i64 ((wrap64 (x + 6)).tmod 6)) = _
  rw [hw, h3]

set_option maxRecDepth 100000 in
set_option maxHeartbeats 1000000 in
theorem mod_8 (n : Int) (w : World) : Calls Tryd.prog 19 #[.int .i64 n, .int .i64 8] w fun e w' => e = .returned (.int .i64 (modM n 8)) ∧ w' = w := by
  go_enter Tryd.func19, Tryd.ntmps19
  go_wp2
  go_ret
  have h1 := Int.tmod_lt_of_pos n (show (0 : Int) < 8 by decide)
  have h2 := Int.lt_tmod_of_pos n (show (0 : Int) < 8 by decide)
  unfold modM
  generalize n.tmod 8 = x at *
  have hw : wrap64 (x + 8) = x + 8 := by unfold wrap64; omega
  have h3 : (x + 8).tmod 8 = (x + 8) % 8 := Int.tmod_eq_emod_of_nonneg (by omega)
  refine ⟨?_, rfl⟩
  show Ending.returned (.int .i64 ((wrap64 (x + 8)).tmod 8)) = _
  rw [hw, h3]

set_option maxRecDepth 100000 in
set_option maxHeartbeats 1000000 in
theorem mod_12 (n : Int) (w : World) : Calls Tryd.prog 19 #[.int .i64 n, .int .i64 12] w fun e w' => e = .returned (.int .i64 (modM n 12)) ∧ w' = w := by
  go_enter Tryd.func19, Tryd.ntmps19
  go_wp2
  go_ret
  have h1 := Int.tmod_lt_of_pos n (show (0 : Int) < 12 by decide)
  have h2 := Int.lt_tmod_of_pos n (show (0 : Int) < 12 by decide)
  unfold modM
  generalize n.tmod 12 = x at *
  have hw : wrap64 (x + 12) = x + 12 := by unfold wrap64; omega
  have h3 : (x + 12).tmod 12 = (x + 12) % 12 := Int.tmod_eq_emod_of_nonneg (by omega)
  refine ⟨?_, rfl⟩
  show Ending.returned (.int .i64 ((wrap64 (x + 12)).tmod 12)) = _
  rw [hw, h3]

set_option maxRecDepth 100000 in
set_option maxHeartbeats 1000000 in
theorem mod_1000 (n : Int) (w : World) : Calls Tryd.prog 19 #[.int .i64 n, .int .i64 1000] w fun e w' => e = .returned (.int .i64 (modM n 1000)) ∧ w' = w := by
  go_enter Tryd.func19, Tryd.ntmps19
  go_wp2
  go_ret
  have h1 := Int.tmod_lt_of_pos n (show (0 : Int) < 1000 by decide)
  have h2 := Int.lt_tmod_of_pos n (show (0 : Int) < 1000 by decide)
  unfold modM
  generalize n.tmod 1000 = x at *
  have hw : wrap64 (x + 1000) = x + 1000 := by unfold wrap64; omega
  have h3 : (x + 1000).tmod 1000 = (x + 1000) % 1000 := Int.tmod_eq_emod_of_nonneg (by omega)
  refine ⟨?_, rfl⟩
  show Ending.returned (.int .i64 ((wrap64 (x + 1000)).tmod 1000)) = _
  rw [hw, h3]

set_option maxRecDepth 100000 in
set_option maxHeartbeats 1000000 in
theorem opOf_any (n : Int) (w : World) : Calls Tryd.prog 43 #[.int .i64 n] w fun e w' => e = .returned (.string ⟨(opL (modM n 6)).toArray⟩) ∧ w' = w := by
  have HM := hide (fun W => mod_6 n W)
  have hb := modM_lt n (k := 6) (by decide)
  generalize modM n 6 = m at HM hb ⊢
  have h : m = 0 ∨ m = 1 ∨ m = 2 ∨ m = 3 ∨ m = 4 ∨ m = 5 := by omega
  clear hb
  rcases h with rfl | rfl | rfl | rfl | rfl | rfl <;>
  · go_enter Tryd.func43, Tryd.ntmps43
    go_wp2_with (go_at_call 19; refine (HM.out _).mono ?_; rintro e w1 ⟨rfl, hw⟩; have hw := hw.symm; subst hw)
    go_ret
    exact ⟨rfl, rfl⟩
theorem cat_arr (l m : List UInt8) : (⟨l.toArray⟩ : ByteArray) ++ (⟨m.toArray⟩ : ByteArray) = ⟨(l ++ m).toArray⟩ := by
  have e : ((⟨l.toArray⟩ : ByteArray) ++ (⟨m.toArray⟩ : ByteArray)).data = (l ++ m).toArray := by rw [ByteArray.data_append]; simp
  exact congrArg ByteArray.mk e
theorem arr_size (l : List UInt8) : (⟨l.toArray⟩ : ByteArray).size = l.length := by show l.toArray.size = _; simp
/-- strconv.Itoa, wherever memory has grown from w on. -/
def ItoaOk (w : World) : Prop := ∀ W : World, Below w.heap.size w W → ∀ n : Int, I64 n → Calls Tryd.prog 33 #[.int .i64 n] W fun e w' => e = .returned (.string ⟨(Go.Lib.itoa n).toArray⟩) ∧ Below W.heap.size W w'
theorem ItoaOk.kept {w w' : World} (h : ItoaOk w) (hb : Below w.heap.size w w') : ItoaOk w' := fun W hW n hn => h W (hb.trans (hW.mono hb.size)) n hn
set_option maxRecDepth 100000 in
set_option maxHeartbeats 1000000 in
theorem long_l (w : World) : Calls Tryd.prog 32 #[.string ⟨#[108]⟩] w fun e w' => e = .returned (.string ⟨(longL 108).toArray⟩) ∧ w' = w := by
  go_enter Tryd.func32, Tryd.ntmps32
  go_wp2
  go_loopw [3] (fun v wl => ∃ j : Nat, j ≤ 63 ∧ v = .string ⟨(108 :: List.replicate j 95).toArray⟩ ∧ wl = w) (fun v _ => match v with | .string b => 64 - b.size | _ => 0)
  case atStart => exact ⟨0, by omega, rfl, rfl⟩
  case round =>
    obtain ⟨j, hj, rfl, rfl⟩ := hrel
    have hsz : (⟨(108 :: List.replicate j 95).toArray⟩ : ByteArray).size = j + 1 := by rw [arr_size]; simp
    by_cases hlt : j < 63
    · have hi : (((⟨(108 :: List.replicate j 95).toArray⟩ : ByteArray).size : Nat) : Int) < 64 := by rw [hsz]; omega
      have hc : ∀ W : World, (Op.stringOp .add ⟨(108 :: List.replicate j 95).toArray⟩ ⟨#[95]⟩).run Tryd.prog W = .ok (.string ⟨(108 :: List.replicate (j + 1) 95).toArray⟩) W := fun W => by
        rw [small_cat _ _ (by rw [hsz]; show j + 1 + 1 ≤ _; omega)]
        rw [show (⟨#[95]⟩ : ByteArray) = ⟨([95] : List UInt8).toArray⟩ from rfl, cat_arr, List.cons_append, ← List.replicate_succ']
      go_wp2
      go_roundw
      case rel => exact ⟨j + 1, by omega, rfl, by trivial⟩
      case measure => simp only [arr_size, List.length_cons, List.length_replicate]; omega
    · obtain rfl : j = 63 := by omega
      have hi : ¬ (((⟨(108 :: List.replicate 63 95).toArray⟩ : ByteArray).size : Nat) : Int) < 64 := by rw [hsz]; omega
      go_wp2
      go_ret
      exact ⟨rfl, rfl⟩
set_option maxRecDepth 100000 in
set_option maxHeartbeats 1000000 in
theorem long_V (w : World) : Calls Tryd.prog 32 #[.string ⟨#[86]⟩] w fun e w' => e = .returned (.string ⟨(longL 86).toArray⟩) ∧ w' = w := by
  go_enter Tryd.func32, Tryd.ntmps32
  go_wp2
  go_loopw [3] (fun v wl => ∃ j : Nat, j ≤ 63 ∧ v = .string ⟨(86 :: List.replicate j 95).toArray⟩ ∧ wl = w) (fun v _ => match v with | .string b => 64 - b.size | _ => 0)
  case atStart => exact ⟨0, by omega, rfl, rfl⟩
  case round =>
    obtain ⟨j, hj, rfl, rfl⟩ := hrel
    have hsz : (⟨(86 :: List.replicate j 95).toArray⟩ : ByteArray).size = j + 1 := by rw [arr_size]; simp
    by_cases hlt : j < 63
    · have hi : (((⟨(86 :: List.replicate j 95).toArray⟩ : ByteArray).size : Nat) : Int) < 64 := by rw [hsz]; omega
      have hc : ∀ W : World, (Op.stringOp .add ⟨(86 :: List.replicate j 95).toArray⟩ ⟨#[95]⟩).run Tryd.prog W = .ok (.string ⟨(86 :: List.replicate (j + 1) 95).toArray⟩) W := fun W => by
        rw [small_cat _ _ (by rw [hsz]; show j + 1 + 1 ≤ _; omega)]
        rw [show (⟨#[95]⟩ : ByteArray) = ⟨([95] : List UInt8).toArray⟩ from rfl, cat_arr, List.cons_append, ← List.replicate_succ']
      go_wp2
      go_roundw
      case rel => exact ⟨j + 1, by omega, rfl, by trivial⟩
      case measure => simp only [arr_size, List.length_cons, List.length_replicate]; omega
    · obtain rfl : j = 63 := by omega
      have hi : ¬ (((⟨(86 :: List.replicate 63 95).toArray⟩ : ByteArray).size : Nat) : Int) < 64 := by rw [hsz]; omega
      go_wp2
      go_ret
      exact ⟨rfl, rfl⟩
end Go.Proofs.YtilckhdaijfddaaDoor

namespace Go.Proofs.YtilckhdaijfddaaDoor
set_option linter.unusedSimpArgs false
set_option linter.unusedVariables false
open Go.RowKit

theorem mil_itoa (n : Int) : Go.Lib.itoa (modM n 1000) = Go.Lib.decDigits (mil n) := by
  have h := modM_lt n (k := 1000) (by decide)
  unfold Go.Lib.itoa mil
  rw [if_neg (by omega)]
theorem i64_1000 (n : Int) : I64 (modM n 1000) := by
  have h := modM_lt n (k := 1000) (by decide)
  unfold I64
  omega

set_option maxRecDepth 100000 in
set_option maxHeartbeats 2000000 in
theorem nameOf_any (n : Int) (w : World) (hI : ItoaOk w) : Calls Tryd.prog 18 #[.int .i64 n] w fun e w' => e = .returned (.string ⟨(nameL (modM n 12) (mil n)).toArray⟩) ∧ Below w.heap.size w w' := by
  have HM := hide (fun W => mod_12 n W)
  have HN := hide (fun W => mod_1000 n W)
  have HI : Hid (∀ W : World, Below w.heap.size w W → Calls Tryd.prog 33 #[.int .i64 (modM n 1000)] W fun e w' => e = .returned (.string ⟨(Go.Lib.decDigits (mil n)).toArray⟩) ∧ Below W.heap.size W w') := fun W hW => by
    have := hI W hW (modM n 1000) (i64_1000 n)
    rw [mil_itoa] at this
    exact this
  have hlen : (⟨(Go.Lib.decDigits (mil n)).toArray⟩ : ByteArray).size ≤ 20 := by rw [arr_size]; exact dec_short (mil_lt n)
  have hcat : ∀ W : World, (Op.stringOp .add ⟨#[112]⟩ ⟨(Go.Lib.decDigits (mil n)).toArray⟩).run Tryd.prog W = .ok (.string ⟨(112 :: Go.Lib.decDigits (mil n)).toArray⟩) W := fun W => by
    rw [small_cat _ _ (by show 1 + _ ≤ _; omega), show (⟨#[112]⟩ : ByteArray) = ⟨([112] : List UInt8).toArray⟩ from rfl, cat_arr]
    rfl
  have HL := hide (fun W => long_l W)
  have hb := modM_lt n (k := 12) (by decide)
  clear hI hlen
  generalize modM n 12 = m at HM hb ⊢
  have h : m = 0 ∨ m = 1 ∨ m = 2 ∨ m = 3 ∨ m = 4 ∨ m = 5 ∨ m = 6 ∨ m = 7 ∨ m = 8 ∨ m = 9 ∨ m = 10 ∨ m = 11 := by omega
  clear hb
  rcases h with rfl | rfl | rfl | rfl | rfl | rfl | rfl | rfl | rfl | rfl | rfl | rfl <;>
  · go_enter Tryd.func18, Tryd.ntmps18
    go_wp2_with (first
      | (go_at_call 19; (with_reducible refine (HM.out _).mono ?_); rintro e w1 ⟨rfl, hw⟩; have hw := hw.symm; subst hw)
      | (go_at_call 19; (with_reducible refine (HN.out _).mono ?_); rintro e w1 ⟨rfl, hw⟩; have hw := hw.symm; subst hw)
      | (go_at_call 32; refine (HL.out _).mono ?_; rintro e w1 ⟨rfl, hw⟩; have hw := hw.symm; subst hw)
      | (go_at_call 33; refine (HI.out _ (Below.refl _ _)).mono ?_; rintro e w2 ⟨rfl, hb2⟩; have HB2 := hide hb2; clear hb2))
    go_ret
    first | exact ⟨rfl, Below.refl _ _⟩ | exact ⟨rfl, HB2.out⟩

set_option maxRecDepth 100000 in
set_option maxHeartbeats 2000000 in
theorem varOf_any (n : Int) (w : World) (hI : ItoaOk w) : Calls Tryd.prog 36 #[.int .i64 n] w fun e w' => e = .returned (.string ⟨(varL (modM n 8) (mil n)).toArray⟩) ∧ Below w.heap.size w w' := by
  have HM := hide (fun W => mod_8 n W)
  have HN := hide (fun W => mod_1000 n W)
  have HI : Hid (∀ W : World, Below w.heap.size w W → Calls Tryd.prog 33 #[.int .i64 (modM n 1000)] W fun e w' => e = .returned (.string ⟨(Go.Lib.decDigits (mil n)).toArray⟩) ∧ Below W.heap.size W w') := fun W hW => by
    have := hI W hW (modM n 1000) (i64_1000 n)
    rw [mil_itoa] at this
    exact this
  have hlen : (⟨(Go.Lib.decDigits (mil n)).toArray⟩ : ByteArray).size ≤ 20 := by rw [arr_size]; exact dec_short (mil_lt n)
  have hcat : ∀ W : World, (Op.stringOp .add ⟨#[89]⟩ ⟨(Go.Lib.decDigits (mil n)).toArray⟩).run Tryd.prog W = .ok (.string ⟨(89 :: Go.Lib.decDigits (mil n)).toArray⟩) W := fun W => by
    rw [small_cat _ _ (by show 1 + _ ≤ _; omega), show (⟨#[89]⟩ : ByteArray) = ⟨([89] : List UInt8).toArray⟩ from rfl, cat_arr]
    rfl
  have HL := hide (fun W => long_V W)
  have hb := modM_lt n (k := 8) (by decide)
  clear hI hlen
  generalize modM n 8 = m at HM hb ⊢
  have h : m = 0 ∨ m = 1 ∨ m = 2 ∨ m = 3 ∨ m = 4 ∨ m = 5 ∨ m = 6 ∨ m = 7 := by omega
  clear hb
  rcases h with rfl | rfl | rfl | rfl | rfl | rfl | rfl | rfl <;>
  · go_enter Tryd.func36, Tryd.ntmps36
    go_wp2_with (first
      | (go_at_call 19; (with_reducible refine (HM.out _).mono ?_); rintro e w1 ⟨rfl, hw⟩; have hw := hw.symm; subst hw)
      | (go_at_call 19; (with_reducible refine (HN.out _).mono ?_); rintro e w1 ⟨rfl, hw⟩; have hw := hw.symm; subst hw)
      | (go_at_call 32; refine (HL.out _).mono ?_; rintro e w1 ⟨rfl, hw⟩; have hw := hw.symm; subst hw)
      | (go_at_call 33; refine (HI.out _ (Below.refl _ _)).mono ?_; rintro e w2 ⟨rfl, hb2⟩; have HB2 := hide hb2; clear hb2))
    go_ret
    first | exact ⟨rfl, Below.refl _ _⟩ | exact ⟨rfl, HB2.out⟩
end Go.Proofs.YtilckhdaijfddaaDoor

namespace Go.Proofs.YtilckhdaijfddaaDoor
set_option linter.unusedSimpArgs false
set_option linter.unusedVariables false
open Go.RowKit

theorem itoa_small (n : Int) (h : I64 n) : (⟨(Go.Lib.itoa n).toArray⟩ : ByteArray).size ≤ 21 := by
  rw [arr_size]
  unfold I64 at h
  exact Go.Lib.itoa_length_le n (by omega) (by omega)
theorem cat_two (a b : UInt8) (l : List UInt8) (hl : (⟨l.toArray⟩ : ByteArray).size ≤ 21) (W : World) : (Op.stringOp .add ⟨#[a, b]⟩ ⟨l.toArray⟩).run Tryd.prog W = .ok (.string ⟨(a :: b :: l).toArray⟩) W := by
  rw [small_cat _ _ (by show 2 + _ ≤ _; omega), show (⟨#[a, b]⟩ : ByteArray) = ⟨([a, b] : List UInt8).toArray⟩ from rfl, cat_arr]
  rfl
set_option maxRecDepth 100000 in
set_option maxHeartbeats 2000000 in
theorem intOf_any (n : Int) (hn : I64 n) (w : World) (hI : ItoaOk w) : Calls Tryd.prog 34 #[.int .i64 n] w fun e w' => e = .returned (.string ⟨(intL n).toArray⟩) ∧ Below w.heap.size w w' := by
  have hn' := hn
  unfold I64 at hn'
  unfold intL
  by_cases h1 : 0 ≤ n ∧ n % 5 = 0
  · rw [if_pos h1]
    have HI := hide (hI w (Below.refl _ _) n hn)
    have hc := cat_two 48 48 _ (itoa_small n hn)
    have e1 : (0 : Int) ≤ n := h1.1
    have e2 : (n.tmod 5 == 0) = true := by rw [Int.tmod_eq_emod_of_nonneg h1.1]; simp [h1.2]
    have e3 : n.tmod 5 = 0 := by rw [Int.tmod_eq_emod_of_nonneg h1.1]; exact h1.2
    clear hI h1 hn hn'
    go_enter Tryd.func34, Tryd.ntmps34
    go_wp2_with (go_at_call 33; refine HI.out.mono ?_; rintro e w2 ⟨rfl, hb2⟩; have HB2 := hide hb2; clear hb2)
    go_ret
    exact ⟨rfl, HB2.out⟩
  · rw [if_neg h1]
    by_cases h2 : n < 0 ∧ (-n) % 5 = 0 ∧ -4611686018427387904 < n
    · rw [if_pos h2]
      have HI0 := hI w (Below.refl _ _) (-n) (by unfold I64; omega)
      have hit : Go.Lib.itoa (-n) = Go.Lib.decDigits n.natAbs := by
        unfold Go.Lib.itoa
        rw [if_neg (by omega), show (-n).toNat = n.natAbs by omega]
      have hc := cat_two 45 48 _ (itoa_small (-n) (by unfold I64; omega))
      rw [hit] at HI0 hc
      have HI := hide HI0
      have e1 : ¬ (0 : Int) ≤ n := by omega
      have e0 : n < 0 := h2.1
      have e3 : n.tmod 5 = 0 := by
        have : n = -(-n) := by omega
        rw [this, Int.neg_tmod, Int.tmod_eq_emod_of_nonneg (by omega), h2.2.1]
        rfl
      have e2 : (n.tmod 5 == 0) = true := by simp [e3]
      have e4 : (-4611686018427387904 : Int) < n := h2.2.2
      clear hI h1 h2 hn HI0 hit
      go_enter Tryd.func34, Tryd.ntmps34
      go_wp2_with (go_at_call 33; refine HI.out.mono ?_; rintro e w2 ⟨rfl, hb2⟩; have HB2 := hide hb2; clear hb2)
      go_ret
      exact ⟨rfl, HB2.out⟩
    · rw [if_neg h2]
      have HI := hide (hI w (Below.refl _ _) n hn)
      by_cases e1 : (0 : Int) ≤ n
      · have hm : ¬ n % 5 = 0 := fun e => h1 ⟨e1, e⟩
        have e3 : ¬ n.tmod 5 = 0 := by rw [Int.tmod_eq_emod_of_nonneg e1]; exact hm
        have e2 : (n.tmod 5 == 0) = false := by simp [e3]
        have e0 : ¬ n < 0 := by omega
        have e5 : decide (n < 0) = false := decide_eq_false e0
        have e6 : (n % 5 == 0) = false := by simp [hm]
        clear hI h1 h2 hn hn'
        go_enter Tryd.func34, Tryd.ntmps34
        go_wp2_with (go_at_call 33; refine HI.out.mono ?_; rintro e w2 ⟨rfl, hb2⟩; have HB2 := hide hb2; clear hb2)
        go_ret
        exact ⟨rfl, HB2.out⟩
      · have e0 : n < 0 := by omega
        have hq : n.tmod 5 = -((-n) % 5) := by
          have : n = -(-n) := by omega
          conv => lhs; rw [this, Int.neg_tmod, Int.tmod_eq_emod_of_nonneg (by omega)]
        by_cases e3 : n.tmod 5 = 0
        · have e2 : (n.tmod 5 == 0) = true := by simp [e3]
          have e4 : ¬ (-4611686018427387904 : Int) < n := fun e => h2 ⟨e0, by omega, e⟩
          clear hI h1 h2 hn hq hn'
          go_enter Tryd.func34, Tryd.ntmps34
          go_wp2_with (go_at_call 33; refine HI.out.mono ?_; rintro e w2 ⟨rfl, hb2⟩; have HB2 := hide hb2; clear hb2)
          go_ret
          exact ⟨rfl, HB2.out⟩
        · have e2 : (n.tmod 5 == 0) = false := by simp [e3]
          clear hI h1 h2 hn hq hn'
          go_enter Tryd.func34, Tryd.ntmps34
          go_wp2_with (go_at_call 33; refine HI.out.mono ?_; rintro e w2 ⟨rfl, hb2⟩; have HB2 := hide hb2; clear hb2)
          go_ret
          exact ⟨rfl, HB2.out⟩

set_option maxRecDepth 100000 in
set_option maxHeartbeats 2000000 in
theorem textOf_any (n : Int) (w : World) (hI : ItoaOk w) : Calls Tryd.prog 35 #[.int .i64 n] w fun e w' => e = .returned (.tuple #[.string ⟨(textL (modM n 8) (mil n)).toArray⟩, .string ⟨(textV (modM n 8) (mil n)).toArray⟩]) ∧ Below w.heap.size w w' := by
  have HM := hide (fun W => mod_8 n W)
  have HN := hide (fun W => mod_1000 n W)
  have HI : Hid (∀ W : World, Below w.heap.size w W → Calls Tryd.prog 33 #[.int .i64 (modM n 1000)] W fun e w' => e = .returned (.string ⟨(Go.Lib.decDigits (mil n)).toArray⟩) ∧ Below W.heap.size W w') := fun W hW => by
    have := hI W hW (modM n 1000) (i64_1000 n)
    rw [mil_itoa] at this
    exact this
  have hlen : (Go.Lib.decDigits (mil n)).length ≤ 20 := dec_short (mil_lt n)
  have hc1 : ∀ W : World, (Op.stringOp .add ⟨#[116]⟩ ⟨(Go.Lib.decDigits (mil n)).toArray⟩).run Tryd.prog W = .ok (.string ⟨(116 :: Go.Lib.decDigits (mil n)).toArray⟩) W := fun W => by
    rw [small_cat _ _ (by rw [arr_size (Go.Lib.decDigits (mil n))]; show 1 + _ ≤ _; omega), show (⟨#[116]⟩ : ByteArray) = ⟨([116] : List UInt8).toArray⟩ from rfl, cat_arr]
    rfl
  have hc2 : ∀ W : World, (Op.stringOp .add ⟨#[34]⟩ ⟨(116 :: Go.Lib.decDigits (mil n)).toArray⟩).run Tryd.prog W = .ok (.string ⟨(34 :: 116 :: Go.Lib.decDigits (mil n)).toArray⟩) W := fun W => by
    rw [small_cat _ _ (by rw [arr_size (116 :: Go.Lib.decDigits (mil n)), List.length_cons]; show 1 + _ ≤ _; omega), show (⟨#[34]⟩ : ByteArray) = ⟨([34] : List UInt8).toArray⟩ from rfl, cat_arr]
    rfl
  have hc3 : ∀ W : World, (Op.stringOp .add ⟨(34 :: 116 :: Go.Lib.decDigits (mil n)).toArray⟩ ⟨#[34]⟩).run Tryd.prog W = .ok (.string ⟨(34 :: (116 :: Go.Lib.decDigits (mil n) ++ [34])).toArray⟩) W := fun W => by
    rw [small_cat _ _ (by rw [arr_size (34 :: 116 :: Go.Lib.decDigits (mil n)), List.length_cons, List.length_cons]; show _ + 1 ≤ _; omega), show (⟨#[34]⟩ : ByteArray) = ⟨([34] : List UInt8).toArray⟩ from rfl, cat_arr]
    rfl
  have hb := modM_lt n (k := 8) (by decide)
  clear hI hlen
  generalize modM n 8 = m at HM hb ⊢
  have h : m = 0 ∨ m = 1 ∨ m = 2 ∨ m = 3 ∨ m = 4 ∨ m = 5 ∨ m = 6 ∨ m = 7 := by omega
  clear hb
  rcases h with rfl | rfl | rfl | rfl | rfl | rfl | rfl | rfl <;>
  · go_enter Tryd.func35, Tryd.ntmps35
    go_wp2_with (first
      | (go_at_call 19; (with_reducible refine (HM.out _).mono ?_); rintro e w1 ⟨rfl, hw⟩; have hw := hw.symm; subst hw)
      | (go_at_call 19; (with_reducible refine (HN.out _).mono ?_); rintro e w1 ⟨rfl, hw⟩; have hw := hw.symm; subst hw)
      | (go_at_call 33; refine (HI.out _ (Below.refl _ _)).mono ?_; rintro e w2 ⟨rfl, hb2⟩; have HB2 := hide hb2; clear hb2))
    go_ret2
    first | exact ⟨rfl, Below.refl _ _⟩ | exact ⟨rfl, HB2.out⟩
end Go.Proofs.YtilckhdaijfddaaDoor

namespace Go.Proofs.YtilckhdaijfddaaDoor
set_option linter.unusedSimpArgs false
set_option linter.unusedVariables false
open Go.RowKit

def tkAt (x : Tok) (o len : Nat) : Tok := ⟨x.k, x.t, x.n, x.op, o, o + len⟩
section
variable (G : Nat → Int)
def gl (i : Nat) : Nat := (gapK (G i)).length
def argsE : Nat → List DT → Nat → Nat
  | i, [], o => o + gl G i + 1
  | i, t :: ts, o => argsE (i + 2) ts (o + gl G i + 1 + gl G (i + 1) + (tmS t).length)
def dtAt (t : DT) (q : Nat) : Trm := termP (tkAt (tmX t) q (tmS t).length)
def argsTr : Nat → List DT → Nat → List Trm
  | _, [], _ => []
  | i, t :: ts, o => dtAt t (o + gl G i + 1 + gl G (i + 1)) :: argsTr (i + 2) ts (o + gl G i + 1 + gl G (i + 1) + (tmS t).length)
def atomE (i : Nat) (x : List UInt8) (a : DA) (o : Nat) : Nat := if a.ts = [] then o + (x.length + gl G i) + (nm a.p).length else argsE G (i + 1) a.ts (o + (x.length + gl G i) + (nm a.p).length)
def atomTr (i : Nat) (x : List UInt8) (a : DA) (o : Nat) : PAtom := ⟨⟨(nm a.p).toArray⟩, argsTr G (i + 1) a.ts (o + (x.length + gl G i) + (nm a.p).length), ((o + (x.length + gl G i) : Nat) : Int)⟩
def litE (i : Nat) (l : DL) (o : Nat) : Nat :=
  if modM l.k 3 = 0 then atomE G i [] l.a o else if modM l.k 3 = 1 then atomE G (i + 1) [32] l.a (o + gl G i + 3)
  else o + gl G i + (tmS l.l).length + gl G (i + 1) + (opL (modM l.op 6)).length + gl G (i + 2) + (tmS l.r).length
def litTr (i : Nat) (l : DL) (o : Nat) : PLit :=
  if modM l.k 3 = 0 then ⟨1, atomTr G i [] l.a o, 0, zeroTrm, zeroTrm, (atomTr G i [] l.a o).off⟩
  else if modM l.k 3 = 1 then ⟨2, atomTr G (i + 1) [32] l.a (o + gl G i + 3), 0, zeroTrm, zeroTrm, ((o + gl G i : Nat) : Int)⟩
  else ⟨3, zeroAtom, modM l.op 6 + 1, dtAt l.l (o + gl G i), dtAt l.r (o + gl G i + (tmS l.l).length + gl G (i + 1) + (opL (modM l.op 6)).length + gl G (i + 2)), ((o + gl G i : Nat) : Int)⟩
def bodyE : Nat → List DL → Nat → Nat
  | _, [], o => o
  | i, [l], o => litE G i l o + gl G (i + litN l) + 1
  | i, l :: m :: ls, o => bodyE (i + litN l + 1) (m :: ls) (litE G i l o + gl G (i + litN l) + 1)
def bodyTr : Nat → List DL → Nat → List PLit
  | _, [], _ => []
  | i, [l], o => [litTr G i l o]
  | i, l :: m :: ls, o => litTr G i l o :: bodyTr (i + litN l + 1) (m :: ls) (litE G i l o + gl G (i + litN l) + 1)
def clsE (i : Nat) (c : DC) (o : Nat) : Nat := if c.b = [] then atomE G i [] c.h o + gl G (i + atomN c.h) + 1 else bodyE G (i + atomN c.h + 1) c.b (atomE G i [] c.h o + gl G (i + atomN c.h) + 2)
def clsTr (i : Nat) (c : DC) (o : Nat) : PCls := ⟨atomTr G i [] c.h o, bodyTr G (i + atomN c.h + 1) c.b (atomE G i [] c.h o + gl G (i + atomN c.h) + 2)⟩
end
def bodyN : List DL → Nat
  | [] => 0
  | [l] => litN l + 1
  | l :: m :: ls => litN l + 1 + bodyN (m :: ls)
def clsN (c : DC) : Nat := atomN c.h + 1 + bodyN c.b
section
variable (G : Nat → Int)
def progK : Nat → List DC → List Pc
  | _, [] => []
  | i, c :: cs => clsK G i c (progK (i + clsN c) cs)
def progTr : Nat → List DC → Nat → List PCls
  | _, [], _ => []
  | i, c :: cs, o => clsTr G i c o :: progTr (i + clsN c) cs (clsE G i c o)
def progE : Nat → List DC → Nat → Nat
  | _, [], o => o
  | i, c :: cs, o => progE (i + clsN c) cs (clsE G i c o)
end
section
variable {G : Nat → Int} {e : List UInt8}
theorem tks_cons (o : Nat) (g s : List UInt8) (x : Tok) (ok : UInt8 → Bool) (K : List Pc) : tks o (⟨g, s, x, ok⟩ :: K) e = tkAt x (o + g.length) s.length :: tks (o + g.length + s.length) K e := rfl
theorem args_made {ks : List Int} (K : List Pc) : ∀ (ts : List DT) (i o : Nat) (u : Tok), (∀ t ∈ ts, (tmX t).k ∈ ks) → u.k ∈ ks → ∃ X, u :: tks o (argsK G i false ts K) e = X ++ tks (argsE G i ts o) K e ∧ ArgsT ks X (termP u :: argsTr G i ts o)
  | [], i, o, u, _, hu => ⟨[u, _], rfl, .one u _ hu rfl⟩
  | t :: ts, i, o, u, hts, hu => by
    obtain ⟨X, h1, h2⟩ := args_made K ts (i + 2) (o + gl G i + 1 + gl G (i + 1) + (tmS t).length) (tkAt (tmX t) (o + gl G i + 1 + gl G (i + 1)) (tmS t).length) (fun u hu => hts u (by simp [hu])) (hts t (by simp))
    refine ⟨u :: tkAt ⟨7, ⟨#[]⟩, 0, 0, 0, 0⟩ (o + gl G i) 1 :: X, ?_, .more u _ X _ hu rfl h2⟩
    show u :: _ :: (tkAt (tmX t) _ _ :: tks _ (argsK G (i + 2) false ts K) e) = u :: _ :: (X ++ _)
    exact congrArg (fun Z => u :: tkAt ⟨7, ⟨#[]⟩, 0, 0, 0, 0⟩ (o + gl G i) 1 :: Z) h1
theorem argsTr_len (G : Nat → Int) : ∀ (ts : List DT) (i o : Nat), (argsTr G i ts o).length = ts.length
  | [], _, _ => rfl
  | t :: ts, i, o => by show (argsTr G _ ts _).length + 1 = _; rw [argsTr_len G ts]; rfl
theorem atom_made' {ks : List Int} (K : List Pc) (i : Nat) (x : List UInt8) (a : DA) (o : Nat) (h8 : a.ts.length ≤ 8) (hks : ∀ t ∈ a.ts, (tmX t).k ∈ ks) : ∃ X, tks o (atomK G i x a K) e = X ++ tks (atomE G i x a o) K e ∧ AtomT ks X (atomTr G i x a o) := by
  obtain ⟨p, ts⟩ := a
  have hl : (x ++ gapK (G i)).length = x.length + gl G i := by rw [List.length_append]; rfl
  cases ts with
  | nil =>
    refine ⟨[tkAt ⟨1, ⟨(nm p).toArray⟩, 0, 0, 0, 0⟩ (o + (x.length + gl G i)) (nm p).length], ?_, .bare _ rfl⟩
    show tks o (⟨x ++ gapK (G i), nm p, _, okWord⟩ :: K) e = _
    rw [tks_cons, hl]
    rfl
  | cons t ts =>
    obtain ⟨X, h1, h2⟩ := args_made (e := e) (G := G) K ts (i + 1 + 2) (o + (x.length + gl G i) + (nm p).length + gl G (i + 1) + 1 + gl G (i + 2) + (tmS t).length) (tkAt (tmX t) (o + (x.length + gl G i) + (nm p).length + gl G (i + 1) + 1 + gl G (i + 2)) (tmS t).length) (fun u hu => hks u (by simp [hu])) (hks t (by simp))
    refine ⟨tkAt ⟨1, ⟨(nm p).toArray⟩, 0, 0, 0, 0⟩ (o + (x.length + gl G i)) (nm p).length :: tkAt ⟨5, ⟨#[]⟩, 0, 0, 0, 0⟩ (o + (x.length + gl G i) + (nm p).length + gl G (i + 1)) 1 :: X, ?_, .args _ _ X _ rfl rfl h2 (by show (argsTr G _ ts _).length + 1 ≤ 8; rw [argsTr_len]; exact h8)⟩
    show tks o (⟨x ++ gapK (G i), nm p, _, okWord⟩ :: argsK G (i + 1) true (t :: ts) K) e = _
    rw [tks_cons, hl]
    show _ :: _ :: (tkAt (tmX t) _ _ :: tks _ (argsK G (i + 1 + 2) false ts K) e) = _ :: _ :: (X ++ _)
    exact congrArg (fun Z => tkAt ⟨1, ⟨(nm p).toArray⟩, 0, 0, 0, 0⟩ (o + (x.length + gl G i)) (nm p).length :: tkAt ⟨5, ⟨#[]⟩, 0, 0, 0, 0⟩ (o + (x.length + gl G i) + (nm p).length + gl G (i + 1)) 1 :: Z) h1
theorem atom_made (K : List Pc) (i : Nat) (x : List UInt8) (a : DA) (o : Nat) (h8 : a.ts.length ≤ 8) : ∃ X, tks o (atomK G i x a K) e = X ++ tks (atomE G i x a o) K e ∧ AtomT termKs X (atomTr G i x a o) := atom_made' K i x a o h8 fun t _ => tm_kind t
theorem lit_made (K : List Pc) (i : Nat) (l : DL) (o : Nat) (h8 : l.a.ts.length ≤ 8) : ∃ X, tks o (litK G i l K) e = X ++ tks (litE G i l o) K e ∧ LitT X (litTr G i l o) := by
  unfold litK litE litTr
  split
  · obtain ⟨X, h1, h2⟩ := atom_made (e := e) (G := G) K i [] l.a o h8
    exact ⟨X, h1, .pos X _ h2⟩
  split
  · obtain ⟨X, h1, h2⟩ := atom_made (e := e) (G := G) K (i + 1) [32] l.a (o + gl G i + 3) h8
    exact ⟨tkAt ⟨10, ⟨#[]⟩, 0, 0, 0, 0⟩ (o + gl G i) 3 :: X, congrArg (fun Z => tkAt ⟨10, ⟨#[]⟩, 0, 0, 0, 0⟩ (o + gl G i) 3 :: Z) h1, .neg _ X _ rfl h2⟩
  · exact ⟨[tkAt (tmX l.l) (o + gl G i) (tmS l.l).length, tkAt ⟨11, ⟨#[]⟩, 0, modM l.op 6 + 1, 0, 0⟩ (o + gl G i + (tmS l.l).length + gl G (i + 1)) (opL (modM l.op 6)).length, tkAt (tmX l.r) (o + gl G i + (tmS l.l).length + gl G (i + 1) + (opL (modM l.op 6)).length + gl G (i + 2)) (tmS l.r).length], rfl, .test (tkAt (tmX l.l) (o + gl G i) (tmS l.l).length) (tkAt ⟨11, ⟨#[]⟩, 0, modM l.op 6 + 1, 0, 0⟩ (o + gl G i + (tmS l.l).length + gl G (i + 1)) (opL (modM l.op 6)).length) (tkAt (tmX l.r) (o + gl G i + (tmS l.l).length + gl G (i + 1) + (opL (modM l.op 6)).length + gl G (i + 2)) (tmS l.r).length) (tm_kind l.l) rfl (tm_kind l.r)⟩
theorem body_made (K : List Pc) : ∀ (ls : List DL) (i o : Nat), ls ≠ [] → (∀ l ∈ ls, l.a.ts.length ≤ 8) → ∃ X, tks o (bodyK G i ls K) e = X ++ tks (bodyE G i ls o) K e ∧ BodyT X (bodyTr G i ls o)
  | [], i, o, h, _ => absurd rfl h
  | [l], i, o, _, h8 => by
    obtain ⟨X, h1, h2⟩ := lit_made (e := e) (G := G) (mk1 G (i + litN l) [46] 8 0 okAny :: K) i l o (h8 l (by simp))
    refine ⟨X ++ [tkAt ⟨8, ⟨#[]⟩, 0, 0, 0, 0⟩ (litE G i l o + gl G (i + litN l)) 1], ?_, .one X _ _ h2 rfl⟩
    show tks o (litK G i l _) e = _
    rw [h1, List.append_assoc]
    rfl
  | l :: m :: ls, i, o, _, h8 => by
    obtain ⟨X, h1, h2⟩ := lit_made (e := e) (G := G) (mk1 G (i + litN l) [44] 7 0 okAny :: bodyK G (i + litN l + 1) (m :: ls) K) i l o (h8 l (by simp))
    obtain ⟨Y, h3, h4⟩ := body_made K (m :: ls) (i + litN l + 1) (litE G i l o + gl G (i + litN l) + 1) (by simp) (fun u hu => h8 u (by simp at hu ⊢; exact .inr hu))
    refine ⟨X ++ tkAt ⟨7, ⟨#[]⟩, 0, 0, 0, 0⟩ (litE G i l o + gl G (i + litN l)) 1 :: Y, ?_, .more X _ _ Y _ h2 rfl h4⟩
    show tks o (litK G i l _) e = _
    rw [h1, List.append_assoc]
    exact congrArg (fun Z => X ++ tkAt ⟨7, ⟨#[]⟩, 0, 0, 0, 0⟩ (litE G i l o + gl G (i + litN l)) 1 :: Z) h3
theorem bodyTr_len (G : Nat → Int) : ∀ (ls : List DL) (i o : Nat), (bodyTr G i ls o).length = ls.length
  | [], _, _ => rfl
  | [l], _, _ => rfl
  | l :: m :: ls, i, o => by show (bodyTr G _ (m :: ls) _).length + 1 = _; rw [bodyTr_len G (m :: ls)]; rfl
theorem cls_made (K : List Pc) (i : Nat) (c : DC) (o : Nat) (h8 : c.h.ts.length ≤ 8) (hb : ∀ l ∈ c.b, l.a.ts.length ≤ 8) (h16 : c.b.length ≤ 16) : ∃ X, tks o (clsK G i c K) e = X ++ tks (clsE G i c o) K e ∧ ClsT X (clsTr G i c o) := by
  obtain ⟨h, b⟩ := c
  cases b with
  | nil =>
    obtain ⟨X, h1, h2⟩ := atom_made (e := e) (G := G) (mk1 G (i + atomN h) [46] 8 0 okAny :: K) i [] h o h8
    refine ⟨X ++ [tkAt ⟨8, ⟨#[]⟩, 0, 0, 0, 0⟩ (atomE G i [] h o + gl G (i + atomN h)) 1], ?_, .fact X _ _ h2 rfl⟩
    show tks o (atomK G i [] h (mk1 G (i + atomN h) [46] 8 0 okAny :: K)) e = _
    rw [h1, List.append_assoc]
    rfl
  | cons l ls =>
    obtain ⟨X, h1, h2⟩ := atom_made (e := e) (G := G) (mk1 G (i + atomN h) [58, 45] 9 0 okAny :: bodyK G (i + atomN h + 1) (l :: ls) K) i [] h o h8
    obtain ⟨Y, h3, h4⟩ := body_made (e := e) (G := G) K (l :: ls) (i + atomN h + 1) (atomE G i [] h o + gl G (i + atomN h) + 2) (by simp) hb
    refine ⟨X ++ tkAt ⟨9, ⟨#[]⟩, 0, 0, 0, 0⟩ (atomE G i [] h o + gl G (i + atomN h)) 2 :: Y, ?_, .rule X _ _ Y _ h2 rfl h4 (by rw [bodyTr_len]; exact h16)⟩
    show tks o (atomK G i [] h (mk1 G (i + atomN h) [58, 45] 9 0 okAny :: bodyK G (i + atomN h + 1) (l :: ls) K)) e = _
    rw [h1, List.append_assoc]
    exact congrArg (fun Z => X ++ tkAt ⟨9, ⟨#[]⟩, 0, 0, 0, 0⟩ (atomE G i [] h o + gl G (i + atomN h)) 2 :: Z) h3
def DOk (c : DC) : Prop := c.h.ts.length ≤ 8 ∧ (∀ l ∈ c.b, l.a.ts.length ≤ 8) ∧ c.b.length ≤ 16 ∧ Good c.h ∧ ∀ l ∈ c.b, GoodL l
theorem prog_made : ∀ (cs : List DC) (i o : Nat), (∀ c ∈ cs, DOk c) → ProgT (tks o (progK G i cs) e) (progTr G i cs o)
  | [], i, o, _ => .nil _ rfl
  | c :: cs, i, o, h => by
    obtain ⟨h1, h2, h3, -, -⟩ := h c (by simp)
    obtain ⟨X, e1, e2⟩ := cls_made (e := e) (G := G) (progK G (i + clsN c) cs) i c o h1 h2 h3
    show ProgT (tks o (clsK G i c _) e) _
    rw [e1]
    exact .more X _ _ _ e2 (prog_made cs _ _ fun u hu => h u (by simp [hu]))
theorem prog_pc : ∀ (cs : List DC) (i : Nat), (∀ c ∈ cs, DOk c) → PcOk e (progK G i cs)
  | [], _, _ => trivial
  | c :: cs, i, h => by
    obtain ⟨-, -, -, h4, h5⟩ := h c (by simp)
    exact cls_pc h4 h5 (prog_pc cs _ fun u hu => h u (by simp [hu]))
theorem progTr_len (G : Nat → Int) : ∀ (cs : List DC) (i o : Nat), (progTr G i cs o).length = cs.length
  | [], _, _ => rfl
  | c :: cs, i, o => by show (progTr G _ cs _).length + 1 = _; rw [progTr_len G cs]; rfl
end
/-- A text that the maker made of clauses is read as just these, every place too. -/
theorem make_prog {T : ByteArray} {G : Nat → Int} {cs : List DC} {k : Int} (hT : T.data.toList = txt (progK G 0 cs) (gapK k)) (hc : ∀ c ∈ cs, DOk c) (hn : cs.length ≤ 512) (hs : T.size ≤ 65536) :
    progP (scanX T).2.1 ((scanX T).2.2 : Int) (scanX T).1 = .ok (progTr G 0 cs 0) [] := by
  have h := made_toks (T := T) (gapK_ok k) (progK G 0 cs) 0 (Nat.zero_le _) (by unfold rest; rw [List.drop_zero]; exact hT) (prog_pc cs 0 hc)
  rw [scan_eq hs h]
  exact prog_fwd (prog_made cs 0 0 hc) (by rw [progTr_len]; exact hn) _ _
/-- A body as a query. -/
theorem make_query {T : ByteArray} {G : Nat → Int} {ls : List DL} {k : Int} (hT : T.data.toList = txt (bodyK G 0 ls []) (gapK k)) (h0 : ls ≠ []) (h8 : ∀ l ∈ ls, l.a.ts.length ≤ 8) (hg : ∀ l ∈ ls, GoodL l) (hn : ls.length ≤ 16) (hs : T.size ≤ 65536) :
    queryP (scanX T).2.1 ((scanX T).2.2 : Int) (scanX T).1 = .ok (bodyTr G 0 ls 0) [] := by
  have h := made_toks (T := T) (gapK_ok k) (bodyK G 0 ls []) 0 (Nat.zero_le _) (by unfold rest; rw [List.drop_zero]; exact hT) (body_pc ls 0 [] hg trivial)
  obtain ⟨X, h1, h2⟩ := body_made (e := gapK k) (G := G) [] ls 0 0 h0 h8
  rw [scan_eq hs h]
  simp only
  rw [h1]
  exact query_fwd h2 (by rw [bodyTr_len]; exact hn) rfl _ _
section
variable (G : Nat → Int)
def factsK : Nat → List DA → List Pc
  | _, [] => []
  | i, a :: bs => atomK G i [] a (mk1 G (i + atomN a) [46] 8 0 okAny :: factsK (i + atomN a + 1) bs)
def factsTr : Nat → List DA → Nat → List PAtom
  | _, [], _ => []
  | i, a :: bs, o => atomTr G i [] a o :: factsTr (i + atomN a + 1) bs (atomE G i [] a o + gl G (i + atomN a) + 1)
end
def GOk (a : DA) : Prop := a.ts.length ≤ 8 ∧ Good a ∧ ∀ t ∈ a.ts, (tmX t).k ∈ valueKs
section
variable {G : Nat → Int} {e : List UInt8}
theorem facts_made : ∀ (bs : List DA) (i o : Nat), (∀ a ∈ bs, GOk a) → FactsT (tks o (factsK G i bs) e) (factsTr G i bs o)
  | [], i, o, _ => .nil _ rfl
  | a :: bs, i, o, h => by
    obtain ⟨h1, -, h3⟩ := h a (by simp)
    obtain ⟨X, e1, e2⟩ := atom_made' (e := e) (G := G) (mk1 G (i + atomN a) [46] 8 0 okAny :: factsK G (i + atomN a + 1) bs) i [] a o h1 h3
    show FactsT (tks o (atomK G i [] a _) e) _
    rw [e1]
    exact .more X _ (tkAt ⟨8, ⟨#[]⟩, 0, 0, 0, 0⟩ (atomE G i [] a o + gl G (i + atomN a)) 1) _ _ e2 rfl (facts_made bs _ _ fun u hu => h u (by simp [hu]))
theorem facts_pc : ∀ (bs : List DA) (i : Nat), (∀ a ∈ bs, GOk a) → PcOk e (factsK G i bs)
  | [], _, _ => trivial
  | a :: bs, i, h => atom_pc (h a (by simp)).2.1 (.inl rfl) ⟨gapK_ok _, tk_dot, hd_any _ _, facts_pc bs _ fun u hu => h u (by simp [hu])⟩ (hd_pc (fun b h _ => h) (G (i + atomN a)) rfl ⟨46, [], rfl, by decide⟩)
theorem factsTr_len (G : Nat → Int) : ∀ (bs : List DA) (i o : Nat), (factsTr G i bs o).length = bs.length
  | [], _, _ => rfl
  | a :: bs, i, o => by show (factsTr G _ bs _).length + 1 = _; rw [factsTr_len G bs]; rfl
end
/-- Heads without variables bs a facts text. -/
theorem make_facts {T : ByteArray} {G : Nat → Int} {bs : List DA} {k : Int} (hT : T.data.toList = txt (factsK G 0 bs) (gapK k)) (ha : ∀ a ∈ bs, GOk a) (hn : bs.length ≤ 4096) (hs : T.size ≤ 65536) :
    factsP (scanX T).2.1 ((scanX T).2.2 : Int) (scanX T).1 = .ok (factsTr G 0 bs 0) [] := by
  have h := made_toks (T := T) (gapK_ok k) (factsK G 0 bs) 0 (Nat.zero_le _) (by unfold rest; rw [List.drop_zero]; exact hT) (facts_pc bs 0 ha)
  rw [scan_eq hs h]
  exact facts_fwd (facts_made bs 0 0 ha) (by rw [factsTr_len]; exact hn) _ _
/-- One of them alone, without its dot. -/
theorem make_fact {T : ByteArray} {G : Nat → Int} {a : DA} {i : Nat} (hT : T.data.toList = txt (atomK G i [] a []) []) (ha : GOk a) (hs : T.size ≤ 65536) :
    factP (scanX T).2.1 ((scanX T).2.2 : Int) (scanX T).1 = .ok (atomTr G i [] a 0) [] := by
  have h := made_toks (T := T) gp_nil (atomK G i [] a []) 0 (Nat.zero_le _) (by unfold rest; rw [List.drop_zero]; exact hT) (atom_pc ha.2.1 (.inl rfl) trivial (fun b hb => by cases hb))
  obtain ⟨X, e1, e2⟩ := atom_made' (e := []) (G := G) [] i [] a 0 ha.1 ha.2.2
  rw [scan_eq hs h]
  simp only
  rw [e1]
  exact fact_fwd e2 rfl _ _
end Go.Proofs.YtilckhdaijfddaaDoor

namespace Go.Proofs.YtilckhdaijfddaaDoor
set_option linter.unusedSimpArgs false
set_option linter.unusedVariables false
open Go.RowKit

structure St where
  b : List UInt8
  k : Nat
section
variable (G : Nat → Int)
def St.put (s : St) (x : List UInt8) : St := ⟨s.b ++ gapK (G s.k) ++ x, s.k + 1⟩
def St.off (s : St) : Nat := s.b.length + gl G s.k
def argS (q : St × List Trm) (t : DT) : St × List Trm := ((q.1.put G (if q.2 = [] then [40] else [44])).put G (tmS t), q.2 ++ [dtAt t ((q.1.put G (if q.2 = [] then [40] else [44])).off G)])
def argsS (s : St) (ts : List DT) : St × List Trm := ts.foldl (argS G) (s, [])
def atomS (s : St) (a : DA) : St × PAtom :=
  (if a.ts = [] then s.put G (nm a.p) else (argsS G (s.put G (nm a.p)) a.ts).1.put G [41], ⟨⟨(nm a.p).toArray⟩, (argsS G (s.put G (nm a.p)) a.ts).2, ((s.off G : Nat) : Int)⟩)
def St.sp (s : St) : St := ⟨s.b ++ [32], s.k⟩
def litS (s : St) (l : DL) : St × PLit :=
  if modM l.k 3 = 0 then ((atomS G s l.a).1, ⟨1, (atomS G s l.a).2, 0, zeroTrm, zeroTrm, (atomS G s l.a).2.off⟩)
  else if modM l.k 3 = 1 then ((atomS G (s.put G [110, 111, 116]).sp l.a).1, ⟨2, (atomS G (s.put G [110, 111, 116]).sp l.a).2, 0, zeroTrm, zeroTrm, ((s.off G : Nat) : Int)⟩)
  else (((s.put G (tmS l.l)).put G (opL (modM l.op 6))).put G (tmS l.r), ⟨3, zeroAtom, modM l.op 6 + 1, dtAt l.l (s.off G), dtAt l.r (((s.put G (tmS l.l)).put G (opL (modM l.op 6))).off G), ((s.off G : Nat) : Int)⟩)
def bodyS1 (q : St × List PLit) (l : DL) : St × List PLit := ((litS G (if q.2 = [] then q.1 else q.1.put G [44]) l).1, q.2 ++ [(litS G (if q.2 = [] then q.1 else q.1.put G [44]) l).2])
def bodyS (s : St) (ls : List DL) : St × List PLit := ls.foldl (bodyS1 G) (s, [])
def clsS1 (q : St × List PCls) (c : DC) : St × List PCls :=
  (((if c.b = [] then (atomS G q.1 c.h).1 else (bodyS G ((atomS G q.1 c.h).1.put G [58, 45]) c.b).1).put G [46]), q.2 ++ [⟨(atomS G q.1 c.h).2, if c.b = [] then [] else (bodyS G ((atomS G q.1 c.h).1.put G [58, 45]) c.b).2⟩])
def progS (s : St) (cs : List DC) : St × List PCls := cs.foldl (clsS1 G) (s, [])
def factS1 (q : St × List PAtom) (a : DA) : St × List PAtom := ((atomS G q.1 a).1.put G [46], q.2 ++ [(atomS G q.1 a).2])
def factsS (s : St) (bs : List DA) : St × List PAtom := bs.foldl (factS1 G) (s, [])
end
section
variable {G : Nat → Int} {e : List UInt8}
theorem put_txt (s : St) (x : List UInt8) (R : List UInt8) : (s.put G x).b ++ R = s.b ++ (gapK (G s.k) ++ (x ++ R)) := by unfold St.put; simp only [List.append_assoc]
theorem put_len (s : St) (x : List UInt8) : (s.put G x).b.length = s.b.length + gl G s.k + x.length := by unfold St.put gl; simp only [List.length_append]
theorem gl_le (i : Nat) : gl G i ≤ 18 := by
  unfold gl gapK
  repeat' split
  all_goals (first | decide | simp)
theorem args_run : ∀ (ts : List DT) (i : Nat) (fst : Bool) (K : List Pc) (s : St) (acc : List Trm), s.k = i → (fst = true ↔ acc = []) →
    s.b ++ txt (argsK G i fst ts K) e = ((ts.foldl (argS G) (s, acc)).1.put G [if fst && ts.isEmpty then 41 else 41]).b ++ txt K e ∧ (ts.foldl (argS G) (s, acc)).1.k = i + 2 * ts.length ∧ (ts.foldl (argS G) (s, acc)).2 = acc ++ argsTr G i ts s.b.length ∧ argsE G i ts s.b.length = ((ts.foldl (argS G) (s, acc)).1.put G [41]).b.length
  | [], i, fst, K, s, acc, hk, hf => by
    subst hk
    refine ⟨?_, rfl, by simp [argsTr], ?_⟩
    · rw [put_txt]; simp [argsK, mk1, txt]
    · show _ + gl G s.k + 1 = _
      rw [put_len]; rfl
  | t :: ts, i, fst, K, s, acc, hk, hf => by
    subst hk
    obtain ⟨h1, h2, h3, h4⟩ := args_run ts (s.k + 2) false K ((s.put G (if acc = [] then [40] else [44])).put G (tmS t)) (acc ++ [dtAt t ((s.put G (if acc = [] then [40] else [44])).off G)]) rfl (by simp)
    have hm : (if fst = true then ([40] : List UInt8) else [44]) = if acc = [] then [40] else [44] := by
      by_cases ha : acc = []
      · rw [if_pos ha, if_pos (hf.2 ha)]
      · rw [if_neg ha, if_neg (fun h => ha (hf.1 h))]
    have hl1 : ∀ (x : List UInt8), x = (if acc = [] then [40] else [44]) → x.length = 1 := fun x hx => by rw [hx]; split <;> rfl
    have hl := hl1 _ rfl
    refine ⟨?_, ?_, ?_, ?_⟩
    · have hx : s.b ++ txt (argsK G s.k fst (t :: ts) K) e = ((s.put G (if acc = [] then [40] else [44])).put G (tmS t)).b ++ txt (argsK G (s.k + 2) false ts K) e := by
        rw [put_txt, put_txt, ← hm]
        rfl
      rw [hx, h1]
      simp only [List.foldl_cons, Bool.false_and, List.isEmpty_cons, Bool.and_false]
      rfl
    · rw [List.foldl_cons]
      show (ts.foldl (argS G) _).1.k = _
      rw [show argS G (s, acc) t = ((s.put G (if acc = [] then [40] else [44])).put G (tmS t), acc ++ [dtAt t ((s.put G (if acc = [] then [40] else [44])).off G)]) from rfl, h2, List.length_cons]
      omega
    · rw [List.foldl_cons, show argS G (s, acc) t = ((s.put G (if acc = [] then [40] else [44])).put G (tmS t), acc ++ [dtAt t ((s.put G (if acc = [] then [40] else [44])).off G)]) from rfl, h3, List.append_assoc]
      rw [put_len, put_len, hl]
      unfold St.off
      rw [put_len, hl]
      rfl
    · rw [List.foldl_cons, show argS G (s, acc) t = ((s.put G (if acc = [] then [40] else [44])).put G (tmS t), acc ++ [dtAt t ((s.put G (if acc = [] then [40] else [44])).off G)]) from rfl, ← h4]
      rw [put_len, put_len, hl]
      rfl
theorem argsS_run (ts : List DT) (K : List Pc) (s : St) : s.b ++ txt (argsK G s.k true ts K) e = ((argsS G s ts).1.put G [41]).b ++ txt K e ∧ (argsS G s ts).1.k = s.k + 2 * ts.length ∧ (argsS G s ts).2 = argsTr G s.k ts s.b.length ∧ argsE G s.k ts s.b.length = ((argsS G s ts).1.put G [41]).b.length := by
  obtain ⟨h1, h2, h3, h4⟩ := args_run (G := G) (e := e) ts s.k true K s [] rfl (by simp)
  refine ⟨?_, h2, h3, h4⟩
  rw [h1]
  simp only [ite_self]
  rfl
theorem atom_run0 (a : DA) (x : List UInt8) (K : List Pc) (s s' : St) (hs : s'.b = s.b ++ x) (hk : s'.k = s.k) : s.b ++ txt (atomK G s.k x a K) e = (atomS G s' a).1.b ++ txt K e ∧ (atomS G s' a).1.k = s.k + atomN a ∧ (atomS G s' a).2 = atomTr G s.k x a s.b.length ∧ atomE G s.k x a s.b.length = (atomS G s' a).1.b.length := by
  have hoff : s'.b.length + gl G s'.k = s.b.length + (x.length + gl G s.k) := by rw [hs, hk, List.length_append]; omega
  have hb1 : s.b ++ txt (atomK G s.k x a K) e = (s'.put G (nm a.p)).b ++ txt (if a.ts = [] then K else argsK G (s.k + 1) true a.ts K) e := by
    rw [put_txt, hs, hk]
    unfold atomK
    show s.b ++ ((x ++ gapK (G s.k)) ++ (nm a.p ++ _)) = _
    simp only [List.append_assoc]
  obtain ⟨h1, h2, h3, h4⟩ := argsS_run (G := G) (e := e) a.ts K (s'.put G (nm a.p))
  have hk1 : (s'.put G (nm a.p)).k = s.k + 1 := by show s'.k + 1 = _; rw [hk]
  rw [hk1] at h1 h2 h3 h4
  have hln : (s'.put G (nm a.p)).b.length = s.b.length + (x.length + gl G s.k) + (nm a.p).length := by rw [put_len, hoff]
  rw [hln] at h3 h4
  rw [hb1]
  unfold atomS atomN atomTr atomE
  by_cases ht : a.ts = []
  · simp only [if_pos ht]
    refine ⟨trivial, hk1, ?_, by rw [hln]⟩
    rw [h3]
    unfold St.off
    rw [hoff]
  · simp only [if_neg ht]
    refine ⟨h1, ?_, ?_, h4⟩
    · show (argsS G (s'.put G (nm a.p)) a.ts).1.k + 1 = _
      rw [h2]; omega
    · rw [h3]
      unfold St.off
      rw [hoff]
theorem atom_run (a : DA) (K : List Pc) (s : St) : s.b ++ txt (atomK G s.k [] a K) e = (atomS G s a).1.b ++ txt K e ∧ (atomS G s a).1.k = s.k + atomN a ∧ (atomS G s a).2 = atomTr G s.k [] a s.b.length ∧ atomE G s.k [] a s.b.length = (atomS G s a).1.b.length := atom_run0 a [] K s s (by simp) rfl
theorem lit_run (l : DL) (K : List Pc) (s : St) : s.b ++ txt (litK G s.k l K) e = (litS G s l).1.b ++ txt K e ∧ (litS G s l).1.k = s.k + litN l ∧ (litS G s l).2 = litTr G s.k l s.b.length ∧ litE G s.k l s.b.length = (litS G s l).1.b.length := by
  unfold litK litS litN litTr litE
  by_cases h0 : modM l.k 3 = 0
  · simp only [if_pos h0]
    obtain ⟨h1, h2, h3, h4⟩ := atom_run (G := G) (e := e) l.a K s
    exact ⟨h1, h2, by rw [h3], h4⟩
  simp only [if_neg h0]
  by_cases h1 : modM l.k 3 = 1
  · simp only [if_pos h1]
    obtain ⟨a1, a2, a3, a4⟩ := atom_run0 (G := G) (e := e) l.a [32] K (s.put G [110, 111, 116]) (s.put G [110, 111, 116]).sp rfl rfl
    have hk : (s.put G [110, 111, 116]).k = s.k + 1 := rfl
    have hl : (s.put G [110, 111, 116]).b.length = s.b.length + gl G s.k + 3 := put_len _ _
    rw [hk] at a1 a2 a3 a4
    rw [hl] at a3 a4
    refine ⟨?_, by rw [a2]; omega, by rw [a3]; rfl, a4⟩
    rw [← a1, put_txt]
    rfl
  · simp only [if_neg h1]
    refine ⟨?_, rfl, ?_, ?_⟩
    · rw [put_txt, put_txt, put_txt]; rfl
    · unfold St.off
      rw [put_len, put_len]
      rfl
    · rw [put_len, put_len, put_len]; rfl
/-- How many tokens a body's literals are, with the commas between. -/
def bodyM : List DL → Nat
  | [] => 0
  | [l] => litN l
  | l :: m :: ls => litN l + 1 + bodyM (m :: ls)
theorem bodyM_N : ∀ (ls : List DL), ls ≠ [] → bodyN ls = bodyM ls + 1
  | [], h => absurd rfl h
  | [l], _ => rfl
  | l :: m :: ls, _ => by show litN l + 1 + bodyN (m :: ls) = litN l + 1 + bodyM (m :: ls) + 1; rw [bodyM_N (m :: ls) (by simp)]; omega
theorem body_run : ∀ (ls : List DL) (i : Nat) (K : List Pc) (s : St) (acc : List PLit), ls ≠ [] → (if acc = [] then s else s.put G [44]).k = i →
    (if acc = [] then s else s.put G [44]).b ++ txt (bodyK G i ls K) e = ((ls.foldl (bodyS1 G) (s, acc)).1.put G [46]).b ++ txt K e ∧ (ls.foldl (bodyS1 G) (s, acc)).1.k + 1 = i + bodyN ls ∧ (ls.foldl (bodyS1 G) (s, acc)).2 = acc ++ bodyTr G i ls (if acc = [] then s else s.put G [44]).b.length ∧ bodyE G i ls (if acc = [] then s else s.put G [44]).b.length = ((ls.foldl (bodyS1 G) (s, acc)).1.put G [46]).b.length
  | [], _, _, _, _, h, _ => absurd rfl h
  | [l], i, K, s, acc, _, hk => by
    obtain ⟨h1, h2, h3, h4⟩ := lit_run (G := G) (e := e) l (mk1 G (i + litN l) [46] 8 0 okAny :: K) (if acc = [] then s else s.put G [44])
    rw [hk] at h1 h2 h3 h4
    rw [List.foldl_cons, List.foldl_nil]
    refine ⟨?_, by show (litS G _ l).1.k + 1 = _; rw [h2]; rfl, ?_, ?_⟩
    · show _ = (St.put G (litS G _ l).1 [46]).b ++ _
      rw [put_txt, h2]
      exact h1
    · show acc ++ [_] = acc ++ [_]
      rw [h3]
    · show _ = (St.put G (litS G _ l).1 [46]).b.length
      rw [put_len, h2, ← h4]; rfl
  | l :: m :: ls, i, K, s, acc, _, hk => by
    obtain ⟨h1, h2, h3, h4⟩ := lit_run (G := G) (e := e) l (mk1 G (i + litN l) [44] 7 0 okAny :: bodyK G (i + litN l + 1) (m :: ls) K) (if acc = [] then s else s.put G [44])
    rw [hk] at h1 h2 h3 h4
    obtain ⟨s1, hs1⟩ : ∃ s1, s1 = (litS G (if acc = [] then s else s.put G [44]) l).1 := ⟨_, rfl⟩
    obtain ⟨x1, hx1⟩ : ∃ x1, x1 = (litS G (if acc = [] then s else s.put G [44]) l).2 := ⟨_, rfl⟩
    have hstep : bodyS1 G (s, acc) l = (s1, acc ++ [x1]) := by rw [hs1, hx1]; rfl
    rw [← hs1] at h1 h2 h4
    rw [← hx1] at h3
    have hne : acc ++ [x1] ≠ [] := by simp
    obtain ⟨b1, b2, b3, b4⟩ := body_run (m :: ls) (i + litN l + 1) K s1 (acc ++ [x1]) (by simp) (by rw [if_neg hne]; show s1.k + 1 = _; rw [h2])
    rw [if_neg hne] at b1 b3 b4
    have hl : (s1.put G [44]).b.length = litE G i l (if acc = [] then s else s.put G [44]).b.length + gl G (i + litN l) + 1 := by rw [put_len, h2, h4]; rfl
    rw [List.foldl_cons, hstep]
    refine ⟨?_, ?_, ?_, ?_⟩
    · rw [← b1, put_txt, h2]
      exact h1
    · rw [b2]
      show _ = i + (litN l + 1 + bodyN (m :: ls))
      omega
    · rw [b3, hl, h3, List.append_assoc]
      rfl
    · rw [← b4, hl]
      rfl
theorem bodyS_run (ls : List DL) (K : List Pc) (s : St) (h : ls ≠ []) : s.b ++ txt (bodyK G s.k ls K) e = ((bodyS G s ls).1.put G [46]).b ++ txt K e ∧ (bodyS G s ls).1.k + 1 = s.k + bodyN ls ∧ (bodyS G s ls).2 = bodyTr G s.k ls s.b.length ∧ bodyE G s.k ls s.b.length = ((bodyS G s ls).1.put G [46]).b.length :=
  body_run (G := G) (e := e) ls s.k K s [] h rfl
theorem cls_run (c : DC) (K : List Pc) (s : St) (acc : List PCls) : s.b ++ txt (clsK G s.k c K) e = (clsS1 G (s, acc) c).1.b ++ txt K e ∧ (clsS1 G (s, acc) c).1.k = s.k + clsN c ∧ (clsS1 G (s, acc) c).2 = acc ++ [clsTr G s.k c s.b.length] ∧ clsE G s.k c s.b.length = (clsS1 G (s, acc) c).1.b.length := by
  obtain ⟨h1, h2, h3, h4⟩ := atom_run (G := G) (e := e) c.h (if c.b = [] then mk1 G (s.k + atomN c.h) [46] 8 0 okAny :: K else mk1 G (s.k + atomN c.h) [58, 45] 9 0 okAny :: bodyK G (s.k + atomN c.h + 1) c.b K) s
  obtain ⟨s1, hs1⟩ : ∃ s1, s1 = (atomS G s c.h).1 := ⟨_, rfl⟩
  rw [← hs1] at h1 h2 h4
  unfold clsS1 clsK clsN clsTr clsE
  simp only
  rw [← hs1, h3]
  by_cases hb : c.b = []
  · simp only [if_pos hb] at h1 ⊢
    refine ⟨?_, ?_, ?_, ?_⟩
    · rw [h1, put_txt, h2]; rfl
    · show s1.k + 1 = _
      rw [h2, hb]; rfl
    · rw [hb]; rfl
    · rw [put_len, h2, h4]; rfl
  · simp only [if_neg hb] at h1 ⊢
    have hk1 : (s1.put G [58, 45]).k = s.k + atomN c.h + 1 := by show s1.k + 1 = _; rw [h2]
    have hl1 : (s1.put G [58, 45]).b.length = atomE G s.k [] c.h s.b.length + gl G (s.k + atomN c.h) + 2 := by rw [put_len, h2, h4]; rfl
    obtain ⟨b1, b2, b3, b4⟩ := bodyS_run (G := G) (e := e) c.b K (s1.put G [58, 45]) hb
    rw [hk1] at b1 b2 b3 b4
    rw [hl1] at b3 b4
    refine ⟨?_, ?_, ?_, b4⟩
    · rw [h1, ← b1, put_txt, h2]; rfl
    · show (bodyS G (s1.put G [58, 45]) c.b).1.k + 1 = _
      rw [b2]; omega
    · rw [b3]
theorem prog_run : ∀ (cs : List DC) (s : St) (acc : List PCls), s.b ++ txt (progK G s.k cs) e = (cs.foldl (clsS1 G) (s, acc)).1.b ++ e ∧ (cs.foldl (clsS1 G) (s, acc)).2 = acc ++ progTr G s.k cs s.b.length
  | [], s, acc => ⟨rfl, by simp [progTr]⟩
  | c :: cs, s, acc => by
    obtain ⟨h1, h2, h3, h4⟩ := cls_run (G := G) (e := e) c (progK G (s.k + clsN c) cs) s acc
    obtain ⟨s1, hs1⟩ : ∃ s1, s1 = (clsS1 G (s, acc) c).1 := ⟨_, rfl⟩
    have hstep : clsS1 G (s, acc) c = (s1, acc ++ [clsTr G s.k c s.b.length]) := by rw [hs1, ← h3]
    rw [← hs1] at h1 h2 h4
    obtain ⟨p1, p2⟩ := prog_run cs s1 (acc ++ [clsTr G s.k c s.b.length])
    rw [h2, ← h4] at p2
    rw [h2] at p1
    rw [List.foldl_cons, hstep]
    refine ⟨?_, ?_⟩
    · rw [← p1]; exact h1
    · rw [p2, List.append_assoc]; rfl
theorem facts_run : ∀ (bs : List DA) (s : St) (acc : List PAtom), s.b ++ txt (factsK G s.k bs) e = (bs.foldl (factS1 G) (s, acc)).1.b ++ e ∧ (bs.foldl (factS1 G) (s, acc)).2 = acc ++ factsTr G s.k bs s.b.length
  | [], s, acc => ⟨rfl, by simp [factsTr]⟩
  | a :: bs, s, acc => by
    obtain ⟨h1, h2, h3, h4⟩ := atom_run (G := G) (e := e) a (mk1 G (s.k + atomN a) [46] 8 0 okAny :: factsK G (s.k + atomN a + 1) bs) s
    obtain ⟨s1, hs1⟩ : ∃ s1, s1 = (atomS G s a).1 := ⟨_, rfl⟩
    have hstep : factS1 G (s, acc) a = (s1.put G [46], acc ++ [atomTr G s.k [] a s.b.length]) := by rw [hs1, ← h3]; rfl
    rw [← hs1] at h1 h2 h4
    have hk1 : (s1.put G [46]).k = s.k + atomN a + 1 := by show s1.k + 1 = _; rw [h2]
    have hl1 : (s1.put G [46]).b.length = atomE G s.k [] a s.b.length + gl G (s.k + atomN a) + 1 := by rw [put_len, h2, h4]; rfl
    obtain ⟨p1, p2⟩ := facts_run bs (s1.put G [46]) (acc ++ [atomTr G s.k [] a s.b.length])
    rw [hk1, hl1] at p2
    rw [hk1] at p1
    rw [List.foldl_cons, hstep]
    refine ⟨?_, ?_⟩
    · rw [← p1, put_txt, h2]; exact h1
    · rw [p2, List.append_assoc]; rfl
end
end Go.Proofs.YtilckhdaijfddaaDoor

namespace Go.Proofs.YtilckhdaijfddaaDoor
set_option linter.unusedSimpArgs false
set_option linter.unusedVariables false
open Go.RowKit

theorem fq_zero (w : World) : (binOp .eql 45 (.agg #[.int .i64 0, .int .i64 0, .int .i64 0]) (.agg #[.int .i64 0, .int .i64 0, .int .i64 0])).run Tryd.prog w = .ok (.bool true) w := by
  have h1 := run_equalIn_struct (P := Tryd.prog) w 9999 45 #[.int .i64 0, .int .i64 0, .int .i64 0] #[.int .i64 0, .int .i64 0, .int .i64 0] (by kernel_rfl) (by kernel_rfl)
  simp only [binOp]
  simp only [Op.equal, Op.maxDepth, Sem.run_bind]
  go_simp
theorem fq_bad (c o : Int) (h : c ≠ 0) (w : World) : (binOp .eql 45 (.agg #[.int .i64 c, .int .i64 0, .int .i64 o]) (.agg #[.int .i64 0, .int .i64 0, .int .i64 0])).run Tryd.prog w = .ok (.bool false) w := by
  have hc : (c == 0) = false := by simpa using h
  have h1 := run_equalIn_struct (P := Tryd.prog) w 9999 45 #[.int .i64 c, .int .i64 0, .int .i64 o] #[.int .i64 0, .int .i64 0, .int .i64 0] (by kernel_rfl) (by kernel_rfl)
  simp only [binOp]
  simp only [Op.equal, Op.maxDepth, Sem.run_bind]
  go_simp
theorem nx_first (w : World) (x y : Obj) : ((w.alloc x).alloc y).heap[w.heap.size]? = some x := by
  rw [(belowA (w.alloc x) y).block _ (by simp)]; exact heap_alloc_new w _
theorem nx_second (w : World) (x y : Obj) : ((w.alloc x).alloc y).heap[w.heap.size + 1]? = some y := by
  have := heap_alloc_new (w.alloc x) y
  simpa using this
theorem bx_kept {W W' : World} {b : Nat} {x : Obj} (h : W.heap[b]? = some x) (hb : Below W.heap.size W W') : W'.heap[b]? = some x := by
  rw [hb.block _ (Array.getElem?_eq_some_iff.1 h).1]; exact h
theorem fq_cells {V : World} {b : Nat} {u0 u1 u2 : Value} (h : V.heap[b]? = some (.cells #[u0, u1, u2] 45 (0, 0))) : V.cell? ⟨b, 0, none⟩ = some u0 ∧ V.cell? ⟨b, 1, none⟩ = some u1 ∧ V.cell? ⟨b, 2, none⟩ = some u2 := by
  refine ⟨?_, ?_, ?_⟩ <;> simp [World.cell?, h]
theorem query_ne {s : ByteArray} {x o : Int} (h : queryP (scanX s).2.1 ((scanX s).2.2 : Int) (scanX s).1 = .bad x o) : x ≠ 0 := by
  unfold queryP bodyP at h
  have hb := body_bd (c := (scanX s).2.1) (f := ((scanX s).2.2 : Int)) ((scanX s).1.length + 1) [] (scanX s).1 (by omega) (scan_ne s)
  cases hB : bodyF (scanX s).2.1 ((scanX s).2.2 : Int) ((scanX s).1.length + 1) [] (scanX s).1 with
  | bad a b => rw [hB] at h; cases h; exact bd_bad hb hB
  | ok b r =>
    rw [hB] at h
    simp only at h
    cases hT : takeP (scanX s).2.1 ((scanX s).2.2 : Int) [0] r with
    | bad a c => rw [hT] at h; cases h; exact take_bd0 (bd_ok hb hB) hT
    | ok t q => rw [hT] at h; cases h
theorem fact_ne {s : ByteArray} {x o : Int} (h : factP (scanX s).2.1 ((scanX s).2.2 : Int) (scanX s).1 = .bad x o) : x ≠ 0 := by
  unfold factP at h
  have hb := take_bd (c := (scanX s).2.1) (f := ((scanX s).2.2 : Int)) (ks := [1]) (scan_ne s) (by decide)
  cases hA : takeP (scanX s).2.1 ((scanX s).2.2 : Int) [1] (scanX s).1 with
  | bad a b => rw [hA] at h; cases h; exact bd_bad hb hA
  | ok t r =>
    rw [hA] at h
    simp only at h
    have hc := atom_bd (c := (scanX s).2.1) (f := ((scanX s).2.2 : Int)) (ks := valueKs) (by decide) (name := t) (bd_ok hb hA)
    cases hB : atomP (scanX s).2.1 ((scanX s).2.2 : Int) valueKs t r with
    | bad a b => rw [hB] at h; cases h; exact bd_bad hc hB
    | ok a r1 =>
      rw [hB] at h
      simp only at h
      cases hT : takeP (scanX s).2.1 ((scanX s).2.2 : Int) [0] r1 with
      | bad a c => rw [hT] at h; cases h; exact take_bd0 (bd_ok hc hB) hT
      | ok t q => rw [hT] at h; cases h
end Go.Proofs.YtilckhdaijfddaaDoor

namespace Go.Proofs.YtilckhdaijfddaaDoor
set_option linter.unusedSimpArgs false
set_option linter.unusedVariables false
open Go.RowKit
attribute [local go_sem] over_cellAt over_frozenAt over_setAt

/-- The maker's gaps, as they lay ahead of it all. -/
structure MkEnv where
  w0 : World
  ga : Option Addr
  gn : Nat
  gc : Nat
  g : Nat → Int
def MkEnv.G (E : MkEnv) (k : Nat) : Int := if E.gn = 0 then 0 else modM (E.g (k % E.gn)) 8
structure MkEnv.ok (E : MkEnv) : Prop where
  it : ItoaOk E.w0
  row : 0 < E.gn → ∃ b off, E.ga = some ⟨b, off, none⟩ ∧ ∀ i, i < E.gn → E.w0.cell? ⟨b, off + i, none⟩ = some (.int .i64 (E.g i))
  small : E.gn ≤ 140737488355328
def kV (gn k : Nat) : Int := if gn = 0 then 0 else (k : Int)
/-- The maker in its block: its text, its gaps, how many tokens were put. -/
structure MkAt (E : MkEnv) (w : World) (p : Nat) (T : List UInt8) (k : Nat) : Prop where
  blk : w.heap[p]? = some (.cells #[.string ⟨T.toArray⟩, .slice E.ga E.gn E.gc, .int .i64 (kV E.gn k)] 28 (0, 0))
  bel : Below E.w0.heap.size E.w0 w
  lo : E.w0.heap.size ≤ p
theorem mk_cells {V : World} {p : Nat} {u0 u1 u2 : Value} (h : V.heap[p]? = some (.cells #[u0, u1, u2] 28 (0, 0))) : (V.cell? ⟨p, 0, none⟩ = some u0 ∧ V.cell? ⟨p, 1, none⟩ = some u1 ∧ V.cell? ⟨p, 2, none⟩ = some u2) ∧ V.frozen? ⟨p, 0, none⟩ = false ∧ V.frozen? ⟨p, 2, none⟩ = false := by
  refine ⟨⟨?_, ?_, ?_⟩, ?_, ?_⟩ <;> simp [World.cell?, World.frozen?, h]
theorem MkAt.only {E : MkEnv} {w w' : World} {p k : Nat} {T T' : List UInt8} {k' : Nat} (h : MkAt E w p T k) (ho : Only (fun j => j = p) w w') (hb : w'.heap[p]? = some (.cells #[.string ⟨T'.toArray⟩, .slice E.ga E.gn E.gc, .int .i64 (kV E.gn k')] 28 (0, 0))) : MkAt E w' p T' k' :=
  ⟨hb, h.bel.trans (ho.below h.bel.size fun j hj e => by have := h.lo; omega), h.lo⟩
theorem MkAt.kept {E : MkEnv} {w w' : World} {p k : Nat} {T : List UInt8} (h : MkAt E w p T k) (hb : Below w.heap.size w w') : MkAt E w' p T k := ⟨bx_kept h.blk hb, h.bel.trans (hb.mono h.bel.size), h.lo⟩
theorem MkAt.text {E : MkEnv} {w : World} {p k : Nat} {T : List UInt8} (h : MkAt E w p T k) (T' : List UInt8) : MkAt E (w.setCell ⟨p, 0, none⟩ (.string ⟨T'.toArray⟩)) p T' k :=
  h.only ((Only.refl (fun j => j = p) w).setCell (p := ⟨p, 0, none⟩) rfl _) (by simp [World.setCell, Array.getElem?_modify, h.blk])
theorem MkAt.itoa {E : MkEnv} (hE : E.ok) {w : World} {p k : Nat} {T : List UInt8} (h : MkAt E w p T k) : ItoaOk w := hE.it.kept h.bel
set_option maxRecDepth 100000 in
set_option maxHeartbeats 1000000 in
theorem gap_none {E : MkEnv} {w : World} {p k : Nat} {T : List UInt8} (h : MkAt E w p T k) (h0 : E.gn = 0) :
    Calls Tryd.prog 23 #[.pointer (some ⟨p, 0, none⟩)] w fun e w' => e = .returned (.string ⟨#[]⟩) ∧ w' = w := by
  obtain ⟨⟨c0, c1, c2⟩, -, -⟩ := mk_cells h.blk
  rw [h0] at c1
  clear h
  go_enter Tryd.func23, Tryd.ntmps23
  go_wp2
  go_ret
  exact ⟨rfl, rfl⟩
set_option maxRecDepth 100000 in
set_option maxHeartbeats 1000000 in
theorem gap_some {E : MkEnv} (hE : E.ok) {w : World} {p k : Nat} {T : List UInt8} (h : MkAt E w p T k) (hpos : 0 < E.gn) (hk : k < 1000000) :
    Calls Tryd.prog 23 #[.pointer (some ⟨p, 0, none⟩)] w fun e w' => e = .returned (.string ⟨(gapK (E.G k)).toArray⟩) ∧ ∃ x, w' = (over w x).setCell ⟨p, 2, none⟩ (.int .i64 ((k : Int) + 1)) := by
  have hidx : k % E.gn < E.gn := Nat.mod_lt _ hpos
  have HR : Hid (gapK (E.G k) = gapK (modM (E.g (k % E.gn)) 8)) := by
    show _ = _
    unfold MkEnv.G
    rw [if_neg (by omega)]
  rw [HR.out]
  obtain ⟨⟨c0, c1, c2⟩, z0, z2⟩ := mk_cells h.blk
  obtain ⟨b3, o3, hga, hr3⟩ := hE.row hpos
  have y0 := kept_cell h.bel (hr3 (k % E.gn) hidx)
  have hm1 : (k : Int).tmod (E.gn : Int) = ((k % E.gn : Nat) : Int) := by rw [Int.tmod_eq_emod_of_nonneg (by omega)]; rfl
  have hm2 : (k : Int) % (E.gn : Int) = ((k % E.gn : Nat) : Int) := rfl
  have hz1 : ((E.gn : Int) == 0) = false := by simp; omega
  have hz2 : ¬ (E.gn : Int) = 0 := by omega
  have hi1 : (0 : Int) ≤ ((k % E.gn : Nat) : Int) := by omega
  have hi2 : ((k % E.gn : Nat) : Int) < (E.gn : Int) := by omega
  have HM := hide (fun W => mod_8 (E.g (k % E.gn)) W)
  have hb := modM_lt (E.g (k % E.gn)) (k := 8) (by decide)
  have h8 : modM (E.g (k % E.gn)) 8 = 0 ∨ modM (E.g (k % E.gn)) 8 = 1 ∨ modM (E.g (k % E.gn)) 8 = 2 ∨ modM (E.g (k % E.gn)) 8 = 3 ∨ modM (E.g (k % E.gn)) 8 = 4 ∨ modM (E.g (k % E.gn)) 8 = 5 ∨ modM (E.g (k % E.gn)) 8 = 6 ∨ modM (E.g (k % E.gn)) 8 = 7 := by omega
  rw [show kV E.gn k = (k : Int) from if_neg (by omega)] at c2
  rw [hga] at c1
  clear hb hr3 h HR hga hE
  generalize modM (E.g (k % E.gn)) 8 = m at HM h8 ⊢
  generalize E.g (k % E.gn) = gg at *
  generalize k % E.gn = q at *
  generalize E.gn = gn at *
  generalize E.gc = gc at *
  go_enter Tryd.func23, Tryd.ntmps23
  go_wp2
  refine wp_region_over (fun W => W = w) (by kernel_rfl) (by kernel_rfl) rfl ?_
  rintro W rfl
  have d1 := over_cell c1
  have d2 := over_cell c2
  have dy := over_cell y0
  repeat (go_big_quiet_step (fail))
  refine wpQuiet_nil ?_
  rintro _ ⟨z, rfl⟩
  have f2 : (over W z).frozen? ⟨p, 2, none⟩ = false := by rw [over_frozenAt _ _ _ (lt_of_cell c2)]; exact z2
  rcases h8 with rfl | rfl | rfl | rfl | rfl | rfl | rfl | rfl <;>
  · go_wp2_with (go_at_call 19; refine (HM.out _).mono ?_; rintro e w1 ⟨rfl, hw⟩; have hw := hw.symm; subst hw)
    go_ret
    exact ⟨rfl, z, rfl⟩
theorem mgap_any {E : MkEnv} (hE : E.ok) {w : World} {p k : Nat} {T : List UInt8} (h : MkAt E w p T k) (hk : k < 1000000) :
    Calls Tryd.prog 23 #[.pointer (some ⟨p, 0, none⟩)] w fun e w' => e = .returned (.string ⟨(gapK (E.G k)).toArray⟩) ∧ MkAt E w' p T (k + 1) ∧ Only (fun j => j = p) w w' := by
  by_cases hg : E.gn = 0
  · refine (gap_none h hg).mono ?_
    rintro e w' ⟨rfl, rfl⟩
    refine ⟨by unfold MkEnv.G; rw [if_pos hg]; rfl, ⟨?_, h.bel, h.lo⟩, Only.refl _ _⟩
    rw [h.blk]
    unfold kV
    rw [if_pos hg, if_pos hg]
  · refine (gap_some hE h (by omega) hk).mono ?_
    rintro e w' ⟨rfl, x, rfl⟩
    have hO : Only (fun j => j = p) w ((over w x).setCell ⟨p, 2, none⟩ (.int .i64 ((k : Int) + 1))) := (Only.of_below (over_below w x) (fun j => j = p)).setCell (p := ⟨p, 2, none⟩) rfl _
    have hb : (over w x).heap[p]? = _ := bx_kept h.blk (over_below w x)
    refine ⟨rfl, h.only hO ?_, hO⟩
    unfold kV
    rw [if_neg hg]
    simp [World.setCell, Array.getElem?_modify, hb]
end Go.Proofs.YtilckhdaijfddaaDoor

namespace Go.Proofs.YtilckhdaijfddaaDoor
set_option linter.unusedSimpArgs false
set_option linter.unusedVariables false
open Go.RowKit

theorem big_cat (a b : ByteArray) (h : a.size + b.size ≤ 1000000000) (w : World) : (Op.stringOp .add a b).run Tryd.prog w = .ok (.string (a ++ b)) w := by
  have h1 : ¬ (((a.size + b.size : Nat) : Int) > IntKind.i64.max) := by show ¬ _ > (9223372036854775807 : Int); omega
  unfold Op.stringOp
  simp only
  rw [if_neg h1]
  rfl
/-- The maker where it has put what s tells. -/
def MkS (E : MkEnv) (w : World) (p : Nat) (s : St) : Prop := MkAt E w p s.b s.k ∧ s.b.length ≤ 128 * s.k
theorem MkS.kept {E : MkEnv} {w w' : World} {p : Nat} {s : St} (h : MkS E w p s) (hb : Below w.heap.size w w') : MkS E w' p s := ⟨h.1.kept hb, h.2⟩
theorem MkS.lt {E : MkEnv} {w : World} {p : Nat} {s : St} (h : MkS E w p s) : p < w.heap.size := (Array.getElem?_eq_some_iff.1 h.1.blk).1
theorem MkS.other {E : MkEnv} {w w' : World} {p : Nat} {s : St} {S : Nat → Prop} (h : MkS E w p s) (ho : Only S w w') (hp : ¬ S p) (hs : ∀ j, j < E.w0.heap.size → ¬ S j) : MkS E w' p s := by
  have := (Array.getElem?_eq_some_iff.1 h.1.blk).1
  exact ⟨⟨by rw [ho.block _ this hp]; exact h.1.blk, h.1.bel.trans (ho.below h.1.bel.size hs), h.1.lo⟩, h.2⟩
set_option maxRecDepth 100000 in
set_option maxHeartbeats 1000000 in
theorem put_any {E : MkEnv} (hE : E.ok) {w : World} {p : Nat} {s : St} (h : MkS E w p s) (hk : s.k < 1000000) (tok : List UInt8) (hs : tok.length ≤ 100) :
    Calls Tryd.prog 9 #[.pointer (some ⟨p, 0, none⟩), .string ⟨tok.toArray⟩] w fun e w' => e = .returned (.int .i64 (s.off E.G : Int)) ∧ MkS E w' p (s.put E.G tok) ∧ Only (fun j => j = p) w w' := by
  have HG := hide (fun (W : World) (hb : Below w.heap.size w W) => mgap_any hE (h.1.kept hb) hk)
  have HK := hide h
  have hgl := gl_le (G := E.G) s.k
  obtain ⟨⟨c0, c1, c2⟩, z0, z2⟩ := mk_cells h.1.blk
  have hgz : (⟨(gapK (E.G s.k)).toArray⟩ : ByteArray).size = gl E.G s.k := arr_size _
  have hsz : (⟨s.b.toArray⟩ : ByteArray).size = s.b.length := arr_size _
  have hsz2 : (⟨(s.b ++ gapK (E.G s.k)).toArray⟩ : ByteArray).size = s.b.length + gl E.G s.k := by rw [arr_size, List.length_append]; rfl
  have hcat : ∀ W : World, (Op.stringOp .add ⟨s.b.toArray⟩ ⟨(gapK (E.G s.k)).toArray⟩).run Tryd.prog W = .ok (.string ⟨(s.b ++ gapK (E.G s.k)).toArray⟩) W := fun W => by
    rw [big_cat _ _ (by rw [hgz, hsz]; have := h.2; omega), cat_arr]
  have hcat2 : ∀ W : World, (Op.stringOp .add ⟨(s.b ++ gapK (E.G s.k)).toArray⟩ ⟨tok.toArray⟩).run Tryd.prog W = .ok (.string ⟨(s.b ++ gapK (E.G s.k) ++ tok).toArray⟩) W := fun W => by
    rw [big_cat _ _ (by rw [hsz2, arr_size tok]; have := h.2; omega), cat_arr]
  have HSz : Hid ((s.put E.G tok).b.length ≤ 128 * (s.put E.G tok).k) := by
    show _ ≤ _
    have := h.2
    rw [put_len]
    show _ ≤ 128 * (s.k + 1)
    omega
  clear h
  go_enter Tryd.func9, Tryd.ntmps9
  go_upto_region 1 with fail
  go_cut [4] (fun t wx => t = .int .i64 0 ∧ Hid (MkAt E wx p (s.b ++ gapK (E.G s.k)) (s.k + 1)) ∧ Hid (Only (fun j => j = p) w wx))
  case first =>
    go_region_with (go_at_call 23; refine (HG.out _ (by first | exact Below.refl _ _ | exact (Below.refl _ _).drew)).mono ?_; rintro e w1 ⟨rfl, hM, hO⟩; obtain ⟨⟨d0, d1, d2⟩, y0, y2⟩ := mk_cells hM.blk; have HM := hide hM; have HO := hide hO; clear hM hO)
    all_goals
      go_wp2
      go_meet
      refine ⟨rfl, HM.out.text _, ?_⟩
      exact ((Only.of_below (by first | exact Below.refl _ _ | exact (Below.refl _ _).drew) (fun j => j = p)).trans HO.out).setCell (p := ⟨p, 0, none⟩) rfl _
  case rest =>
    obtain ⟨rfl, HM, HO⟩ := hcut
    obtain ⟨⟨d0, d1, d2⟩, y0, y2⟩ := mk_cells HM.out.blk
    go_wp2
    go_ret
    have hpb : (s.put E.G tok).b = s.b ++ (gapK (E.G s.k) ++ tok) := List.append_assoc _ _ _
    refine ⟨?_, ⟨by rw [hpb]; exact HM.out.text _, HSz.out⟩, HO.out.trans ((Only.refl (fun j => j = p) wc).setCell (p := ⟨p, 0, none⟩) rfl _)⟩
    show Ending.returned (.int .i64 ((s.b.length : Int) + (gl E.G s.k : Int))) = _
    rfl
end Go.Proofs.YtilckhdaijfddaaDoor
