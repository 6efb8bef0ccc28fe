/- What spells of edicttop answers at a number. -/
import Derived.Test.YtplldgkdjainlaaDoorProg
import Derived.Test.YtplldgkdjainlaaDoorTopSpW
import Derived.Test.YtplldgkdjainlaaDoorTopWhole
namespace Go.Proofs.YtplldgkdjainlaaDoor
set_option linter.unusedSimpArgs false
set_option linter.unusedVariables false
open Go.RowKit

theorem whole_is {q : ByteArray} {v : Int} (hp : Lib.parseIntB 64 q.data.toList = .ok v) {e : Ending} (h : WholeAns q e) : e = .returned (.tuple #[.int .i64 v, .bool true]) := by
  obtain ⟨v', he, hv⟩ := h
  have e1 : wholeOk q = true := by unfold wholeOk; rw [hp]
  have e2 : wholeV q = v := by unfold wholeV; rw [hp]
  rw [he, e1, hv e1, e2]

set_option maxRecDepth 100000 in
set_option maxHeartbeats 4000000 in
theorem sp_int_pos (q : ByteArray) (v o en : Int) (w : World) (hs : q.size ≤ 140737488351232) (h1 : 0 < q.size) (h45 : q[0].toNat ≠ 45) (hd : ∀ (i : Nat) (h : i < q.size), 0 ≤ i → bDig (q[i].toNat : Int) = true) (hD : AllD q.data.toList) (hp : Lib.parseIntB 64 q.data.toList = .ok v) :
    Calls Tryd.prog 14 #[.string q, .agg #[.int .i64 3, .string ⟨#[]⟩, .int .i64 v, .int .i64 0, .int .i64 o, .int .i64 en]] w fun e w' => e = .returned (.bool true) ∧ Below w.heap.size w w' := by
  have h0 : 0 < q.size := by omega
  have hne := str_neT h0
  have h0' : (0 : Int) < (q.size : Int) := by omega
  have HW := hide hd
  have HWh : Hid (∀ W, Calls Tryd.prog 29 #[.string q] W fun e w' => e = .returned (.tuple #[.int .i64 v, .bool true]) ∧ w' = W) := fun W => (whole_pos q W hs h1 hD).mono fun e w' ⟨a, b⟩ => ⟨whole_is hp a, b⟩
  have e45 : ((q[0].toNat : Int) == 45) = false := by
    have hx : (q[0].toNat : Int) ≠ 45 := fun h => h45 (Int.ofNat.inj h)
    simpa using hx
  have hse : ((q.size : Int) == 0) = false := beq_eq_false_iff_ne.2 (by omega)
  have hvv : (v == v) = true := by simp
  have HBl := hide (belowA w (.cells #[.int .i64 3, .string ⟨#[]⟩, .int .i64 v, .int .i64 0, .int .i64 o, .int .i64 en] 32))
  clear hd hD hp
  go_enter Tryd.func14, Tryd.ntmps14
  go_wp2
  go_loopw [8] (fun i wl => ∃ j : Nat, 0 ≤ j ∧ j ≤ q.size ∧ i = .int .i64 j ∧ wl = w.alloc (.cells #[.int .i64 3, .string ⟨#[]⟩, .int .i64 v, .int .i64 0, .int .i64 o, .int .i64 en] 32)) (fun i _ => q.size - (intOf i).toNat)
  case atStart => exact ⟨0, by omega, by omega, rfl, rfl⟩
  case round =>
    obtain ⟨j, hj1, hj, rfl, rfl⟩ := hrel
    by_cases hlt : j < q.size
    · have hi : (j : Int) < (q.size : Int) := by omega
      have hi0 : (0 : Int) ≤ (j : Int) := by omega
      have HWj := hide (fun W => tdig_any (q[j].toNat : Int) W (by have := q[j].toNat_lt; omega))
      rw [HW.out j hlt hj1] at HWj
      go_wp2_with (go_at_call 16; refine (HWj.out _).mono ?_; rintro e w' ⟨rfl, hw'⟩; have hw' := hw'.symm; subst hw')
      go_roundw
      case rel => exact ⟨j + 1, by omega, by omega, by go_num, trivial⟩
      case measure => simp [intOf]; omega
    · have hi : ¬ (j : Int) < (q.size : Int) := by omega
      go_wp2_with (go_at_call 29; refine (HWh.out _).mono ?_; rintro e w' ⟨rfl, hw'⟩; have hw' := hw'.symm; subst hw')
      go_ret
      exact ⟨rfl, HBl.out⟩

set_option maxRecDepth 100000 in
set_option maxHeartbeats 4000000 in
theorem sp_int_neg (q : ByteArray) (v o en : Int) (w : World) (hs : q.size ≤ 140737488351232) (h1 : 1 < q.size) (h45 : q[0].toNat = 45) (hd : ∀ (i : Nat) (h : i < q.size), 1 ≤ i → bDig (q[i].toNat : Int) = true) (hD : AllD (q.extract 1 q.size).data.toList) (hp : Lib.parseIntB 64 q.data.toList = .ok v) :
    Calls Tryd.prog 14 #[.string q, .agg #[.int .i64 3, .string ⟨#[]⟩, .int .i64 v, .int .i64 0, .int .i64 o, .int .i64 en]] w fun e w' => e = .returned (.bool true) ∧ Below w.heap.size w w' := by
  have h0 : 0 < q.size := by omega
  have hne := str_neT h0
  have h0' : (0 : Int) < (q.size : Int) := by omega
  have HW := hide hd
  have HWh : Hid (∀ W, Calls Tryd.prog 29 #[.string q] W fun e w' => e = .returned (.tuple #[.int .i64 v, .bool true]) ∧ w' = W) := fun W => (whole_neg q W hs h1 h45 hD).mono fun e w' ⟨a, b⟩ => ⟨whole_is hp a, b⟩
  have e45 : ((q[0].toNat : Int) == 45) = true := by simp; omega
  have hse : ((q.size : Int) == 1) = false := beq_eq_false_iff_ne.2 (by omega)
  have hvv : (v == v) = true := by simp
  have HBl := hide (belowA w (.cells #[.int .i64 3, .string ⟨#[]⟩, .int .i64 v, .int .i64 0, .int .i64 o, .int .i64 en] 32))
  clear hd hD hp
  go_enter Tryd.func14, Tryd.ntmps14
  go_wp2
  go_loopw [8] (fun i wl => ∃ j : Nat, 1 ≤ j ∧ j ≤ q.size ∧ i = .int .i64 j ∧ wl = w.alloc (.cells #[.int .i64 3, .string ⟨#[]⟩, .int .i64 v, .int .i64 0, .int .i64 o, .int .i64 en] 32)) (fun i _ => q.size - (intOf i).toNat)
  case atStart => exact ⟨1, by omega, by omega, rfl, rfl⟩
  case round =>
    obtain ⟨j, hj1, hj, rfl, rfl⟩ := hrel
    by_cases hlt : j < q.size
    · have hi : (j : Int) < (q.size : Int) := by omega
      have hi0 : (0 : Int) ≤ (j : Int) := by omega
      have HWj := hide (fun W => tdig_any (q[j].toNat : Int) W (by have := q[j].toNat_lt; omega))
      rw [HW.out j hlt hj1] at HWj
      go_wp2_with (go_at_call 16; refine (HWj.out _).mono ?_; rintro e w' ⟨rfl, hw'⟩; have hw' := hw'.symm; subst hw')
      go_roundw
      case rel => exact ⟨j + 1, by omega, by omega, by go_num, trivial⟩
      case measure => simp [intOf]; omega
    · have hi : ¬ (j : Int) < (q.size : Int) := by omega
      go_wp2_with (go_at_call 29; refine (HWh.out _).mono ?_; rintro e w' ⟨rfl, hw'⟩; have hw' := hw'.symm; subst hw')
      go_ret
      exact ⟨rfl, HBl.out⟩

end Go.Proofs.YtplldgkdjainlaaDoor
