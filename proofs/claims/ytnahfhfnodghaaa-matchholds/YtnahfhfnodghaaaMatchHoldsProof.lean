/- The row of edictlaw06.MatchHolds: at every input that can be read as data the call returns true, and what it was handed reads as before. -/
import Derived.Test.YtnahfhfnodghaaaMatchHolds
import Derived.Test.YtnahfhfnodghaaaOpenMatch
import Derived.Test.YtnahfhfnodghaaaRows
namespace Go.Proofs.Ytnahfhfnodghaaa.matchHolds
set_option linter.unusedSimpArgs false
set_option linter.unusedVariables false
open Go.ChangeShapes Go.WideShapes Go.ChangeAt Go.RowKit
open Go.ChangeMaps (open_string shut_string)

theorem own : ownKnob Try.prog.godebug = none := by kernel_rfl
theorem laidOut : laidOutB Try.prog = true := by kernel_rfl

set_option maxRecDepth 100000 in
theorem lifted (os : Os) (started : os.Started) (H : Type) (enc : TypeId × Value → H) :
    ReturnsInHanded {} Try.checked os 6 .any (Rows.matchHoldsSpec.pre6 enc Try.prog Try.f6 Rows.matchHoldsRow.domain false) (Rows.matchHoldsSpec.post enc Try.prog Try.f6 false true false false) := by
  refine returnsInHanded_of_change_sized (C := Try.checked) own started (by kernel_rfl) Try.func6
    (ChangeSpec.witness6 (enc := enc) (C := Try.checked) false ⟨#[], #[.slice none 0 0, .agg #[.int .i64 0, .bool false, .int .i64 0, .bool false, .int .i64 0], .slice none 0 0], []⟩ 8 (by kernel_rfl) (by kernel_rfl) (by kernel_rfl) (by kernel_rfl)) ?_
  intro W base args ds gs before hval0 hW hcnd hsz0 _
  have hval : ∀ (j : Nat) t v, Try.f6.params[j]? = some t → args[j]? = some v → Value.okWide Try.prog W .any base t v := hval0
  have hsz : (DataW.weightsEach Try.prog (Try.f6.params.toList ++ Rows.matchHoldsSpec.plain.varTypes Try.prog) (ds ++ gs)).all (· ≤ reachBytes) = true := hsz0
  have hW' := hW
  obtain ⟨p, q, hA0, hV, rfl, hfz, hnd⟩ := hW
  have hA : DataW.TrodAll enc Try.prog W 0 (fun _ => true) true Try.f6.params.toList args.toList ds p := hA0
  rw [Try.params6] at hA hval hsz
  obtain ⟨v0, vs0, d0, ds0, p0, q0, hargs, rfl, rfl, h0, r0⟩ := trodAll_cons hA
  obtain ⟨v1, vs1, d1, ds1, p1, q1, rfl, rfl, rfl, h1, r1⟩ := trodAll_cons r0
  obtain ⟨v2, vs2, d2, ds2, p2, q2, rfl, rfl, rfl, h2, r2⟩ := trodAll_cons r1
  obtain ⟨rfl, rfl, rfl⟩ := trodAll_nil r2
  obtain rfl : args = #[v0, v1, v2] := by cases args; simp_all
  obtain ⟨rfl, rfl⟩ := trodVars_none hV
  have k0 := h0
  have lt0 : ∀ x ∈ p0, x.block < W.heap.size := by obtain ⟨m, hm⟩ := k0; exact DataW.trod_lt m _ _ _ hm
  have k1 := h1
  have lt1 : ∀ x ∈ p1, x.block < W.heap.size := by obtain ⟨m, hm⟩ := k1; exact DataW.trod_lt m _ _ _ hm
  have k2 := h2
  have lt2 : ∀ x ∈ p2, x.block < W.heap.size := by obtain ⟨m, hm⟩ := k2; exact DataW.trod_lt m _ _ _ hm
  obtain ⟨a0, len0, cap0, rfl⟩ := okWide_slice Try.underlying41 (hval 0 41 v0 rfl rfl)
  obtain ⟨z0, w0⟩ := open_cons (j := 0) Try.underlying41 Try.underlying36 (by kernel_rfl) (by kernel_rfl) rfl rfl rfl Try.underlying3 Try.underlying2 Try.underlying9 (by kernel_rfl) (by kernel_rfl) (by kernel_rfl) h0 hsz rfl rfl
  have o0 := open_cap Try.underlying41 h0
  have e0 : len0 * 32 ≤ 140737488351232 := by
    have := (open_rows (e := 36) (size := 3) (j := 0) Try.underlying41 (by kernel_rfl) (by omega) h0 hsz rfl rfl).1
    rw [show Try.prog.bytesOf 36 = 32 from by kernel_rfl] at this
    exact this
  obtain ⟨t1, rfl, w1⟩ := open_test (hval 1 45 v1 rfl rfl) h1
  obtain ⟨a2, len2, cap2, z2, rfl, w2, o2, e2⟩ := open_nums (j := 2) (hval 2 25 v2 rfl rfl) h2 hsz rfl rfl
  clear hA0 hval0 hsz0
  refine (matchHolds_walk a0 len0 cap0 z0 t1 a2 len2 cap2 z2 W w0 o0 e0 w1 w2 o2 e2).mono fun e W' ⟨he, bel⟩ => ?_
  subst he
  exact ⟨_, rfl, _, _, _, [], _, [], hW', trodAll_mk1 (shut_bool Try.underlying4 _), (trodAll_cons_mk (Below.trod laidOut (by kernel_rfl) (of_decide_eq_true (by kernel_rfl)) k0 bel lt0) (trodAll_cons_mk (Below.trod laidOut (by kernel_rfl) (of_decide_eq_true (by kernel_rfl)) k1 bel lt1) (trodAll_cons_mk (Below.trod laidOut (by kernel_rfl) (of_decide_eq_true (by kernel_rfl)) k2 bel lt2) trodAll_mk0))), rfl, bel.frame _, fun h => by cases h⟩

theorem over_row : Rows.matchHoldsRow.holds Try.pinned (OpenSpec.ofChange Rows.matchHoldsSpec) :=
  OpenClaim.holds_of_wide 6 Try.f6 rfl rfl rfl rfl rfl rfl rfl ⟨rfl, rfl, rfl, rfl, rfl⟩ rfl rfl rfl rfl rfl (by kernel_rfl) Try.func6 (by kernel_rfl)
    (of_decide_eq_true (by kernel_rfl)) (by unfold Func.isWrapper; first | (rw [if_pos (by decide +kernel)]; kernel_rfl) | (rw [if_neg (by decide +kernel)]; exact ⟨rfl, rfl⟩))
    (fun os started H enc _ => lifted os started H enc)

end Go.Proofs.Ytnahfhfnodghaaa.matchHolds
namespace Go.Proofs.Ytnahfhfnodghaaa
theorem matchHolds_holds : Rows.MatchHoldsSaid := matchHolds.over_row
#print axioms matchHolds_holds
end Go.Proofs.Ytnahfhfnodghaaa
