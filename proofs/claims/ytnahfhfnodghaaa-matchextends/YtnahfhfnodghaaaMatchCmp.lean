/- What match.Compare and the document's Compare (edictref06) answer: the comparison by the one order, or the error. -/
import Derived.Test.YtnahfhfnodghaaaRefCmp
import Derived.Test.YtnahfhfnodghaaaRefValid
import Derived.Test.YtnahfhfnodghaaaBox
import Derived.Deep.DeepCutAuto
namespace Go.Proofs.Ytnahfhfnodghaaa
set_option linter.unusedSimpArgs false
set_option linter.unusedVariables false
open Go.RowKit

def opOk (op : Int) : Bool := decide (1 ≤ op) && decide (op ≤ 6)
/-- Does the order (a sign) stand in the comparison op? -/
def standP (op c : Int) : Bool :=
  if op = 1 then c == 0 else if op = 2 then c != 0 else if op = 3 then decide (c < 0) else if op = 4 then decide (c ≤ 0) else if op = 5 then decide (0 < c) else decide (0 ≤ c)
/-- What Compare answers: the comparison and the error. -/
def cmpP (op : Int) (a b : Con) : Bool × Int :=
  if opOk op then (if validC a && validC b then (standP op (cmpC a b), 0) else (false, 5)) else (false, 2)

theorem isOp_any (op : Int) (w : World) (h : I64 op) : Calls Try.prog 27 #[.int .i64 op] w fun e w' => e = .returned (.bool (opOk op)) ∧ w' = w := by
  unfold opOk
  by_cases h1 : 1 ≤ op
  · by_cases h2 : op ≤ 6
    · go_enter Try.func27, Try.ntmps27
      go_wp2
      go_ret
      simp [h1, h2]
    · go_enter Try.func27, Try.ntmps27
      go_wp2
      go_ret
      simp [h1, h2]
  · go_enter Try.func27, Try.ntmps27
    go_wp2
    go_ret
    simp [h1]
    omega

theorem stand_any (op c : Int) (w : World) (h1 : 1 ≤ op) (h6 : op ≤ 6) : Calls Try.prog 29 #[.int .i64 op, .int .i64 c] w fun e w' => e = .returned (.bool (standP op c)) ∧ w' = w := by
  unfold standP
  have hc : op = 1 ∨ op = 2 ∨ op = 3 ∨ op = 4 ∨ op = 5 ∨ op = 6 := by omega
  clear h1 h6
  rcases hc with rfl | rfl | rfl | rfl | rfl | rfl
  all_goals
    go_enter Try.func29, Try.ntmps29
    go_wp2
    go_ret
    first | exact ⟨rfl, rfl⟩ | simp

/-- The two constants that were handed in lie in boxes of their own. -/
def Two (w : World) (a b : Con) (W : World) : Prop := conAt W w.heap.size 0 a ∧ conAt W (w.heap.size + 1) 0 b ∧ Below w.heap.size w W

theorem Two.step {w W W' : World} {a b : Con} (h : Two w a b W) (hb : Below W.heap.size W W') : Two w a b W' :=
  ⟨conAt_kept h.1 hb, conAt_kept h.2.1 hb, h.2.2.trans (hb.mono h.2.2.size)⟩

theorem Two.start (w : World) (a b : Con) (t : TypeId) : Two w a b ((w.alloc (boxOf a t)).alloc (boxOf b t)) := by
  refine ⟨conAt_alloc (conAt_new _ _ _) _, ?_, ((Below.refl _ _).alloc (Nat.le_refl _) _).alloc (by simp) _⟩
  have := conAt_new (w.alloc (boxOf a t)) b t
  rw [size_alloc] at this
  exact this

theorem opOk_bounds {op : Int} (h : opOk op = true) : 1 ≤ op ∧ op ≤ 6 := by
  unfold opOk at h
  simpa using h

set_option maxRecDepth 100000 in
set_option maxHeartbeats 1000000 in
theorem compare6_any (op : Int) (a b : Con) (w : World) (hop : I64 op) (ha : a.ok) (hb : b.ok) :
    Calls Try.prog 16 #[.int .i64 op, a.val, b.val] w fun e w' => e = .returned (.tuple #[.bool (cmpP op a b).1, .int .i64 (cmpP op a b).2]) ∧ Below w.heap.size w w' := by
  have F0 := Two.start w a b 36
  have HO := hide (isOp_any op)
  unfold Con.val
  cases ho : opOk op with
  | false =>
    have e : cmpP op a b = (false, 2) := by simp [cmpP, ho]
    rw [e]
    rw [ho] at HO
    go_enter Try.func16, Try.ntmps16
    go_wp2_with (go_at_call 27; refine (HO.out _ hop).mono ?_; rintro e w' ⟨rfl, hw'⟩; have hw' := hw'.symm; subst hw')
    go_ret2
    exact ⟨rfl, F0.2.2⟩
  | true =>
    rw [ho] at HO
    cases hva : validC a with
    | false =>
      have e : cmpP op a b = (false, 5) := by simp [cmpP, ho, hva]
      rw [e]
      go_enter Try.func16, Try.ntmps16
      go_wp2_with (go_at_call 27; refine (HO.out _ hop).mono ?_; rintro e w' ⟨rfl, hw'⟩; have hw' := hw'.symm; subst hw')
      refine (valid_any a _ ha).mono ?_
      rintro e w1 ⟨rfl, h1⟩
      rw [hva]
      have F1 := F0.step h1
      clear h1 F0 HO
      go_wp2
      go_ret2
      exact ⟨rfl, F1.2.2⟩
    | true =>
      cases hvb : validC b with
      | false =>
        have e : cmpP op a b = (false, 5) := by simp [cmpP, ho, hvb]
        rw [e]
        go_enter Try.func16, Try.ntmps16
        go_wp2_with (go_at_call 27; refine (HO.out _ hop).mono ?_; rintro e w' ⟨rfl, hw'⟩; have hw' := hw'.symm; subst hw')
        refine (valid_any a _ ha).mono ?_
        rintro e w1 ⟨rfl, h1⟩
        rw [hva]
        have F1 := F0.step h1
        clear h1 F0 HO
        have F1' := F1
        obtain ⟨⟨a0, a1, a2⟩, ⟨b0, b1, b2⟩, -⟩ := F1'
        go_wp2_with fail
        refine (valid_any b _ hb).mono ?_
        rintro e w2 ⟨rfl, h1⟩
        rw [hvb]
        have F2 := F1.step h1
        clear h1 F1 a0 a1 a2 b0 b1 b2
        go_wp2
        go_ret2
        exact ⟨rfl, F2.2.2⟩
      | true =>
        have e : cmpP op a b = (standP op (cmpC a b), 0) := by simp [cmpP, ho, hva, hvb]
        rw [e]
        go_enter Try.func16, Try.ntmps16
        go_wp2_with (go_at_call 27; refine (HO.out _ hop).mono ?_; rintro e w' ⟨rfl, hw'⟩; have hw' := hw'.symm; subst hw')
        refine (valid_any a _ ha).mono ?_
        rintro e w1 ⟨rfl, h1⟩
        rw [hva]
        have F1 := F0.step h1
        clear h1 F0 HO
        have F1' := F1
        obtain ⟨⟨a0, a1, a2⟩, ⟨b0, b1, b2⟩, -⟩ := F1'
        go_wp2_with fail
        refine (valid_any b _ hb).mono ?_
        rintro e w2 ⟨rfl, h1⟩
        rw [hvb]
        have F2 := F1.step h1
        clear h1 F1 a0 a1 a2 b0 b1 b2
        have F2' := F2
        obtain ⟨⟨a0, a1, a2⟩, ⟨b0, b1, b2⟩, -⟩ := F2'
        go_wp2_with fail
        refine (compare_any a b _).mono ?_
        rintro e w3 ⟨rfl, h1⟩
        have F3 := F2.step h1
        clear h1 F2 a0 a1 a2 b0 b1 b2
        obtain ⟨h1, h6⟩ := opOk_bounds ho
        have HS := hide (stand_any op (cmpC a b) w3 h1 h6)
        clear h1 h6
        go_wp2_with (go_at_call 29; refine HS.out.mono ?_; rintro e w' ⟨rfl, hw'⟩; have hw' := hw'.symm; subst hw')
        go_ret2
        exact ⟨rfl, F3.2.2⟩

set_option maxRecDepth 100000 in
set_option maxHeartbeats 1000000 in
theorem rcompare6_any (op : Int) (a b : Con) (w : World) (hop : I64 op) (ha : a.ok) (hb : b.ok) :
    Calls Try.prog 17 #[.int .i64 op, a.val, b.val] w fun e w' => e = .returned (.tuple #[.bool (cmpP op a b).1, .int .i64 (cmpP op a b).2]) ∧ Below w.heap.size w w' := by
  have F0 := Two.start w a b 36
  unfold Con.val
  by_cases h1 : op < 1
  · have e : cmpP op a b = (false, 2) := by simp [cmpP, opOk]; omega
    rw [e]
    go_enter Try.func17, Try.ntmps17
    go_wp2
    go_ret2
    exact ⟨rfl, F0.2.2⟩
  · by_cases h6 : 6 < op
    · have e : cmpP op a b = (false, 2) := by simp [cmpP, opOk]; omega
      rw [e]
      go_enter Try.func17, Try.ntmps17
      go_wp2
      go_ret2
      exact ⟨rfl, F0.2.2⟩
    · have ho : opOk op = true := by simp [opOk]; omega
      cases hva : validC a with
      | false =>
        have e : cmpP op a b = (false, 5) := by simp [cmpP, ho, hva]
        rw [e]
        go_enter Try.func17, Try.ntmps17
        go_wp2_with fail
        refine (rvalid a _ ha).mono ?_
        rintro e w1 ⟨rfl, h1⟩
        rw [hva]
        have F1 := F0.step h1
        clear h1 F0
        go_wp2
        go_ret2
        exact ⟨rfl, F1.2.2⟩
      | true =>
        cases hvb : validC b with
        | false =>
          have e : cmpP op a b = (false, 5) := by simp [cmpP, ho, hvb]
          rw [e]
          go_enter Try.func17, Try.ntmps17
          go_wp2_with fail
          refine (rvalid a _ ha).mono ?_
          rintro e w1 ⟨rfl, h1⟩
          rw [hva]
          have F1 := F0.step h1
          clear h1 F0
          have F1' := F1
          obtain ⟨⟨a0, a1, a2⟩, ⟨b0, b1, b2⟩, -⟩ := F1'
          go_wp2_with fail
          refine (rvalid b _ hb).mono ?_
          rintro e w2 ⟨rfl, h1⟩
          rw [hvb]
          have F2 := F1.step h1
          clear h1 F1 a0 a1 a2 b0 b1 b2
          go_wp2
          go_ret2
          exact ⟨rfl, F2.2.2⟩
        | true =>
          have e : cmpP op a b = (standP op (cmpC a b), 0) := by simp [cmpP, ho, hva, hvb]
          rw [e]
          have hc : op = 1 ∨ op = 2 ∨ op = 3 ∨ op = 4 ∨ op = 5 ∨ op = 6 := by omega
          go_enter Try.func17, Try.ntmps17
          go_wp2_with fail
          refine (rvalid a _ ha).mono ?_
          rintro e w1 ⟨rfl, h1⟩
          rw [hva]
          have F1 := F0.step h1
          clear h1 F0
          have F1' := F1
          obtain ⟨⟨a0, a1, a2⟩, ⟨b0, b1, b2⟩, -⟩ := F1'
          go_wp2_with fail
          refine (rvalid b _ hb).mono ?_
          rintro e w2 ⟨rfl, h1⟩
          rw [hvb]
          have F2 := F1.step h1
          clear h1 F1 a0 a1 a2 b0 b1 b2
          have F2' := F2
          obtain ⟨⟨a0, a1, a2⟩, ⟨b0, b1, b2⟩, -⟩ := F2'
          go_wp2_with fail
          refine (refCompare_any a b _ (by have := ha.2.2; unfold maxLen; omega) (by have := hb.2.2; unfold maxLen; omega)).mono ?_
          rintro e w3 ⟨rfl, h1⟩
          have F3 := F2.step h1
          clear h1 F2 a0 a1 a2 b0 b1 b2 hop
          clear h6
          rcases hc with rfl | rfl | rfl | rfl | rfl | rfl
          all_goals
            go_wp2
            go_ret2
            first | exact ⟨rfl, F3.2.2⟩ | exact ⟨rfl, F3.2.2⟩ | (refine ⟨?_, F3.2.2⟩; simp [standP])
end Go.Proofs.Ytnahfhfnodghaaa
