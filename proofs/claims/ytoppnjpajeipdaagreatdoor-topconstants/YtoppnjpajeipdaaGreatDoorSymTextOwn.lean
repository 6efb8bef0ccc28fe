/- sym.Text: a constant's text. -/
import Derived.Test.YtoppnjpajeipdaaGreatDoorProg
import Derived.Test.YtoppnjpajeipdaaGreatDoorSymQuoted
import Derived.Test.YtoppnjpajeipdaaGreatDoorSymRead
import Derived.Lib.ItoaNum
import Derived.Lib.ItoaLen
namespace Go.Proofs.YtoppnjpajeipdaaGreatDoor
set_option linter.unusedSimpArgs false
set_option linter.unusedVariables false
open Go.RowKit

def textC (c : Con) : ByteArray := if validC c then (if c.k = 1 then ⟨(Lib.itoa c.n).toArray⟩ else if c.k = 2 then c.s else strOf (quotI c.s)) else ⟨#[]⟩

theorem valid_kind {c : Con} (h : validC c = true) : c.k = 1 ∨ c.k = 2 ∨ (c.k = 3 ∧ c.s.size ≤ 255) := by
  unfold validC at h
  by_cases h1 : c.k = 1
  · exact .inl h1
  · rw [if_neg h1] at h
    by_cases h2 : c.k = 2
    · exact .inr (.inl h2)
    · rw [if_neg h2] at h
      by_cases h3 : c.k = 3
      · rw [if_pos h3] at h
        simp only [Bool.and_eq_true, decide_eq_true_eq] at h
        exact .inr (.inr ⟨h3, h.2⟩)
      · rw [if_neg h3] at h; cases h

set_option maxHeartbeats 1000000 in
theorem symText_any (c : Con) (w : World) (hc : c.ok) (ht : TabLaid w) :
    Calls Tryz.prog 5 #[c.val] w fun e w' => e = .returned (.string (textC c)) ∧ Below w.heap.size w w' := by
  obtain ⟨k, n, s⟩ := c
  have HV := hide (fun w => valid_any ⟨k, n, s⟩ w hc)
  have HF : Hid (∀ w1, Below w.heap.size w w1 → Calls Tryz.prog 20 #[.int .i64 n, .int .i64 10] w1 fun e w' => e = .returned (.string ⟨(Lib.itoa n).toArray⟩) ∧ Below w1.heap.size w1 w') := fun w1 hb => format_any n w1 hc.2.1 (ht.kept hb)
  have HX := hide (fun w' (hb : Below (w.alloc (.cells #[.int .i64 k, .int .i64 n, .string s] 26)).heap.size (w.alloc (.cells #[.int .i64 k, .int .i64 n, .string s] 26)) w') => conAt_kept (conAt_new w ⟨k, n, s⟩ 26) hb)
  clear hc ht
  unfold Con.val at *
  cases hv : validC ⟨k, n, s⟩
  · have HE : Hid (textC ⟨k, n, s⟩ = ⟨#[]⟩) := by show textC _ = _; unfold textC; rw [hv]; rfl
    rw [HE.out]
    dsimp only at HV
    rw [hv] at HV
    clear HE hv
    go_enter Tryz.func5, Tryz.ntmps5
    go_wp2_with (go_at_call 8; refine (HV.out _).mono ?_; rintro e w' ⟨rfl, hb1⟩; obtain ⟨x0, x1, x2⟩ := HX.out _ hb1)
    go_ret
    exact ⟨rfl, (below1 _ _).trans (hb1.mono (by simp))⟩
  · have hk := valid_kind hv
    dsimp only at HV hk
    rw [hv] at HV
    rcases hk with rfl | rfl | ⟨rfl, hs⟩
    · have HE : Hid (textC ⟨1, n, s⟩ = ⟨(Lib.itoa n).toArray⟩) := by show textC _ = _; unfold textC; rw [hv]; rfl
      rw [HE.out]
      clear HE hv
      go_enter Tryz.func5, Tryz.ntmps5
      go_wp2_with (first | (go_at_call 8; refine (HV.out _).mono ?_; rintro e w' ⟨rfl, hb1⟩; obtain ⟨x0, x1, x2⟩ := HX.out _ hb1) | (go_at_call 20; refine (HF.out _ ((below1 _ _).trans (hb1.mono (by simp)))).mono ?_; rintro e w' ⟨rfl, hb2⟩))
      go_ret
      exact ⟨rfl, (below1 _ _).trans ((hb1.trans (hb2.mono hb1.size)).mono (by simp))⟩
    · have HE : Hid (textC ⟨2, n, s⟩ = s) := by show textC _ = _; unfold textC; rw [hv]; rfl
      rw [HE.out]
      clear HE hv
      go_enter Tryz.func5, Tryz.ntmps5
      go_wp2_with (go_at_call 8; refine (HV.out _).mono ?_; rintro e w' ⟨rfl, hb1⟩; obtain ⟨x0, x1, x2⟩ := HX.out _ hb1)
      go_ret
      exact ⟨rfl, (below1 _ _).trans (hb1.mono (by simp))⟩
    · have HE : Hid (textC ⟨3, n, s⟩ = strOf (quotI s)) := by show textC _ = _; unfold textC; rw [hv]; rfl
      have HQ := hide (fun w1 => quoted_any s w1 hs)
      rw [HE.out]
      clear HE hv
      go_enter Tryz.func5, Tryz.ntmps5
      go_wp2_with (first | (go_at_call 8; refine (HV.out _).mono ?_; rintro e w' ⟨rfl, hb1⟩; obtain ⟨x0, x1, x2⟩ := HX.out _ hb1) | (go_at_call 21; refine (HQ.out _).mono ?_; rintro e w' ⟨rfl, hb2⟩))
      go_ret
      exact ⟨rfl, (below1 _ _).trans ((hb1.trans (hb2.mono hb1.size)).mono (by simp))⟩
end Go.Proofs.YtoppnjpajeipdaaGreatDoor
