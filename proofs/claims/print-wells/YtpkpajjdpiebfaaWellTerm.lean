/- print's and the document's reasons for a term, an atom: what whyNoTerm, whyNoAtom answer, and edictref04's term and atom. -/
import Derived.Test.YtpkpajjdpiebfaaProg
import Derived.Test.YtpkpajjdpiebfaaWellPure
import Derived.Test.YtpkpajjdpiebfaaRefValid
namespace Go.Proofs.Ytpkpajjdpiebfaa
set_option linter.unusedSimpArgs false
set_option linter.unusedVariables false
open Go.RowKit

theorem below1 (w : World) (x : Obj) : Below w.heap.size w (w.alloc x) := (Below.refl _ _).alloc (Nat.le_refl _) _
theorem below1t {w w' : World} {x : Obj} (h : Below (w.alloc x).heap.size (w.alloc x) w') : Below w.heap.size w w' := (below1 w x).trans (h.mono (by simp))
theorem belowt {w w' w'' : World} (h : Below w.heap.size w w') (h2 : Below w'.heap.size w' w'') : Below w.heap.size w w'' := h.trans (h2.mono h.size)

theorem constOf_any (t : Trm) (w : World) :
    Calls Try.prog 63 #[t.val] w fun e w' => e = .returned t.con.val ∧ Below w.heap.size w w' := by
  obtain ⟨k, n, s, off⟩ := t
  unfold Trm.val Trm.con Con.val
  go_enter Try.func63, Try.ntmps63
  go_wp2
  exact bodyPost_ret (v := .agg #[.int .i64 k, .int .i64 n, .string s]) (by simp [results, Try.results63, go_sem]) rfl ⟨rfl, ((Below.refl _ _).alloc (Nat.le_refl _) _).alloc (by simp) _⟩

theorem whyConst (c : Con) (w : World) (hc : c.ok) :
    Calls Try.prog 62 #[c.val] w fun e w' => e = .returned (.int .i64 (if validC c then 0 else 5)) ∧ Below w.heap.size w w' := by
  have HV := hide (fun w => valid_any c w hc)
  unfold Con.val at *
  cases hv : validC c
  · go_enter Try.func62, Try.ntmps62
    rw [hv] at HV
    go_wp2_with (go_at_call 68; refine (HV.out _).mono ?_; rintro e w' ⟨rfl, hb⟩)
    go_ret
    exact ⟨rfl, below1t hb⟩
  · go_enter Try.func62, Try.ntmps62
    rw [hv] at HV
    go_wp2_with (go_at_call 68; refine (HV.out _).mono ?_; rintro e w' ⟨rfl, hb⟩)
    go_ret
    exact ⟨rfl, below1t hb⟩

set_option maxHeartbeats 1000000 in
theorem whyTerm (t : Trm) (w : World) (h : t.ok) :
    Calls Try.prog 54 #[t.val] w fun e w' => e = .returned (.int .i64 (termE t)) ∧ Below w.heap.size w w' := by
  have HC := hide (fun w => constOf_any t w)
  have HW := hide (fun w => whyConst t.con w h.1)
  have HV := hide (fun w => isVar_any t.s w (by have := h.1.2.2; unfold maxLen; simp only [Trm.con] at this; omega))
  obtain ⟨k, n, s, off⟩ := t
  clear h
  unfold Trm.val Trm.con Con.val at *
  by_cases h4 : k = 4
  · subst h4
    by_cases hn : n = 0
    · subst hn
      cases hv : isVarL s.toList
      · have HE : Hid (termE ⟨4, 0, s, off⟩ = 14) := by show termE _ = 14; unfold termE; simp [hv]
        rw [HE.out]
        dsimp only at HV
        rw [hv] at HV
        clear HE
        go_enter Try.func54, Try.ntmps54
        go_wp2_with (first | (go_at_call 64; refine (HV.out _).mono ?_; rintro e w' ⟨rfl, hw'⟩; have hw' := hw'.symm; subst hw') | (go_at_call 63; refine (HC.out _).mono ?_; rintro e w' ⟨rfl, hb1⟩) | (go_at_call 62; refine (HW.out _).mono ?_; rintro e w' ⟨rfl, hb2⟩))
        go_ret
        exact ⟨rfl, below1 _ _⟩
      · have HE : Hid (termE ⟨4, 0, s, off⟩ = 0) := by show termE _ = 0; unfold termE; simp [hv]
        rw [HE.out]
        dsimp only at HV
        rw [hv] at HV
        clear HE
        go_enter Try.func54, Try.ntmps54
        go_wp2_with (first | (go_at_call 64; refine (HV.out _).mono ?_; rintro e w' ⟨rfl, hw'⟩; have hw' := hw'.symm; subst hw') | (go_at_call 63; refine (HC.out _).mono ?_; rintro e w' ⟨rfl, hb1⟩) | (go_at_call 62; refine (HW.out _).mono ?_; rintro e w' ⟨rfl, hb2⟩))
        go_ret
        exact ⟨rfl, below1 _ _⟩
    · have en : (n != 0) = true := by simpa using hn
      have HE : Hid (termE ⟨4, n, s, off⟩ = 14) := by show termE _ = 14; unfold termE; simp [hn]
      rw [HE.out]
      clear HE hn
      go_enter Try.func54, Try.ntmps54
      go_wp2_with (first | (go_at_call 64; refine (HV.out _).mono ?_; rintro e w' ⟨rfl, hw'⟩; have hw' := hw'.symm; subst hw') | (go_at_call 63; refine (HC.out _).mono ?_; rintro e w' ⟨rfl, hb1⟩) | (go_at_call 62; refine (HW.out _).mono ?_; rintro e w' ⟨rfl, hb2⟩))
      go_ret
      exact ⟨rfl, below1 _ _⟩
  · have e4 : (k != 4) = true := by simpa using h4
    have HE : Hid (termE ⟨k, n, s, off⟩ = if validC ⟨k, n, s⟩ then 0 else 5) := by show termE _ = _; unfold termE Trm.con; simp only [h4, if_false]
    rw [HE.out]
    clear HE h4
    dsimp only at HW
    generalize validC ⟨k, n, s⟩ = v at *
    cases v
    · go_enter Try.func54, Try.ntmps54
      go_wp2_with (first | (go_at_call 64; refine (HV.out _).mono ?_; rintro e w' ⟨rfl, hw'⟩; have hw' := hw'.symm; subst hw') | (go_at_call 63; refine (HC.out _).mono ?_; rintro e w' ⟨rfl, hb1⟩) | (go_at_call 62; refine (HW.out _).mono ?_; rintro e w' ⟨rfl, hb2⟩))
      go_ret
      exact ⟨rfl, below1t (belowt hb1 hb2)⟩
    · go_enter Try.func54, Try.ntmps54
      go_wp2_with (first | (go_at_call 64; refine (HV.out _).mono ?_; rintro e w' ⟨rfl, hw'⟩; have hw' := hw'.symm; subst hw') | (go_at_call 63; refine (HC.out _).mono ?_; rintro e w' ⟨rfl, hb1⟩) | (go_at_call 62; refine (HW.out _).mono ?_; rintro e w' ⟨rfl, hb2⟩))
      go_ret
      exact ⟨rfl, below1t (belowt hb1 hb2)⟩

set_option maxHeartbeats 1000000 in
theorem rterm (t : Trm) (w : World) (h : t.ok) :
    Calls Try.prog 40 #[t.val] w fun e w' => e = .returned (.int .i64 (termE t)) ∧ Below w.heap.size w w' := by
  have HW := hide (fun w => rvalid t.con w h.1)
  have HV := hide (fun w => rvar t.s w (by have := h.1.2.2; simpa only [Trm.con] using this))
  obtain ⟨k, n, s, off⟩ := t
  clear h
  unfold Trm.val Trm.con Con.val at *
  by_cases h4 : k = 4
  · subst h4
    by_cases hn : n = 0
    · subst hn
      cases hv : isVarL s.toList
      · have HE : Hid (termE ⟨4, 0, s, off⟩ = 14) := by show termE _ = 14; unfold termE; simp [hv]
        rw [HE.out]
        dsimp only at HV
        rw [hv] at HV
        clear HE
        go_enter Try.func40, Try.ntmps40
        go_wp2_with (first | (go_at_call 51; refine (HV.out _).mono ?_; rintro e w' ⟨rfl, hw'⟩; have hw' := hw'.symm; subst hw') | (go_at_call 52; refine (HW.out _).mono ?_; rintro e w' ⟨rfl, hb2⟩))
        go_ret
        exact ⟨rfl, below1 _ _⟩
      · have HE : Hid (termE ⟨4, 0, s, off⟩ = 0) := by show termE _ = 0; unfold termE; simp [hv]
        rw [HE.out]
        dsimp only at HV
        rw [hv] at HV
        clear HE
        go_enter Try.func40, Try.ntmps40
        go_wp2_with (first | (go_at_call 51; refine (HV.out _).mono ?_; rintro e w' ⟨rfl, hw'⟩; have hw' := hw'.symm; subst hw') | (go_at_call 52; refine (HW.out _).mono ?_; rintro e w' ⟨rfl, hb2⟩))
        go_ret
        exact ⟨rfl, below1 _ _⟩
    · have en : (n != 0) = true := by simpa using hn
      have HE : Hid (termE ⟨4, n, s, off⟩ = 14) := by show termE _ = 14; unfold termE; simp [hn]
      rw [HE.out]
      clear HE hn
      go_enter Try.func40, Try.ntmps40
      go_wp2_with (first | (go_at_call 51; refine (HV.out _).mono ?_; rintro e w' ⟨rfl, hw'⟩; have hw' := hw'.symm; subst hw') | (go_at_call 52; refine (HW.out _).mono ?_; rintro e w' ⟨rfl, hb2⟩))
      go_ret
      exact ⟨rfl, below1 _ _⟩
  · have e4 : (k == 4) = false := by simpa using h4
    have HE : Hid (termE ⟨k, n, s, off⟩ = if validC ⟨k, n, s⟩ then 0 else 5) := by show termE _ = _; unfold termE Trm.con; simp only [h4, if_false]
    rw [HE.out]
    clear HE h4
    dsimp only at HW
    generalize validC ⟨k, n, s⟩ = v at *
    cases v
    · go_enter Try.func40, Try.ntmps40
      go_wp2_with (first | (go_at_call 51; refine (HV.out _).mono ?_; rintro e w' ⟨rfl, hw'⟩; have hw' := hw'.symm; subst hw') | (go_at_call 52; refine (HW.out _).mono ?_; rintro e w' ⟨rfl, hb2⟩))
      go_ret
      exact ⟨rfl, below1t hb2⟩
    · go_enter Try.func40, Try.ntmps40
      go_wp2_with (first | (go_at_call 51; refine (HV.out _).mono ?_; rintro e w' ⟨rfl, hw'⟩; have hw' := hw'.symm; subst hw') | (go_at_call 52; refine (HW.out _).mono ?_; rintro e w' ⟨rfl, hb2⟩))
      go_ret
      exact ⟨rfl, below1t hb2⟩

end Go.Proofs.Ytpkpajjdpiebfaa
