/- print's and the document's reasons for an atom; whether a term is empty. -/
import Derived.Test.YtpkpajjdpiebfaaProg
import Derived.Test.YtpkpajjdpiebfaaWellTerm
import Derived.Test.YtpkpajjdpiebfaaConEq
namespace Go.Proofs.Ytpkpajjdpiebfaa
set_option linter.unusedSimpArgs false
set_option linter.unusedVariables false
open Go.RowKit

theorem isEmpty_any (t : Trm) (w : World) :
    Calls Try.prog 65 #[t.val] w fun e w' => e = .returned (.bool (noTerm t)) ∧ Below w.heap.size w w' := by
  have HC := hide (fun w => constOf_any t w)
  obtain ⟨k, n, s, off⟩ := t
  unfold Trm.val Trm.con Con.val at *
  have hq := eqCon ⟨k, n, s⟩ ⟨0, 0, ⟨#[]⟩⟩
  have HE : Hid (noTerm ⟨k, n, s, off⟩ = conEq ⟨k, n, s⟩ ⟨0, 0, ⟨#[]⟩⟩) := by show noTerm _ = conEq _ _; unfold noTerm conEq; rw [show (⟨#[]⟩ : ByteArray).toList = [] from by rw [ByteArray.toList_eq]]
  rw [HE.out]
  go_enter Try.func65, Try.ntmps65
  go_wp2_with (go_at_call 63; refine (HC.out _).mono ?_; rintro e w' ⟨rfl, hb1⟩)
  go_ret
  exact ⟨rfl, below1t hb1⟩

theorem zero_any (t : Trm) (w : World) :
    Calls Try.prog 41 #[t.val] w fun e w' => e = .returned (.bool (noTerm t)) ∧ Below w.heap.size w w' := by
  obtain ⟨k, n, s, off⟩ := t
  unfold Trm.val
  have HE : Hid (noTerm ⟨k, n, s, off⟩ = (k == 0 && (n == 0 && s.toList == []))) := rfl
  rw [HE.out]
  cases e1 : (k == 0)
  · go_enter Try.func41, Try.ntmps41
    go_wp2
    go_ret
    exact ⟨rfl, below1 _ _⟩
  · cases e2 : (n == 0)
    · go_enter Try.func41, Try.ntmps41
      go_wp2
      go_ret
      exact ⟨rfl, below1 _ _⟩
    · cases e3 : (s.toList == [])
      · go_enter Try.func41, Try.ntmps41
        go_wp2
        go_ret
        exact ⟨rfl, below1 _ _⟩
      · go_enter Try.func41, Try.ntmps41
        go_wp2
        go_ret
        exact ⟨rfl, below1 _ _⟩

set_option maxHeartbeats 1000000 in
theorem firstTerm (ao : Option Addr) (len cap : Nat) (ts : List Trm) (w : World) (h : IsTrms w ao len ts) :
    Calls Try.prog 61 #[.slice ao len cap, .func (.func 54) #[] #[]] w fun e w' => e = .returned (.int .i64 (firstE termE ts)) ∧ Below w.heap.size w w' := by
  have H1 := hide h
  have hl : len ≤ 140737488351232 := by have := h.2.1; omega
  clear h
  go_enter Try.func61, Try.ntmps61
  go_wp2
  go_loopw [4, 10] (fun _ i wr => ∃ k : Nat, k ≤ len ∧ i = .int .i64 k ∧ Hid (∀ y ∈ ts.take k, termE y = 0) ∧ Hid (Below w.heap.size w wr)) (fun _ i _ => len - (intOf i).toNat)
  case atStart => exact ⟨0, Nat.zero_le _, rfl, fun y hy => by simp at hy, Below.refl _ _⟩
  case round =>
    obtain ⟨k, hk, rfl, HA, HB⟩ := hrel
    by_cases hlt : k < len
    · have hi : (k : Int) < (len : Int) := by omega
      obtain ⟨hlen, -, hok, hrow⟩ := H1.out
      obtain ⟨b, off, rfl, hr⟩ := hrow (by omega)
      obtain ⟨t, ht⟩ : ∃ t, ts[k]? = some t := ⟨_, List.getElem?_eq_getElem (by omega)⟩
      obtain ⟨x0, x1, x2, x3⟩ := (hr k t ht).kept HB.out
      have HT : Hid (∀ w1, Below w.heap.size w w1 → Calls Try.prog 54 #[t.val] w1 fun e w' => e = .returned (.int .i64 (termE t)) ∧ Below w1.heap.size w1 w') := fun w1 _ => whyTerm t w1 (hok t (List.mem_of_getElem? ht))
      unfold Trm.val at HT
      by_cases hz : termE t = 0
      · have HN := hide (take_zero_more HA.out ht hz)
        rw [hz] at HT
        clear hz HA hlen hok hrow hr ht
        go_wp2_with (go_at_call 54; refine (HT.out _ (belowt HB.out (below1 _ _))).mono ?_; rintro e w' ⟨rfl, hb⟩)
        go_roundw
        case rel => exact ⟨k + 1, by omega, by go_num, HN, hide (belowt HB.out (below1t hb))⟩
        case measure => simp [intOf]; omega
      · have HF := hide (firstE_at HA.out ht hz)
        have hz' : (termE t != 0) = true := by simpa using hz
        clear hz HA hlen hok hrow hr ht
        go_wp2_with (go_at_call 54; refine (HT.out _ (belowt HB.out (below1 _ _))).mono ?_; rintro e w' ⟨rfl, hb⟩)
        go_ret
        exact ⟨by rw [HF.out]; rfl, belowt HB.out (below1t hb)⟩
    · have hi : ¬ (k : Int) < (len : Int) := by omega
      have HF : Hid (firstE termE ts = 0) := firstE_zero fun y hy => HA.out y (by rw [List.take_of_length_le (by have := H1.out.1; omega)]; exact hy)
      go_wp2
      go_ret
      exact ⟨by rw [HF.out]; rfl, HB.out⟩

set_option maxHeartbeats 1000000 in
theorem whyAtomOf (a : Atm) (w : World) (h : a.at w) :
    Calls Try.prog 53 #[.string a.p, .slice a.ao a.len a.cap, .func (.func 54) #[] #[]] w fun e w' => e = .returned (.int .i64 (atomE a.p a.ts)) ∧ Below w.heap.size w w' := by
  have HN := hide (isName_any a.p w (by have := h.1; unfold maxLen; omega))
  have HT := hide (firstTerm a.ao a.len a.cap a.ts w h.2.2)
  have hl : Hid (a.ts.length = a.len) := h.2.2.1
  have hl2 : a.len ≤ 140737488351232 := by have := h.2.2.2.1; omega
  clear h
  cases hn : isNameL a.p.toList
  · have HE : Hid (atomE a.p a.ts = 14) := by show atomE _ _ = 14; unfold atomE; rw [hn]; rfl
    rw [HE.out]
    rw [hn] at HN
    clear HE
    go_enter Try.func53, Try.ntmps53
    go_wp2_with (first | (go_at_call 60; refine HN.out.mono ?_; rintro e w' ⟨rfl, hw'⟩; have hw' := hw'.symm; subst hw') | (go_at_call 61; refine HT.out.mono ?_; rintro e w' ⟨rfl, hb⟩))
    go_ret
    exact ⟨rfl, Below.refl _ _⟩
  · rw [hn] at HN
    by_cases h8 : 8 < a.len
    · have HE : Hid (atomE a.p a.ts = 22) := by show atomE _ _ = 22; unfold atomE; rw [hn, hl.out]; simp [h8]
      rw [HE.out]
      have hi : (8 : Int) < (a.len : Int) := by omega
      clear HE
      go_enter Try.func53, Try.ntmps53
      go_wp2_with (first | (go_at_call 60; refine HN.out.mono ?_; rintro e w' ⟨rfl, hw'⟩; have hw' := hw'.symm; subst hw') | (go_at_call 61; refine HT.out.mono ?_; rintro e w' ⟨rfl, hb⟩))
      go_ret
      exact ⟨rfl, Below.refl _ _⟩
    · have HE : Hid (atomE a.p a.ts = firstE termE a.ts) := by show atomE _ _ = _; unfold atomE; rw [hn, hl.out]; simp [h8]
      rw [HE.out]
      have hi : ¬ (8 : Int) < (a.len : Int) := by omega
      clear HE
      go_enter Try.func53, Try.ntmps53
      go_wp2_with (first | (go_at_call 60; refine HN.out.mono ?_; rintro e w' ⟨rfl, hw'⟩; have hw' := hw'.symm; subst hw') | (go_at_call 61; refine HT.out.mono ?_; rintro e w' ⟨rfl, hb⟩))
      go_ret
      exact ⟨rfl, hb⟩

set_option maxHeartbeats 1000000 in
theorem whyAtom (a : Atm) (w : World) (h : a.at w) :
    Calls Try.prog 42 #[a.val] w fun e w' => e = .returned (.int .i64 (atomE a.p a.ts)) ∧ Below w.heap.size w w' := by
  have HT := hide (fun w1 (hb : Below w.heap.size w w1) => whyAtomOf a w1 (h.kept hb))
  clear h
  unfold Atm.val
  go_enter Try.func42, Try.ntmps42
  go_wp2_with (go_at_call 53; refine (HT.out _ (below1 _ _)).mono ?_; rintro e w' ⟨rfl, hb⟩)
  go_ret
  exact ⟨rfl, below1t hb⟩

end Go.Proofs.Ytpkpajjdpiebfaa
