/- What the document's token answers: as lex behind a gap. -/
import Derived.Test.YtojgfngpndmfoaaDoorProg
import Derived.Test.YtojgfngpndmfoaaDoorRefInt
import Derived.Test.YtojgfngpndmfoaaDoorRefQuoted
import Derived.Test.YtojgfngpndmfoaaDoorRefSign
import Derived.Test.YtojgfngpndmfoaaDoorLexNext
namespace Go.Proofs.YtojgfngpndmfoaaDoor
set_option linter.unusedSimpArgs false
set_option linter.unusedVariables false
open Go.RowKit
attribute [local go_sem] over_cellAt over_frozenAt over_setAt

theorem getBang (r : ByteArray) (i : Nat) (h : i < r.size) : r.data[i]! = r[i]'h := getElem!_pos _ _ _

theorem begB_at (s : ByteArray) (o : Nat) (ho : o < s.size) : begB (s.extract o s.size) = (bDig ((s[o]'ho).toNat : Int) || (((s[o]'ho).toNat : Int) == 45 && (if h : o + 1 < s.size then bDig ((s[o + 1]'h).toNat : Int) else false))) := by
  have hz : (s.extract o s.size).size = s.size - o := by rw [ByteArray.size_extract]; omega
  obtain ⟨h0, e0⟩ := ext_byte s o 0 (by omega)
  unfold begB
  rw [getBang _ 0 h0, e0]
  by_cases h : o + 1 < s.size
  · obtain ⟨h1, e1⟩ := ext_byte s o 1 h
    rw [getBang _ 1 h1, e1, dif_pos h]
    have : decide (1 < (s.extract o s.size).size) = true := decide_eq_true (by omega)
    rw [this]; rfl
  · have : decide (1 < (s.extract o s.size).size) = false := decide_eq_false (by omega)
    rw [this, dif_neg h]; rfl

set_option maxHeartbeats 4000000 in
set_option maxRecDepth 100000 in
theorem rtoken_any (s : ByteArray) (o : Nat) (w : World) (hs : s.size ≤ 140737488351232) (ho : o ≤ s.size) :
    Calls Tryd.prog 19 #[.string s, .int .i64 o] w fun e w' => e = .returned (tokAt s o).val ∧ Below w.heap.size w w' := by
  by_cases hlt : o < s.size
  case neg =>
    have ho' : (s.size : Int) ≤ (o : Int) := by omega
    rw [show tokAt s o = .tok ⟨0, ⟨#[]⟩, 0, 0, o, o⟩ from dif_neg hlt]
    go_enter Tryd.func19, Tryd.ntmps19
    go_wp2
    exact bodyPost_ret (v := (Nx.tok ⟨0, ⟨#[]⟩, 0, 0, o, o⟩).val) (by simp [results, Tryd.results19, go_sem, Nx.val, Tok.val, faultVal]) rfl ⟨rfl, below2 _ _ _⟩
  have ho1 : ¬ (s.size : Int) ≤ (o : Int) := by omega
  have ho2 : (o : Int) < (s.size : Int) := by omega
  rw [show tokAt s o = _ from dif_pos hlt, begB_at s o hlt]
  have HW := hide (fun W h => rword_any s o W hs hlt h)
  have HP := hide (fun W h => rinteger_pos s o W hs hlt h)
  have HQ := hide (fun W => rquoted_any s o W hs hlt)
  have HS := hide (fun W => rsign_any s o W hs hlt)
  have hbb : (0 : Int) ≤ (s[o].toNat : Int) ∧ (s[o].toNat : Int) ≤ 255 := by have := s[o].toNat_lt; omega
  obtain ⟨b, hb⟩ : ∃ b : Int, b = (s[o].toNat : Int) := ⟨_, rfl⟩
  have HN : Hid (∀ W (h : o + 1 < s.size), b = 45 → bDig (s[o + 1].toNat : Int) = true → Calls Tryd.prog 34 #[.string s, .int .i64 o, .int .i64 ((o : Int) + 1)] W fun e w' => e = .returned (intX s o).val ∧ Below W.heap.size W w') := fun W h hm h' => rinteger_neg s o W hs h (hb.symm.trans hm) h'
  rw [← hb] at HW HP hbb ⊢
  replace hb := hb.symm
  have HLo := hide (fun W => rlow_any b W hbb)
  have HUp := hide (fun W => rup_any b W hbb)
  have hbw : Hid ((bLow b || (bUp b || b == 95)) = true → bWord b = true) := fun h => by
    show (bLow b || (bUp b || (bDig b || b == 95))) = true
    simp only [Bool.or_eq_true] at h ⊢
    rcases h with h | h | h
    · exact .inl h
    · exact .inr (.inl h)
    · exact .inr (.inr (.inr h))
  cases hlo : bLow b with
  | true =>
    have hw := hbw.out (by rw [hlo]; rfl)
    rw [if_pos (by rfl)]
    rw [hlo] at HLo
    clear HUp hlo
    obtain ⟨X, hX⟩ : ∃ X, wordX s o = X := ⟨_, rfl⟩
    rw [hX]
    have HK : Hid (∀ W, Calls Tryd.prog 32 #[.string s, .int .i64 o] W fun e w' => e = .returned X.val ∧ Below W.heap.size W w') := fun W => by rw [← hX]; exact HW.out W hw
    clear hX HW HP HN HQ HS hbw
    cases X with
    | tok t =>
      go_enter Tryd.func19, Tryd.ntmps19
      go_wp2_with (first | (go_at_call 30; refine (HLo.out _).mono ?_; rintro e w' ⟨rfl, hw'⟩; have hw' := hw'.symm; subst hw') | (go_at_call 32; refine (HK.out _).mono ?_; unfold Nx.val Tok.val tokZero faultVal; rintro e w' ⟨rfl, hb'⟩; obtain ⟨x, rfl⟩ := over_of hb'; clear hb'))
      exact bodyPost_ret (v := (Nx.tok t).val) (by simp [results, Tryd.results19, go_sem, Nx.val, Tok.val, tokZero, faultVal]) rfl ⟨rfl, below2_over _ _ _ _⟩
    | bad c p =>
      go_enter Tryd.func19, Tryd.ntmps19
      go_wp2_with (first | (go_at_call 30; refine (HLo.out _).mono ?_; rintro e w' ⟨rfl, hw'⟩; have hw' := hw'.symm; subst hw') | (go_at_call 32; refine (HK.out _).mono ?_; unfold Nx.val Tok.val tokZero faultVal; rintro e w' ⟨rfl, hb'⟩; obtain ⟨x, rfl⟩ := over_of hb'; clear hb'))
      exact bodyPost_ret (v := (Nx.bad c p).val) (by simp [results, Tryd.results19, go_sem, Nx.val, Tok.val, tokZero, faultVal]) rfl ⟨rfl, below2_over _ _ _ _⟩
  | false =>
  rw [hlo] at HLo
  cases hup : bUp b with
  | true =>
    have hw := hbw.out (by rw [hup]; simp)
    rw [if_pos (by rfl)]
    rw [hup] at HUp
    clear hup hlo
    obtain ⟨X, hX⟩ : ∃ X, wordX s o = X := ⟨_, rfl⟩
    rw [hX]
    have HK : Hid (∀ W, Calls Tryd.prog 32 #[.string s, .int .i64 o] W fun e w' => e = .returned X.val ∧ Below W.heap.size W w') := fun W => by rw [← hX]; exact HW.out W hw
    clear hX HW HP HN HQ HS hbw
    cases X with
    | tok t =>
      go_enter Tryd.func19, Tryd.ntmps19
      go_wp2_with (first | (go_at_call 30; refine (HLo.out _).mono ?_; rintro e w' ⟨rfl, hw'⟩; have hw' := hw'.symm; subst hw') | (go_at_call 31; refine (HUp.out _).mono ?_; rintro e w' ⟨rfl, hw'⟩; have hw' := hw'.symm; subst hw') | (go_at_call 32; refine (HK.out _).mono ?_; unfold Nx.val Tok.val tokZero faultVal; rintro e w' ⟨rfl, hb'⟩; obtain ⟨x, rfl⟩ := over_of hb'; clear hb'))
      exact bodyPost_ret (v := (Nx.tok t).val) (by simp [results, Tryd.results19, go_sem, Nx.val, Tok.val, tokZero, faultVal]) rfl ⟨rfl, below2_over _ _ _ _⟩
    | bad c p =>
      go_enter Tryd.func19, Tryd.ntmps19
      go_wp2_with (first | (go_at_call 30; refine (HLo.out _).mono ?_; rintro e w' ⟨rfl, hw'⟩; have hw' := hw'.symm; subst hw') | (go_at_call 31; refine (HUp.out _).mono ?_; rintro e w' ⟨rfl, hw'⟩; have hw' := hw'.symm; subst hw') | (go_at_call 32; refine (HK.out _).mono ?_; unfold Nx.val Tok.val tokZero faultVal; rintro e w' ⟨rfl, hb'⟩; obtain ⟨x, rfl⟩ := over_of hb'; clear hb'))
      exact bodyPost_ret (v := (Nx.bad c p).val) (by simp [results, Tryd.results19, go_sem, Nx.val, Tok.val, tokZero, faultVal]) rfl ⟨rfl, below2_over _ _ _ _⟩
  | false =>
  rw [hup] at HUp
  by_cases h95 : b = 95
  · have hw := hbw.out (by rw [h95]; rfl)
    rw [if_pos (by rw [h95]; rfl)]
    subst h95
    clear hup hlo
    obtain ⟨X, hX⟩ : ∃ X, wordX s o = X := ⟨_, rfl⟩
    rw [hX]
    have HK : Hid (∀ W, Calls Tryd.prog 32 #[.string s, .int .i64 o] W fun e w' => e = .returned X.val ∧ Below W.heap.size W w') := fun W => by rw [← hX]; exact HW.out W hw
    clear hX HW HP HN HQ HS hbw
    cases X with
    | tok t =>
      go_enter Tryd.func19, Tryd.ntmps19
      go_wp2_with (first | (go_at_call 30; refine (HLo.out _).mono ?_; rintro e w' ⟨rfl, hw'⟩; have hw' := hw'.symm; subst hw') | (go_at_call 31; refine (HUp.out _).mono ?_; rintro e w' ⟨rfl, hw'⟩; have hw' := hw'.symm; subst hw') | (go_at_call 32; refine (HK.out _).mono ?_; unfold Nx.val Tok.val tokZero faultVal; rintro e w' ⟨rfl, hb'⟩; obtain ⟨x, rfl⟩ := over_of hb'; clear hb'))
      exact bodyPost_ret (v := (Nx.tok t).val) (by simp [results, Tryd.results19, go_sem, Nx.val, Tok.val, tokZero, faultVal]) rfl ⟨rfl, below2_over _ _ _ _⟩
    | bad c p =>
      go_enter Tryd.func19, Tryd.ntmps19
      go_wp2_with (first | (go_at_call 30; refine (HLo.out _).mono ?_; rintro e w' ⟨rfl, hw'⟩; have hw' := hw'.symm; subst hw') | (go_at_call 31; refine (HUp.out _).mono ?_; rintro e w' ⟨rfl, hw'⟩; have hw' := hw'.symm; subst hw') | (go_at_call 32; refine (HK.out _).mono ?_; unfold Nx.val Tok.val tokZero faultVal; rintro e w' ⟨rfl, hb'⟩; obtain ⟨x, rfl⟩ := over_of hb'; clear hb'))
      exact bodyPost_ret (v := (Nx.bad c p).val) (by simp [results, Tryd.results19, go_sem, Nx.val, Tok.val, tokZero, faultVal]) rfl ⟨rfl, below2_over _ _ _ _⟩
  have e95 : (b == 95) = false := by simpa using h95
  rw [if_neg (by rw [e95]; simp)]
  clear h95
  cases hdi : bDig b with
  | true =>
    rw [if_pos (by rfl)]
    have HDi := hide (fun W => rdig_any b W hbb)
    rw [hdi] at HDi
    obtain ⟨X, hX⟩ : ∃ X, intX s o = X := ⟨_, rfl⟩
    rw [hX]
    have HK : Hid (∀ W, Calls Tryd.prog 34 #[.string s, .int .i64 o, .int .i64 o] W fun e w' => e = .returned X.val ∧ Below W.heap.size W w') := fun W => by rw [← hX]; exact HP.out W hdi
    clear hX HW HP HN HQ HS hbw
    cases X with
    | tok t =>
      go_enter Tryd.func19, Tryd.ntmps19
      go_wp2_with (first | (go_at_call 30; refine (HLo.out _).mono ?_; rintro e w' ⟨rfl, hw'⟩; have hw' := hw'.symm; subst hw') | (go_at_call 31; refine (HUp.out _).mono ?_; rintro e w' ⟨rfl, hw'⟩; have hw' := hw'.symm; subst hw') | (go_at_call 33; refine (HDi.out _).mono ?_; rintro e w' ⟨rfl, hw'⟩; have hw' := hw'.symm; subst hw') | (go_at_call 34; refine (HK.out _).mono ?_; unfold Nx.val Tok.val tokZero faultVal; rintro e w' ⟨rfl, hb'⟩; obtain ⟨x, rfl⟩ := over_of hb'; clear hb'))
      exact bodyPost_ret (v := (Nx.tok t).val) (by simp [results, Tryd.results19, go_sem, Nx.val, Tok.val, tokZero, faultVal]) rfl ⟨rfl, below2_over _ _ _ _⟩
    | bad c p =>
      go_enter Tryd.func19, Tryd.ntmps19
      go_wp2_with (first | (go_at_call 30; refine (HLo.out _).mono ?_; rintro e w' ⟨rfl, hw'⟩; have hw' := hw'.symm; subst hw') | (go_at_call 31; refine (HUp.out _).mono ?_; rintro e w' ⟨rfl, hw'⟩; have hw' := hw'.symm; subst hw') | (go_at_call 33; refine (HDi.out _).mono ?_; rintro e w' ⟨rfl, hw'⟩; have hw' := hw'.symm; subst hw') | (go_at_call 34; refine (HK.out _).mono ?_; unfold Nx.val Tok.val tokZero faultVal; rintro e w' ⟨rfl, hb'⟩; obtain ⟨x, rfl⟩ := over_of hb'; clear hb'))
      exact bodyPost_ret (v := (Nx.bad c p).val) (by simp [results, Tryd.results19, go_sem, Nx.val, Tok.val, tokZero, faultVal]) rfl ⟨rfl, below2_over _ _ _ _⟩
  | false =>
  by_cases h45 : b = 45
  · subst h45
    have QA : Hid (bDig 45 = false) := hdi
    by_cases h1 : o + 1 < s.size
    · have h1' : (o : Int) + 1 < (s.size : Int) := by omega
      have hcc : (0 : Int) ≤ (s[o + 1].toNat : Int) ∧ (s[o + 1].toNat : Int) ≤ 255 := by have := s[o + 1].toNat_lt; omega
      rw [dif_pos h1]
      cases hdc : bDig (s[o + 1].toNat : Int) with
      | true =>
        have QC := hide hdc
        rw [if_pos (by rfl)]
        obtain ⟨X, hX⟩ : ∃ X, intX s o = X := ⟨_, rfl⟩
        rw [hX]
        have HK : Hid (∀ W, Calls Tryd.prog 34 #[.string s, .int .i64 o, .int .i64 ((o : Int) + 1)] W fun e w' => e = .returned X.val ∧ Below W.heap.size W w') := fun W => by rw [← hX]; exact HN.out W h1 rfl hdc
        clear hX hdc HW HP HN HQ HS hbw
        cases X with
        | tok t =>
          go_enter Tryd.func19, Tryd.ntmps19
          go_wp2_with (first | (go_at_call 30; refine (HLo.out _).mono ?_; rintro e w' ⟨rfl, hw'⟩; have hw' := hw'.symm; subst hw') | (go_at_call 31; refine (HUp.out _).mono ?_; rintro e w' ⟨rfl, hw'⟩; have hw' := hw'.symm; subst hw') | (go_at_call 33; refine (rdig_any _ _ (by first | exact hbb | exact hcc)).mono ?_; rintro e w' ⟨rfl, hw'⟩; have hw' := hw'.symm; subst hw'; first | rw [QA.out] | rw [QC.out]) | (go_at_call 34; refine (HK.out _).mono ?_; unfold Nx.val Tok.val tokZero faultVal; rintro e w' ⟨rfl, hb'⟩; obtain ⟨x, rfl⟩ := over_of hb'; clear hb'))
          exact bodyPost_ret (v := (Nx.tok t).val) (by simp [results, Tryd.results19, go_sem, Nx.val, Tok.val, tokZero, faultVal]) rfl ⟨rfl, below2_over _ _ _ _⟩
        | bad c p =>
          go_enter Tryd.func19, Tryd.ntmps19
          go_wp2_with (first | (go_at_call 30; refine (HLo.out _).mono ?_; rintro e w' ⟨rfl, hw'⟩; have hw' := hw'.symm; subst hw') | (go_at_call 31; refine (HUp.out _).mono ?_; rintro e w' ⟨rfl, hw'⟩; have hw' := hw'.symm; subst hw') | (go_at_call 33; refine (rdig_any _ _ (by first | exact hbb | exact hcc)).mono ?_; rintro e w' ⟨rfl, hw'⟩; have hw' := hw'.symm; subst hw'; first | rw [QA.out] | rw [QC.out]) | (go_at_call 34; refine (HK.out _).mono ?_; unfold Nx.val Tok.val tokZero faultVal; rintro e w' ⟨rfl, hb'⟩; obtain ⟨x, rfl⟩ := over_of hb'; clear hb'))
          exact bodyPost_ret (v := (Nx.bad c p).val) (by simp [results, Tryd.results19, go_sem, Nx.val, Tok.val, tokZero, faultVal]) rfl ⟨rfl, below2_over _ _ _ _⟩
      | false =>
        have QC := hide hdc
        rw [if_neg (by simp), if_neg (by decide)]
        obtain ⟨X, hX⟩ : ∃ X, punctX s o = X := ⟨_, rfl⟩
        rw [hX]
        have HK : Hid (∀ W, Calls Tryd.prog 36 #[.string s, .int .i64 o] W fun e w' => e = .returned X.val ∧ Below W.heap.size W w') := fun W => by rw [← hX]; exact HS.out W
        clear hX hdc HW HP HN HQ HS hbw
        cases X with
        | tok t =>
          go_enter Tryd.func19, Tryd.ntmps19
          go_wp2_with (first | (go_at_call 30; refine (HLo.out _).mono ?_; rintro e w' ⟨rfl, hw'⟩; have hw' := hw'.symm; subst hw') | (go_at_call 31; refine (HUp.out _).mono ?_; rintro e w' ⟨rfl, hw'⟩; have hw' := hw'.symm; subst hw') | (go_at_call 33; refine (rdig_any _ _ (by first | exact hbb | exact hcc)).mono ?_; rintro e w' ⟨rfl, hw'⟩; have hw' := hw'.symm; subst hw'; first | rw [QA.out] | rw [QC.out]) | (go_at_call 36; refine (HK.out _).mono ?_; unfold Nx.val Tok.val tokZero faultVal; rintro e w' ⟨rfl, hb'⟩; obtain ⟨x, rfl⟩ := over_of hb'; clear hb'))
          exact bodyPost_ret (v := (Nx.tok t).val) (by simp [results, Tryd.results19, go_sem, Nx.val, Tok.val, tokZero, faultVal]) rfl ⟨rfl, below2_over _ _ _ _⟩
        | bad c p =>
          go_enter Tryd.func19, Tryd.ntmps19
          go_wp2_with (first | (go_at_call 30; refine (HLo.out _).mono ?_; rintro e w' ⟨rfl, hw'⟩; have hw' := hw'.symm; subst hw') | (go_at_call 31; refine (HUp.out _).mono ?_; rintro e w' ⟨rfl, hw'⟩; have hw' := hw'.symm; subst hw') | (go_at_call 33; refine (rdig_any _ _ (by first | exact hbb | exact hcc)).mono ?_; rintro e w' ⟨rfl, hw'⟩; have hw' := hw'.symm; subst hw'; first | rw [QA.out] | rw [QC.out]) | (go_at_call 36; refine (HK.out _).mono ?_; unfold Nx.val Tok.val tokZero faultVal; rintro e w' ⟨rfl, hb'⟩; obtain ⟨x, rfl⟩ := over_of hb'; clear hb'))
          exact bodyPost_ret (v := (Nx.bad c p).val) (by simp [results, Tryd.results19, go_sem, Nx.val, Tok.val, tokZero, faultVal]) rfl ⟨rfl, below2_over _ _ _ _⟩
    · have h1' : ¬ (o : Int) + 1 < (s.size : Int) := by omega
      rw [dif_neg h1, if_neg (by simp), if_neg (by decide)]
      have HDi := hide (fun W => rdig_any 45 W hbb)
      rw [hdi] at HDi
      obtain ⟨X, hX⟩ : ∃ X, punctX s o = X := ⟨_, rfl⟩
      rw [hX]
      have HK : Hid (∀ W, Calls Tryd.prog 36 #[.string s, .int .i64 o] W fun e w' => e = .returned X.val ∧ Below W.heap.size W w') := fun W => by rw [← hX]; exact HS.out W
      clear hX HW HP HN HQ HS hbw
      cases X with
      | tok t =>
        go_enter Tryd.func19, Tryd.ntmps19
        go_wp2_with (first | (go_at_call 30; refine (HLo.out _).mono ?_; rintro e w' ⟨rfl, hw'⟩; have hw' := hw'.symm; subst hw') | (go_at_call 31; refine (HUp.out _).mono ?_; rintro e w' ⟨rfl, hw'⟩; have hw' := hw'.symm; subst hw') | (go_at_call 33; refine (HDi.out _).mono ?_; rintro e w' ⟨rfl, hw'⟩; have hw' := hw'.symm; subst hw') | (go_at_call 36; refine (HK.out _).mono ?_; unfold Nx.val Tok.val tokZero faultVal; rintro e w' ⟨rfl, hb'⟩; obtain ⟨x, rfl⟩ := over_of hb'; clear hb'))
        exact bodyPost_ret (v := (Nx.tok t).val) (by simp [results, Tryd.results19, go_sem, Nx.val, Tok.val, tokZero, faultVal]) rfl ⟨rfl, below2_over _ _ _ _⟩
      | bad c p =>
        go_enter Tryd.func19, Tryd.ntmps19
        go_wp2_with (first | (go_at_call 30; refine (HLo.out _).mono ?_; rintro e w' ⟨rfl, hw'⟩; have hw' := hw'.symm; subst hw') | (go_at_call 31; refine (HUp.out _).mono ?_; rintro e w' ⟨rfl, hw'⟩; have hw' := hw'.symm; subst hw') | (go_at_call 33; refine (HDi.out _).mono ?_; rintro e w' ⟨rfl, hw'⟩; have hw' := hw'.symm; subst hw') | (go_at_call 36; refine (HK.out _).mono ?_; unfold Nx.val Tok.val tokZero faultVal; rintro e w' ⟨rfl, hb'⟩; obtain ⟨x, rfl⟩ := over_of hb'; clear hb'))
        exact bodyPost_ret (v := (Nx.bad c p).val) (by simp [results, Tryd.results19, go_sem, Nx.val, Tok.val, tokZero, faultVal]) rfl ⟨rfl, below2_over _ _ _ _⟩
  have e45 : (b == 45) = false := by simpa using h45
  rw [if_neg (by rw [e45]; simp)]
  clear h45
  have HDi := hide (fun W => rdig_any b W hbb)
  rw [hdi] at HDi
  clear hdi hup hlo
  by_cases h34 : b = 34
  · rw [if_pos h34]
    subst h34
    obtain ⟨X, hX⟩ : ∃ X, textX s o = X := ⟨_, rfl⟩
    rw [hX]
    have HK : Hid (∀ W, Calls Tryd.prog 35 #[.string s, .int .i64 o] W fun e w' => e = .returned X.val ∧ Below W.heap.size W w') := fun W => by rw [← hX]; exact HQ.out W
    clear hX HW HP HN HQ HS hbw
    cases X with
    | tok t =>
      go_enter Tryd.func19, Tryd.ntmps19
      go_wp2_with (first | (go_at_call 30; refine (HLo.out _).mono ?_; rintro e w' ⟨rfl, hw'⟩; have hw' := hw'.symm; subst hw') | (go_at_call 31; refine (HUp.out _).mono ?_; rintro e w' ⟨rfl, hw'⟩; have hw' := hw'.symm; subst hw') | (go_at_call 33; refine (HDi.out _).mono ?_; rintro e w' ⟨rfl, hw'⟩; have hw' := hw'.symm; subst hw') | (go_at_call 35; refine (HK.out _).mono ?_; unfold Nx.val Tok.val tokZero faultVal; rintro e w' ⟨rfl, hb'⟩; obtain ⟨x, rfl⟩ := over_of hb'; clear hb'))
      exact bodyPost_ret (v := (Nx.tok t).val) (by simp [results, Tryd.results19, go_sem, Nx.val, Tok.val, tokZero, faultVal]) rfl ⟨rfl, below2_over _ _ _ _⟩
    | bad c p =>
      go_enter Tryd.func19, Tryd.ntmps19
      go_wp2_with (first | (go_at_call 30; refine (HLo.out _).mono ?_; rintro e w' ⟨rfl, hw'⟩; have hw' := hw'.symm; subst hw') | (go_at_call 31; refine (HUp.out _).mono ?_; rintro e w' ⟨rfl, hw'⟩; have hw' := hw'.symm; subst hw') | (go_at_call 33; refine (HDi.out _).mono ?_; rintro e w' ⟨rfl, hw'⟩; have hw' := hw'.symm; subst hw') | (go_at_call 35; refine (HK.out _).mono ?_; unfold Nx.val Tok.val tokZero faultVal; rintro e w' ⟨rfl, hb'⟩; obtain ⟨x, rfl⟩ := over_of hb'; clear hb'))
      exact bodyPost_ret (v := (Nx.bad c p).val) (by simp [results, Tryd.results19, go_sem, Nx.val, Tok.val, tokZero, faultVal]) rfl ⟨rfl, below2_over _ _ _ _⟩
  rw [if_neg h34]
  have e34 : (b == 34) = false := by simpa using h34
  clear h34
  obtain ⟨X, hX⟩ : ∃ X, punctX s o = X := ⟨_, rfl⟩
  rw [hX]
  have HK : Hid (∀ W, Calls Tryd.prog 36 #[.string s, .int .i64 o] W fun e w' => e = .returned X.val ∧ Below W.heap.size W w') := fun W => by rw [← hX]; exact HS.out W
  clear hX HW HP HN HQ HS hbw
  cases X with
  | tok t =>
    go_enter Tryd.func19, Tryd.ntmps19
    go_wp2_with (first | (go_at_call 30; refine (HLo.out _).mono ?_; rintro e w' ⟨rfl, hw'⟩; have hw' := hw'.symm; subst hw') | (go_at_call 31; refine (HUp.out _).mono ?_; rintro e w' ⟨rfl, hw'⟩; have hw' := hw'.symm; subst hw') | (go_at_call 33; refine (HDi.out _).mono ?_; rintro e w' ⟨rfl, hw'⟩; have hw' := hw'.symm; subst hw') | (go_at_call 36; refine (HK.out _).mono ?_; unfold Nx.val Tok.val tokZero faultVal; rintro e w' ⟨rfl, hb'⟩; obtain ⟨x, rfl⟩ := over_of hb'; clear hb'))
    exact bodyPost_ret (v := (Nx.tok t).val) (by simp [results, Tryd.results19, go_sem, Nx.val, Tok.val, tokZero, faultVal]) rfl ⟨rfl, below2_over _ _ _ _⟩
  | bad c p =>
    go_enter Tryd.func19, Tryd.ntmps19
    go_wp2_with (first | (go_at_call 30; refine (HLo.out _).mono ?_; rintro e w' ⟨rfl, hw'⟩; have hw' := hw'.symm; subst hw') | (go_at_call 31; refine (HUp.out _).mono ?_; rintro e w' ⟨rfl, hw'⟩; have hw' := hw'.symm; subst hw') | (go_at_call 33; refine (HDi.out _).mono ?_; rintro e w' ⟨rfl, hw'⟩; have hw' := hw'.symm; subst hw') | (go_at_call 36; refine (HK.out _).mono ?_; unfold Nx.val Tok.val tokZero faultVal; rintro e w' ⟨rfl, hb'⟩; obtain ⟨x, rfl⟩ := over_of hb'; clear hb'))
    exact bodyPost_ret (v := (Nx.bad c p).val) (by simp [results, Tryd.results19, go_sem, Nx.val, Tok.val, tokZero, faultVal]) rfl ⟨rfl, below2_over _ _ _ _⟩

end Go.Proofs.YtojgfngpndmfoaaDoor
