/- What lex.next answers: the token, or the fault, behind the gap. -/
import Derived.Test.YtplldgkdjainlaaDoorProg
import Derived.Test.YtplldgkdjainlaaDoorLexText
import Derived.Test.YtplldgkdjainlaaDoorLexPunct
namespace Go.Proofs.YtplldgkdjainlaaDoor
set_option linter.unusedSimpArgs false
set_option linter.unusedVariables false
open Go.RowKit
attribute [local go_sem] over_cellAt over_frozenAt over_setAt

def begB (r : ByteArray) : Bool := bDig ((r.data[0]!).toNat : Int) || (((r.data[0]!).toNat : Int) == 45 && (decide (1 < r.size) && bDig ((r.data[1]!).toNat : Int)))

set_option maxHeartbeats 1000000 in
set_option maxRecDepth 100000 in
theorem begins_any (r : ByteArray) (w : World) (hs : r.size ≤ 140737488351232) (h0 : 0 < r.size) :
    Calls Tryd.prog 25 #[.string r] w fun e w' => e = .returned (.bool (begB r)) ∧ w' = w := by
  have e0 : r.data[0]! = r[0] := getElem!_pos _ _ _
  have hb0 : (0 : Int) ≤ (r[0].toNat : Int) ∧ (r[0].toNat : Int) ≤ 255 := by have := r[0].toNat_lt; omega
  have HD := hide (dig_any (r[0].toNat : Int) w hb0)
  have h0' : (0 : Int) < (r.size : Int) := by omega
  have HX : Hid (begB r = (bDig (r[0].toNat : Int) || ((r[0].toNat : Int) == 45 && (decide (1 < r.size) && bDig ((r.data[1]!).toNat : Int))))) := by show begB r = _; unfold begB; rw [e0]
  clear e0
  cases hd : bDig (r[0].toNat : Int) with
  | true =>
    have HY : Hid (begB r = true) := HX.out.trans (by rw [hd]; rfl)
    rw [hd] at HD
    rw [HY.out]
    clear hd HX
    go_enter Tryd.func25, Tryd.ntmps25
    go_wp2_with (go_at_call 34; refine HD.out.mono ?_; rintro e w' ⟨rfl, hw'⟩; have hw' := hw'.symm; subst hw')
    go_ret
    exact ⟨rfl, rfl⟩
  | false =>
    rw [hd] at HD
    by_cases h45 : (r[0].toNat : Int) = 45
    · by_cases h1 : 1 < r.size
      · have e1 : r.data[1]! = r[1] := getElem!_pos _ _ _
        have hb1 : (0 : Int) ≤ (r[1].toNat : Int) ∧ (r[1].toNat : Int) ≤ 255 := by have := r[1].toNat_lt; omega
        have HD1 := hide (dig_any (r[1].toNat : Int) w hb1)
        have h1' : (1 : Int) < (r.size : Int) := by omega
        have HY : Hid (begB r = bDig (r[1].toNat : Int)) := HX.out.trans (by rw [hd, h45, e1]; simp [h1])
        rw [HY.out]
        rw [h45] at HD
        clear hd HX e1
        generalize bDig (r[1].toNat : Int) = P at *
        have HA : Hid (∀ n b, (n = 45 ∧ b = false) ∨ (n = (r[1].toNat : Int) ∧ b = P) → Calls Tryd.prog 34 #[.int .u8 n] w fun e w' => e = .returned (.bool b) ∧ w' = w) := by
          rintro n b (⟨rfl, rfl⟩ | ⟨rfl, rfl⟩)
          · exact HD.out
          · exact HD1.out
        cases P <;>
        · go_enter Tryd.func25, Tryd.ntmps25
          go_wp2_with (first
            | (go_at_call 34; refine (HA.out _ _ (.inl ⟨rfl, rfl⟩)).mono ?_; rintro e w' ⟨rfl, hw'⟩; have hw' := hw'.symm; subst hw')
            | (go_at_call 34; refine (HA.out _ _ (.inr ⟨rfl, rfl⟩)).mono ?_; rintro e w' ⟨rfl, hw'⟩; have hw' := hw'.symm; subst hw'))
          go_ret
          exact ⟨rfl, rfl⟩
      · have HY : Hid (begB r = false) := HX.out.trans (by rw [hd]; simp [h1])
        rw [HY.out]
        rw [h45] at HD
        have h1' : ¬ (1 : Int) < (r.size : Int) := by omega
        clear hd HX
        go_enter Tryd.func25, Tryd.ntmps25
        go_wp2_with (go_at_call 34; refine HD.out.mono ?_; rintro e w' ⟨rfl, hw'⟩; have hw' := hw'.symm; subst hw')
        go_ret
        exact ⟨rfl, rfl⟩
    · have HY : Hid (begB r = false) := HX.out.trans (by rw [hd]; simp [h45])
      rw [HY.out]
      have e45 : ((r[0].toNat : Int) == 45) = false := by simpa using h45
      clear hd HX
      go_enter Tryd.func25, Tryd.ntmps25
      go_wp2_with (go_at_call 34; refine HD.out.mono ?_; rintro e w' ⟨rfl, hw'⟩; have hw' := hw'.symm; subst hw')
      go_ret
      exact ⟨rfl, rfl⟩

/-- What stands at an offset, a gap having been gone over. -/
def tokAt (s : ByteArray) (g : Nat) : Nx :=
  if h : g < s.size then
    if bLow (s[g].toNat : Int) || (bUp (s[g].toNat : Int) || (s[g].toNat : Int) == 95) then wordX s g
    else if begB (s.extract g s.size) then intX s g
    else if (s[g].toNat : Int) = 34 then textX s g
    else punctX s g
  else .tok ⟨0, ⟨#[]⟩, 0, 0, g, g⟩
def nextX (s : ByteArray) (o : Nat) : Nx := if (gapW s o).2 then tokAt s (gapW s o).1 else .bad 16 (gapW s o).1

theorem gapW_le (s : ByteArray) (o : Nat) (ho : o ≤ s.size) : o ≤ (gapW s o).1 ∧ (gapW s o).1 ≤ s.size := by
  have h : ∀ (n : Nat) (l : List UInt8), l.length = n → (gapN l).1 ≤ l.length := by
    intro n
    induction n using Nat.strongRecOn with
    | ind n ih =>
      intro l hl
      rw [gapN]
      split
      · exact Nat.zero_le _
      · exact Nat.zero_le _
      · split
        · next k hk h =>
          have := ih (l.drop k).length (by simp; omega) (l.drop k) rfl
          simp only [List.length_drop] at this
          simp only
          omega
        · exact Nat.zero_le _
  have h1 := h _ (rest s o) rfl
  rw [rest_len] at h1
  unfold gapW
  simp only
  omega

set_option maxHeartbeats 4000000 in
theorem next_any (s : ByteArray) (o : Nat) (w : World) (hs : s.size ≤ 140737488351232) (ho : o ≤ s.size) (hl : LexLaid w) :
    Calls Tryd.prog 12 #[.string s, .int .i64 o] w fun e w' => e = .returned (nextX s o).val ∧ Below w.heap.size w w' := by
  have HL := hide hl
  clear hl
  have HG := hide (fun W => gap_any s o W hs ho)
  have hgl := gapW_le s o ho
  have HX : Hid (nextX s o = if (gapW s o).2 then tokAt s (gapW s o).1 else .bad 16 (gapW s o).1) := rfl
  rw [HX.out]
  clear HX
  generalize gapW s o = G at *
  obtain ⟨g, c⟩ := G
  simp only at hgl HG
  cases c with
  | false =>
    rw [show (if (g, false).2 = true then tokAt s (g, false).1 else Nx.bad 16 (g, false).1) = .bad 16 g from rfl]
    go_enter Tryd.func12, Tryd.ntmps12
    go_wp2_with (first
      | (go_at_call 11; refine (HG.out _).mono ?_; rintro e w' ⟨rfl, hw'⟩; have hw' := hw'.symm; subst hw')
      | (go_at_call 21; refine (refuse_below _ _ _).mono ?_; unfold Nx.val tokZero faultVal; rintro e w' ⟨rfl, hb⟩; obtain ⟨x, rfl⟩ := over_of hb; clear hb))
    exact bodyPost_ret (v := (Nx.bad 16 g).val) (by simp [results, Tryd.results12, go_sem, Nx.val, tokZero, faultVal]) rfl ⟨rfl, below2_over _ _ _ _⟩
  | true =>
    rw [show (if (g, true).2 = true then tokAt s (g, true).1 else Nx.bad 16 (g, true).1) = tokAt s g from rfl]
    by_cases hlt : g < s.size
    · have hi : (g : Int) < (s.size : Int) := by omega
      have ei : ((g : Int) == (s.size : Int)) = false := by simp; omega
      obtain ⟨b, hb⟩ : ∃ b : Int, b = (s[g].toNat : Int) := ⟨_, rfl⟩
      have hbb : 0 ≤ b ∧ b ≤ 255 := by have := s[g].toNat_lt; omega
      have hT : tokAt s g = if bLow b || (bUp b || b == 95) then wordX s g else if begB (s.extract g s.size) then intX s g else if b = 34 then textX s g else punctX s g := by
        rw [hb]; exact dif_pos hlt
      have HLo := hide (fun W => low_any b W hbb)
      have HUp := hide (fun W => up_any b W hbb)
      have hes : (s.extract g s.size).size = s.size - g := by rw [ByteArray.size_extract]; omega
      have HBe := hide (fun W => begins_any (s.extract g s.size) W (by omega) (by omega))
      have hw0 : (bLow b || (bUp b || b == 95)) = true → bWord (s[g].toNat : Int) = true := by
        rw [← hb]
        intro h
        unfold bWord
        revert h
        cases bLow b <;> cases bUp b <;> cases (b == 95) <;> simp
      replace hb := hb.symm
      by_cases hw : (bLow b || (bUp b || b == 95)) = true
      · rw [hT, if_pos hw]
        obtain ⟨X, hX⟩ : ∃ X, wordX s g = X := ⟨_, rfl⟩
        rw [hX]
        have hword := hw0 hw
        clear hT hw0
        by_cases h95 : b = 95
        · subst h95
          rw [show bLow 95 = false from rfl] at HLo
          rw [show bUp 95 = false from rfl] at HUp
          clear hw
          have HK : Hid (∀ W, LexLaid W → Calls Tryd.prog 24 #[.string s, .int .i64 g] W fun e w' => e = .returned X.val ∧ Below W.heap.size W w') := fun W hW => by rw [← hX]; exact word_any s g W hs hlt hword
          clear hX
          cases X with
          | tok t =>
            go_enter Tryd.func12, Tryd.ntmps12
            go_wp2_with (first
              | (go_at_call 11; refine (HG.out _).mono ?_; rintro e w' ⟨rfl, hw'⟩; have hw' := hw'.symm; subst hw')
              | (go_at_call 22; refine (HLo.out _).mono ?_; rintro e w' ⟨rfl, hw'⟩; have hw' := hw'.symm; subst hw')
              | (go_at_call 23; refine (HUp.out _).mono ?_; rintro e w' ⟨rfl, hw'⟩; have hw' := hw'.symm; subst hw')
              | (go_at_call 25; refine (HBe.out _).mono ?_; rintro e w' ⟨rfl, hw'⟩; have hw' := hw'.symm; subst hw')
              | (go_at_call 24; refine (HK.out _ (HL.out.kept (below2 _ _ _))).mono ?_; unfold Nx.val Tok.val tokZero faultVal; rintro e w' ⟨rfl, hb⟩; obtain ⟨x, rfl⟩ := over_of hb; clear hb))
            exact bodyPost_ret (v := (Nx.tok t).val) (by simp [results, Tryd.results12, go_sem, Nx.val, Tok.val, tokZero, faultVal]) rfl ⟨rfl, below2_over _ _ _ _⟩
          | bad c p =>
            go_enter Tryd.func12, Tryd.ntmps12
            go_wp2_with (first
              | (go_at_call 11; refine (HG.out _).mono ?_; rintro e w' ⟨rfl, hw'⟩; have hw' := hw'.symm; subst hw')
              | (go_at_call 22; refine (HLo.out _).mono ?_; rintro e w' ⟨rfl, hw'⟩; have hw' := hw'.symm; subst hw')
              | (go_at_call 23; refine (HUp.out _).mono ?_; rintro e w' ⟨rfl, hw'⟩; have hw' := hw'.symm; subst hw')
              | (go_at_call 25; refine (HBe.out _).mono ?_; rintro e w' ⟨rfl, hw'⟩; have hw' := hw'.symm; subst hw')
              | (go_at_call 24; refine (HK.out _ (HL.out.kept (below2 _ _ _))).mono ?_; unfold Nx.val Tok.val tokZero faultVal; rintro e w' ⟨rfl, hb⟩; obtain ⟨x, rfl⟩ := over_of hb; clear hb))
            exact bodyPost_ret (v := (Nx.bad c p).val) (by simp [results, Tryd.results12, go_sem, Nx.val, Tok.val, tokZero, faultVal]) rfl ⟨rfl, below2_over _ _ _ _⟩
        have e95 : (b == 95) = false := by simpa using h95
        rw [e95] at hw
        generalize bLow b = lo at *
        generalize bUp b = up at *
        cases lo with
        | true =>
          clear hw
          have HK : Hid (∀ W, LexLaid W → Calls Tryd.prog 24 #[.string s, .int .i64 g] W fun e w' => e = .returned X.val ∧ Below W.heap.size W w') := fun W hW => by rw [← hX]; exact word_any s g W hs hlt hword
          clear hX
          cases X with
          | tok t =>
            go_enter Tryd.func12, Tryd.ntmps12
            go_wp2_with (first
              | (go_at_call 11; refine (HG.out _).mono ?_; rintro e w' ⟨rfl, hw'⟩; have hw' := hw'.symm; subst hw')
              | (go_at_call 22; refine (HLo.out _).mono ?_; rintro e w' ⟨rfl, hw'⟩; have hw' := hw'.symm; subst hw')
              | (go_at_call 23; refine (HUp.out _).mono ?_; rintro e w' ⟨rfl, hw'⟩; have hw' := hw'.symm; subst hw')
              | (go_at_call 25; refine (HBe.out _).mono ?_; rintro e w' ⟨rfl, hw'⟩; have hw' := hw'.symm; subst hw')
              | (go_at_call 24; refine (HK.out _ (HL.out.kept (below2 _ _ _))).mono ?_; unfold Nx.val Tok.val tokZero faultVal; rintro e w' ⟨rfl, hb⟩; obtain ⟨x, rfl⟩ := over_of hb; clear hb))
            exact bodyPost_ret (v := (Nx.tok t).val) (by simp [results, Tryd.results12, go_sem, Nx.val, Tok.val, tokZero, faultVal]) rfl ⟨rfl, below2_over _ _ _ _⟩
          | bad c p =>
            go_enter Tryd.func12, Tryd.ntmps12
            go_wp2_with (first
              | (go_at_call 11; refine (HG.out _).mono ?_; rintro e w' ⟨rfl, hw'⟩; have hw' := hw'.symm; subst hw')
              | (go_at_call 22; refine (HLo.out _).mono ?_; rintro e w' ⟨rfl, hw'⟩; have hw' := hw'.symm; subst hw')
              | (go_at_call 23; refine (HUp.out _).mono ?_; rintro e w' ⟨rfl, hw'⟩; have hw' := hw'.symm; subst hw')
              | (go_at_call 25; refine (HBe.out _).mono ?_; rintro e w' ⟨rfl, hw'⟩; have hw' := hw'.symm; subst hw')
              | (go_at_call 24; refine (HK.out _ (HL.out.kept (below2 _ _ _))).mono ?_; unfold Nx.val Tok.val tokZero faultVal; rintro e w' ⟨rfl, hb⟩; obtain ⟨x, rfl⟩ := over_of hb; clear hb))
            exact bodyPost_ret (v := (Nx.bad c p).val) (by simp [results, Tryd.results12, go_sem, Nx.val, Tok.val, tokZero, faultVal]) rfl ⟨rfl, below2_over _ _ _ _⟩
        | false =>
          cases up with
          | true =>
            clear hw
            have HK : Hid (∀ W, LexLaid W → Calls Tryd.prog 24 #[.string s, .int .i64 g] W fun e w' => e = .returned X.val ∧ Below W.heap.size W w') := fun W hW => by rw [← hX]; exact word_any s g W hs hlt hword
            clear hX
            cases X with
            | tok t =>
              go_enter Tryd.func12, Tryd.ntmps12
              go_wp2_with (first
                | (go_at_call 11; refine (HG.out _).mono ?_; rintro e w' ⟨rfl, hw'⟩; have hw' := hw'.symm; subst hw')
                | (go_at_call 22; refine (HLo.out _).mono ?_; rintro e w' ⟨rfl, hw'⟩; have hw' := hw'.symm; subst hw')
                | (go_at_call 23; refine (HUp.out _).mono ?_; rintro e w' ⟨rfl, hw'⟩; have hw' := hw'.symm; subst hw')
                | (go_at_call 25; refine (HBe.out _).mono ?_; rintro e w' ⟨rfl, hw'⟩; have hw' := hw'.symm; subst hw')
                | (go_at_call 24; refine (HK.out _ (HL.out.kept (below2 _ _ _))).mono ?_; unfold Nx.val Tok.val tokZero faultVal; rintro e w' ⟨rfl, hb⟩; obtain ⟨x, rfl⟩ := over_of hb; clear hb))
              exact bodyPost_ret (v := (Nx.tok t).val) (by simp [results, Tryd.results12, go_sem, Nx.val, Tok.val, tokZero, faultVal]) rfl ⟨rfl, below2_over _ _ _ _⟩
            | bad c p =>
              go_enter Tryd.func12, Tryd.ntmps12
              go_wp2_with (first
                | (go_at_call 11; refine (HG.out _).mono ?_; rintro e w' ⟨rfl, hw'⟩; have hw' := hw'.symm; subst hw')
                | (go_at_call 22; refine (HLo.out _).mono ?_; rintro e w' ⟨rfl, hw'⟩; have hw' := hw'.symm; subst hw')
                | (go_at_call 23; refine (HUp.out _).mono ?_; rintro e w' ⟨rfl, hw'⟩; have hw' := hw'.symm; subst hw')
                | (go_at_call 25; refine (HBe.out _).mono ?_; rintro e w' ⟨rfl, hw'⟩; have hw' := hw'.symm; subst hw')
                | (go_at_call 24; refine (HK.out _ (HL.out.kept (below2 _ _ _))).mono ?_; unfold Nx.val Tok.val tokZero faultVal; rintro e w' ⟨rfl, hb⟩; obtain ⟨x, rfl⟩ := over_of hb; clear hb))
              exact bodyPost_ret (v := (Nx.bad c p).val) (by simp [results, Tryd.results12, go_sem, Nx.val, Tok.val, tokZero, faultVal]) rfl ⟨rfl, below2_over _ _ _ _⟩
          | false => cases hw
      have hwf : (bLow b || (bUp b || b == 95)) = false := by simpa using hw
      rw [hT, if_neg (by rw [hwf]; simp)]
      have e95 : (b == 95) = false := by
        cases h : b == 95 with
        | false => rfl
        | true => rw [h] at hwf; simp at hwf
      have elo : bLow b = false := by
        cases h : bLow b with
        | false => rfl
        | true => rw [h] at hwf; simp at hwf
      have eup : bUp b = false := by
        cases h : bUp b with
        | false => rfl
        | true => rw [h] at hwf; simp at hwf
      rw [elo] at HLo
      rw [eup] at HUp
      clear hT hw0 hw hwf elo eup
      cases hbe : begB (s.extract g s.size) with
      | true =>
        rw [if_pos rfl]
        rw [hbe] at HBe
        obtain ⟨X, hX⟩ : ∃ X, intX s g = X := ⟨_, rfl⟩
        rw [hX]
        clear hbe hes
        have HK : Hid (∀ W, LexLaid W → Calls Tryd.prog 26 #[.string s, .int .i64 g] W fun e w' => e = .returned X.val ∧ Below W.heap.size W w') := fun W hW => by rw [← hX]; exact integer_any s g W hs hlt hW
        clear hX
        cases X with
        | tok t =>
          go_enter Tryd.func12, Tryd.ntmps12
          go_wp2_with (first
            | (go_at_call 11; refine (HG.out _).mono ?_; rintro e w' ⟨rfl, hw'⟩; have hw' := hw'.symm; subst hw')
            | (go_at_call 22; refine (HLo.out _).mono ?_; rintro e w' ⟨rfl, hw'⟩; have hw' := hw'.symm; subst hw')
            | (go_at_call 23; refine (HUp.out _).mono ?_; rintro e w' ⟨rfl, hw'⟩; have hw' := hw'.symm; subst hw')
            | (go_at_call 25; refine (HBe.out _).mono ?_; rintro e w' ⟨rfl, hw'⟩; have hw' := hw'.symm; subst hw')
            | (go_at_call 26; refine (HK.out _ (HL.out.kept (below2 _ _ _))).mono ?_; unfold Nx.val Tok.val tokZero faultVal; rintro e w' ⟨rfl, hb⟩; obtain ⟨x, rfl⟩ := over_of hb; clear hb))
          exact bodyPost_ret (v := (Nx.tok t).val) (by simp [results, Tryd.results12, go_sem, Nx.val, Tok.val, tokZero, faultVal]) rfl ⟨rfl, below2_over _ _ _ _⟩
        | bad c p =>
          go_enter Tryd.func12, Tryd.ntmps12
          go_wp2_with (first
            | (go_at_call 11; refine (HG.out _).mono ?_; rintro e w' ⟨rfl, hw'⟩; have hw' := hw'.symm; subst hw')
            | (go_at_call 22; refine (HLo.out _).mono ?_; rintro e w' ⟨rfl, hw'⟩; have hw' := hw'.symm; subst hw')
            | (go_at_call 23; refine (HUp.out _).mono ?_; rintro e w' ⟨rfl, hw'⟩; have hw' := hw'.symm; subst hw')
            | (go_at_call 25; refine (HBe.out _).mono ?_; rintro e w' ⟨rfl, hw'⟩; have hw' := hw'.symm; subst hw')
            | (go_at_call 26; refine (HK.out _ (HL.out.kept (below2 _ _ _))).mono ?_; unfold Nx.val Tok.val tokZero faultVal; rintro e w' ⟨rfl, hb⟩; obtain ⟨x, rfl⟩ := over_of hb; clear hb))
          exact bodyPost_ret (v := (Nx.bad c p).val) (by simp [results, Tryd.results12, go_sem, Nx.val, Tok.val, tokZero, faultVal]) rfl ⟨rfl, below2_over _ _ _ _⟩
      | false =>
        rw [if_neg (by simp)]
        rw [hbe] at HBe
        clear hbe hes
        by_cases h34 : b = 34
        · rw [if_pos h34]
          subst h34
          obtain ⟨X, hX⟩ : ∃ X, textX s g = X := ⟨_, rfl⟩
          rw [hX]
          have HK : Hid (∀ W, LexLaid W → Calls Tryd.prog 27 #[.string s, .int .i64 g] W fun e w' => e = .returned X.val ∧ Below W.heap.size W w') := fun W hW => by rw [← hX]; exact text_any s g W hs hlt hW
          clear hX
          cases X with
          | tok t =>
            go_enter Tryd.func12, Tryd.ntmps12
            go_wp2_with (first
              | (go_at_call 11; refine (HG.out _).mono ?_; rintro e w' ⟨rfl, hw'⟩; have hw' := hw'.symm; subst hw')
              | (go_at_call 22; refine (HLo.out _).mono ?_; rintro e w' ⟨rfl, hw'⟩; have hw' := hw'.symm; subst hw')
              | (go_at_call 23; refine (HUp.out _).mono ?_; rintro e w' ⟨rfl, hw'⟩; have hw' := hw'.symm; subst hw')
              | (go_at_call 25; refine (HBe.out _).mono ?_; rintro e w' ⟨rfl, hw'⟩; have hw' := hw'.symm; subst hw')
              | (go_at_call 27; refine (HK.out _ (HL.out.kept (below2 _ _ _))).mono ?_; unfold Nx.val Tok.val tokZero faultVal; rintro e w' ⟨rfl, hb⟩; obtain ⟨x, rfl⟩ := over_of hb; clear hb))
            exact bodyPost_ret (v := (Nx.tok t).val) (by simp [results, Tryd.results12, go_sem, Nx.val, Tok.val, tokZero, faultVal]) rfl ⟨rfl, below2_over _ _ _ _⟩
          | bad c p =>
            go_enter Tryd.func12, Tryd.ntmps12
            go_wp2_with (first
              | (go_at_call 11; refine (HG.out _).mono ?_; rintro e w' ⟨rfl, hw'⟩; have hw' := hw'.symm; subst hw')
              | (go_at_call 22; refine (HLo.out _).mono ?_; rintro e w' ⟨rfl, hw'⟩; have hw' := hw'.symm; subst hw')
              | (go_at_call 23; refine (HUp.out _).mono ?_; rintro e w' ⟨rfl, hw'⟩; have hw' := hw'.symm; subst hw')
              | (go_at_call 25; refine (HBe.out _).mono ?_; rintro e w' ⟨rfl, hw'⟩; have hw' := hw'.symm; subst hw')
              | (go_at_call 27; refine (HK.out _ (HL.out.kept (below2 _ _ _))).mono ?_; unfold Nx.val Tok.val tokZero faultVal; rintro e w' ⟨rfl, hb⟩; obtain ⟨x, rfl⟩ := over_of hb; clear hb))
            exact bodyPost_ret (v := (Nx.bad c p).val) (by simp [results, Tryd.results12, go_sem, Nx.val, Tok.val, tokZero, faultVal]) rfl ⟨rfl, below2_over _ _ _ _⟩
        · rw [if_neg h34]
          have e34 : (b == 34) = false := by simpa using h34
          obtain ⟨X, hX⟩ : ∃ X, punctX s g = X := ⟨_, rfl⟩
          rw [hX]
          have HK : Hid (∀ W, LexLaid W → Calls Tryd.prog 28 #[.string s, .int .i64 g] W fun e w' => e = .returned X.val ∧ Below W.heap.size W w') := fun W hW => by rw [← hX]; exact punct_any s g W hs hlt hW
          clear hX
          cases X with
          | tok t =>
            go_enter Tryd.func12, Tryd.ntmps12
            go_wp2_with (first
              | (go_at_call 11; refine (HG.out _).mono ?_; rintro e w' ⟨rfl, hw'⟩; have hw' := hw'.symm; subst hw')
              | (go_at_call 22; refine (HLo.out _).mono ?_; rintro e w' ⟨rfl, hw'⟩; have hw' := hw'.symm; subst hw')
              | (go_at_call 23; refine (HUp.out _).mono ?_; rintro e w' ⟨rfl, hw'⟩; have hw' := hw'.symm; subst hw')
              | (go_at_call 25; refine (HBe.out _).mono ?_; rintro e w' ⟨rfl, hw'⟩; have hw' := hw'.symm; subst hw')
              | (go_at_call 28; refine (HK.out _ (HL.out.kept (below2 _ _ _))).mono ?_; unfold Nx.val Tok.val tokZero faultVal; rintro e w' ⟨rfl, hb⟩; obtain ⟨x, rfl⟩ := over_of hb; clear hb))
            exact bodyPost_ret (v := (Nx.tok t).val) (by simp [results, Tryd.results12, go_sem, Nx.val, Tok.val, tokZero, faultVal]) rfl ⟨rfl, below2_over _ _ _ _⟩
          | bad c p =>
            go_enter Tryd.func12, Tryd.ntmps12
            go_wp2_with (first
              | (go_at_call 11; refine (HG.out _).mono ?_; rintro e w' ⟨rfl, hw'⟩; have hw' := hw'.symm; subst hw')
              | (go_at_call 22; refine (HLo.out _).mono ?_; rintro e w' ⟨rfl, hw'⟩; have hw' := hw'.symm; subst hw')
              | (go_at_call 23; refine (HUp.out _).mono ?_; rintro e w' ⟨rfl, hw'⟩; have hw' := hw'.symm; subst hw')
              | (go_at_call 25; refine (HBe.out _).mono ?_; rintro e w' ⟨rfl, hw'⟩; have hw' := hw'.symm; subst hw')
              | (go_at_call 28; refine (HK.out _ (HL.out.kept (below2 _ _ _))).mono ?_; unfold Nx.val Tok.val tokZero faultVal; rintro e w' ⟨rfl, hb⟩; obtain ⟨x, rfl⟩ := over_of hb; clear hb))
            exact bodyPost_ret (v := (Nx.bad c p).val) (by simp [results, Tryd.results12, go_sem, Nx.val, Tok.val, tokZero, faultVal]) rfl ⟨rfl, below2_over _ _ _ _⟩
    · obtain rfl : g = s.size := by omega
      rw [show tokAt s s.size = .tok ⟨0, ⟨#[]⟩, 0, 0, s.size, s.size⟩ from dif_neg hlt]
      go_enter Tryd.func12, Tryd.ntmps12
      go_wp2_with (go_at_call 11; refine (HG.out _).mono ?_; rintro e w' ⟨rfl, hw'⟩; have hw' := hw'.symm; subst hw')
      exact bodyPost_ret (v := (Nx.tok ⟨0, ⟨#[]⟩, 0, 0, s.size, s.size⟩).val) (by simp [results, Tryd.results12, go_sem, Nx.val, Tok.val, faultVal]) rfl ⟨rfl, below2 _ _ _⟩

end Go.Proofs.YtplldgkdjainlaaDoor
