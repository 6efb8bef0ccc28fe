/- What the document's sign answers: as lex.punctuation. -/
import Derived.Test.YtojgfngpndmfoaaDoorProg
import Derived.Test.YtojgfngpndmfoaaDoorRefWord
import Derived.Test.YtojgfngpndmfoaaDoorRefGap
import Derived.Test.YtojgfngpndmfoaaDoorLexPunct
namespace Go.Proofs.YtojgfngpndmfoaaDoor
set_option linter.unusedSimpArgs false
set_option linter.unusedVariables false
open Go.RowKit
attribute [local go_sem] over_cellAt over_frozenAt over_setAt

theorem pre_two (s : ByteArray) (o : Nat) (a b : UInt8) : Lib.hasPrefix (rest s o) [a, b] = ((twoS s o).toList == [a, b]) := by
  rw [two_list]
  unfold Lib.hasPrefix
  split
  · next h =>
    rw [rest_cons s o (by omega), rest_cons s (o + 1) (by omega)]
    show ((a == _) && ((b == _) && true)) = ((_ == a) && ((_ == b) && true))
    rw [Bool.beq_comm (a := a), Bool.beq_comm (a := b)]
  · next h =>
    by_cases h1 : o < s.size
    · rw [rest_cons s o h1, rest_end s (o + 1) (by omega)]
      show ((a == _) && false) = false
      simp
    · rw [rest_end s o (by omega)]; rfl

theorem pre_one (s : ByteArray) (o : Nat) (ho : o < s.size) (a : UInt8) : Lib.hasPrefix (rest s o) [a] = (((s[o]'ho).toNat : Int) == (a.toNat : Int)) := by
  rw [rest_cons s o ho]
  show ((a == s[o]) && true) = _
  rw [Bool.and_true, Bool.eq_iff_iff]
  simp only [beq_iff_eq]
  constructor
  · rintro rfl; rfl
  · intro h
    exact (UInt8.toNat_inj.1 (by omega)).symm

theorem punct_sign (s : ByteArray) (o : Nat) (ho : o < s.size) (P : ByteArray) (hP : P = twoS s o) (b : Int) (hb : b = ((s[o]'ho).toNat : Int)) :
    punctX s o = if P.toList == [58, 45] then .tok ⟨9, ⟨#[]⟩, 0, 0, o, o + 2⟩
      else if P.toList == [33, 61] then .tok ⟨11, ⟨#[]⟩, 0, 2, o, o + 2⟩
      else if P.toList == [60, 61] then .tok ⟨11, ⟨#[]⟩, 0, 4, o, o + 2⟩
      else if P.toList == [62, 61] then .tok ⟨11, ⟨#[]⟩, 0, 6, o, o + 2⟩
      else if b == 60 then .tok ⟨11, ⟨#[]⟩, 0, 3, o, o + 1⟩
      else if b == 62 then .tok ⟨11, ⟨#[]⟩, 0, 5, o, o + 1⟩
      else if b == 61 then .tok ⟨11, ⟨#[]⟩, 0, 1, o, o + 1⟩
      else if b == 40 then .tok ⟨5, ⟨#[]⟩, 0, 0, o, o + 1⟩
      else if b == 41 then .tok ⟨6, ⟨#[]⟩, 0, 0, o, o + 1⟩
      else if b == 44 then .tok ⟨7, ⟨#[]⟩, 0, 0, o, o + 1⟩
      else if b == 46 then .tok ⟨8, ⟨#[]⟩, 0, 0, o, o + 1⟩
      else .bad 10 o := by
  subst hP hb
  unfold punctX marksT
  simp only [punctL, pre_two, pre_one s o ho]
  repeat rw [apply_ite (punctOf o)]
  rfl

set_option maxHeartbeats 4000000 in
set_option maxRecDepth 100000 in
theorem rsign_any (s : ByteArray) (o : Nat) (w : World) (hs : s.size ≤ 140737488351232) (ho : o < s.size) :
    Calls Tryd.prog 36 #[.string s, .int .i64 o] w fun e w' => e = .returned (punctX s o).val ∧ Below w.heap.size w w' := by
  have HT := hide (fun W => two_any s o W hs (by omega))
  obtain ⟨P, hP⟩ : ∃ P, P = twoS s o := ⟨_, rfl⟩
  obtain ⟨b, hb⟩ : ∃ b : Int, b = (s[o].toNat : Int) := ⟨_, rfl⟩
  rw [punct_sign s o ho P hP b hb]
  rw [← hP] at HT
  clear hP
  replace hb := hb.symm
  have ho' : (o : Int) < (s.size : Int) := by omega
  have hbb : 0 ≤ b ∧ b ≤ 255 := by have := s[o].toNat_lt; omega
  cases p0 : P.toList == [58, 45] with
  | true =>
    rw [if_pos rfl]
    go_enter Tryd.func36, Tryd.ntmps36
    go_wp2_with (go_at_call 27; refine (HT.out _).mono ?_; rintro e w' ⟨rfl, hw'⟩; have hw' := hw'.symm; subst hw')
    exact bodyPost_ret (v := (Nx.tok ⟨9, ⟨#[]⟩, 0, 0, o, o + 2⟩).val) (by simp [results, Tryd.results36, go_sem, Nx.val, Tok.val, faultVal]) rfl ⟨rfl, below3 _ _ _ _⟩
  | false =>
  rw [if_neg (by simp)]
  cases p1 : P.toList == [33, 61] with
  | true =>
    rw [if_pos rfl]
    go_enter Tryd.func36, Tryd.ntmps36
    go_wp2_with (go_at_call 27; refine (HT.out _).mono ?_; rintro e w' ⟨rfl, hw'⟩; have hw' := hw'.symm; subst hw')
    exact bodyPost_ret (v := (Nx.tok ⟨11, ⟨#[]⟩, 0, 2, o, o + 2⟩).val) (by simp [results, Tryd.results36, go_sem, Nx.val, Tok.val, faultVal]) rfl ⟨rfl, below3 _ _ _ _⟩
  | false =>
  rw [if_neg (by simp)]
  cases p2 : P.toList == [60, 61] with
  | true =>
    rw [if_pos rfl]
    go_enter Tryd.func36, Tryd.ntmps36
    go_wp2_with (go_at_call 27; refine (HT.out _).mono ?_; rintro e w' ⟨rfl, hw'⟩; have hw' := hw'.symm; subst hw')
    exact bodyPost_ret (v := (Nx.tok ⟨11, ⟨#[]⟩, 0, 4, o, o + 2⟩).val) (by simp [results, Tryd.results36, go_sem, Nx.val, Tok.val, faultVal]) rfl ⟨rfl, below3 _ _ _ _⟩
  | false =>
  rw [if_neg (by simp)]
  cases p3 : P.toList == [62, 61] with
  | true =>
    rw [if_pos rfl]
    go_enter Tryd.func36, Tryd.ntmps36
    go_wp2_with (go_at_call 27; refine (HT.out _).mono ?_; rintro e w' ⟨rfl, hw'⟩; have hw' := hw'.symm; subst hw')
    exact bodyPost_ret (v := (Nx.tok ⟨11, ⟨#[]⟩, 0, 6, o, o + 2⟩).val) (by simp [results, Tryd.results36, go_sem, Nx.val, Tok.val, faultVal]) rfl ⟨rfl, below3 _ _ _ _⟩
  | false =>
  rw [if_neg (by simp)]
  by_cases q0 : b = 60
  · subst q0
    rw [if_pos (by rfl)]
    go_enter Tryd.func36, Tryd.ntmps36
    go_wp2_with (go_at_call 27; refine (HT.out _).mono ?_; rintro e w' ⟨rfl, hw'⟩; have hw' := hw'.symm; subst hw')
    exact bodyPost_ret (v := (Nx.tok ⟨11, ⟨#[]⟩, 0, 3, o, o + 1⟩).val) (by simp [results, Tryd.results36, go_sem, Nx.val, Tok.val, faultVal]) rfl ⟨rfl, below3 _ _ _ _⟩
  have r0 : (b == 60) = false := by simpa using q0
  rw [if_neg (by rw [r0]; simp)]
  clear q0
  by_cases q1 : b = 62
  · subst q1
    rw [if_pos (by rfl)]
    go_enter Tryd.func36, Tryd.ntmps36
    go_wp2_with (go_at_call 27; refine (HT.out _).mono ?_; rintro e w' ⟨rfl, hw'⟩; have hw' := hw'.symm; subst hw')
    exact bodyPost_ret (v := (Nx.tok ⟨11, ⟨#[]⟩, 0, 5, o, o + 1⟩).val) (by simp [results, Tryd.results36, go_sem, Nx.val, Tok.val, faultVal]) rfl ⟨rfl, below3 _ _ _ _⟩
  have r1 : (b == 62) = false := by simpa using q1
  rw [if_neg (by rw [r1]; simp)]
  clear q1
  by_cases q2 : b = 61
  · subst q2
    rw [if_pos (by rfl)]
    go_enter Tryd.func36, Tryd.ntmps36
    go_wp2_with (go_at_call 27; refine (HT.out _).mono ?_; rintro e w' ⟨rfl, hw'⟩; have hw' := hw'.symm; subst hw')
    exact bodyPost_ret (v := (Nx.tok ⟨11, ⟨#[]⟩, 0, 1, o, o + 1⟩).val) (by simp [results, Tryd.results36, go_sem, Nx.val, Tok.val, faultVal]) rfl ⟨rfl, below3 _ _ _ _⟩
  have r2 : (b == 61) = false := by simpa using q2
  rw [if_neg (by rw [r2]; simp)]
  clear q2
  by_cases q3 : b = 40
  · subst q3
    rw [if_pos (by rfl)]
    go_enter Tryd.func36, Tryd.ntmps36
    go_wp2_with (go_at_call 27; refine (HT.out _).mono ?_; rintro e w' ⟨rfl, hw'⟩; have hw' := hw'.symm; subst hw')
    exact bodyPost_ret (v := (Nx.tok ⟨5, ⟨#[]⟩, 0, 0, o, o + 1⟩).val) (by simp [results, Tryd.results36, go_sem, Nx.val, Tok.val, faultVal]) rfl ⟨rfl, below3 _ _ _ _⟩
  have r3 : (b == 40) = false := by simpa using q3
  rw [if_neg (by rw [r3]; simp)]
  clear q3
  by_cases q4 : b = 41
  · subst q4
    rw [if_pos (by rfl)]
    go_enter Tryd.func36, Tryd.ntmps36
    go_wp2_with (go_at_call 27; refine (HT.out _).mono ?_; rintro e w' ⟨rfl, hw'⟩; have hw' := hw'.symm; subst hw')
    exact bodyPost_ret (v := (Nx.tok ⟨6, ⟨#[]⟩, 0, 0, o, o + 1⟩).val) (by simp [results, Tryd.results36, go_sem, Nx.val, Tok.val, faultVal]) rfl ⟨rfl, below3 _ _ _ _⟩
  have r4 : (b == 41) = false := by simpa using q4
  rw [if_neg (by rw [r4]; simp)]
  clear q4
  by_cases q5 : b = 44
  · subst q5
    rw [if_pos (by rfl)]
    go_enter Tryd.func36, Tryd.ntmps36
    go_wp2_with (go_at_call 27; refine (HT.out _).mono ?_; rintro e w' ⟨rfl, hw'⟩; have hw' := hw'.symm; subst hw')
    exact bodyPost_ret (v := (Nx.tok ⟨7, ⟨#[]⟩, 0, 0, o, o + 1⟩).val) (by simp [results, Tryd.results36, go_sem, Nx.val, Tok.val, faultVal]) rfl ⟨rfl, below3 _ _ _ _⟩
  have r5 : (b == 44) = false := by simpa using q5
  rw [if_neg (by rw [r5]; simp)]
  clear q5
  by_cases q6 : b = 46
  · subst q6
    rw [if_pos (by rfl)]
    go_enter Tryd.func36, Tryd.ntmps36
    go_wp2_with (go_at_call 27; refine (HT.out _).mono ?_; rintro e w' ⟨rfl, hw'⟩; have hw' := hw'.symm; subst hw')
    exact bodyPost_ret (v := (Nx.tok ⟨8, ⟨#[]⟩, 0, 0, o, o + 1⟩).val) (by simp [results, Tryd.results36, go_sem, Nx.val, Tok.val, faultVal]) rfl ⟨rfl, below3 _ _ _ _⟩
  have r6 : (b == 46) = false := by simpa using q6
  rw [if_neg (by rw [r6]; simp)]
  clear q6
  go_enter Tryd.func36, Tryd.ntmps36
  go_wp2_with (first | (go_at_call 27; refine (HT.out _).mono ?_; rintro e w' ⟨rfl, hw'⟩; have hw' := hw'.symm; subst hw') | (go_at_call 17; refine (rfault_any _ _ _).mono ?_; rintro e w' ⟨rfl, hb'⟩; obtain ⟨x, rfl⟩ := over_of hb'; clear hb'))
  exact bodyPost_ret (v := (Nx.bad 10 o).val) (by simp [results, Tryd.results36, go_sem, Nx.val, tokZero, faultVal]) rfl ⟨rfl, below3_over _ _ _ _ _⟩

end Go.Proofs.YtojgfngpndmfoaaDoor
