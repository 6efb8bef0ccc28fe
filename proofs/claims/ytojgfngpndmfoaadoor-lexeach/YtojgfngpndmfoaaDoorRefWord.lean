/- What the document's word answers: as lex.word. -/
import Derived.Test.YtojgfngpndmfoaaDoorProg
import Derived.Test.YtojgfngpndmfoaaDoorRefBytes
namespace Go.Proofs.YtojgfngpndmfoaaDoor
set_option linter.unusedSimpArgs false
set_option linter.unusedVariables false
open Go.RowKit
attribute [local go_sem] over_cellAt over_frozenAt over_setAt

theorem below3_over (w x : World) (o p q : Obj) : Below w.heap.size w (over (((w.alloc o).alloc p).alloc q) x) := ((below2 w o p).alloc (by simp; omega) q).trans ((over_below _ x).mono (by simp; omega))
theorem below3 (w : World) (o p q : Obj) : Below w.heap.size w (((w.alloc o).alloc p).alloc q) := (below2 w o p).alloc (by simp; omega) q

theorem extract_zero (s : ByteArray) (o q : Nat) (ho : o < s.size) (h : o < q) (hq : q ≤ s.size) : (s.extract o q).data[0]! = s[o]'ho := by
  have hz : 0 < (s.extract o q).size := by rw [ByteArray.size_extract]; omega
  have e : (s.extract o q).data.toList = (rest s o).take (q - o) := by
    rw [ByteArray.data_extract, Array.toList_extract, List.extract_eq_take_drop]; rfl
  have h1 : (s.extract o q).data[0]! = (s.extract o q).data[0]'hz := getElem!_pos _ _ _
  have h2 : (s.extract o q).data.toList[0]? = some ((s.extract o q).data[0]'hz) := by
    rw [Array.getElem?_toList]
    exact Array.getElem?_eq_getElem hz
  rw [e, List.getElem?_take_of_lt (by omega), rest_cons s o (by omega)] at h2
  rw [h1]
  exact (Option.some.inj h2).symm

set_option maxHeartbeats 2000000 in
set_option maxRecDepth 100000 in
theorem rword_any (s : ByteArray) (o : Nat) (w : World) (hs : s.size ≤ 140737488351232) (ho : o < s.size) (hw : bWord (s[o].toNat : Int) = true) :
    Calls Tryd.prog 32 #[.string s, .int .i64 o] w fun e w' => e = .returned (wordX s o).val ∧ Below w.heap.size w w' := by
  have hm1 : 1 ≤ runC (rest s o) := by rw [rest_cons s o ho]; unfold runC; rw [if_pos hw]; omega
  have hm2 := runC_le (rest s o)
  rw [rest_len] at hm2
  have HR := hide (fun W => rrun_any s o W hs (by omega))
  have HX : Hid (wordX s o = if 64 < runC (rest s o) then .bad 14 o
    else if (s.extract o (o + runC (rest s o))).toList == [110, 111, 116] then .tok ⟨10, ⟨#[]⟩, 0, 0, o, o + runC (rest s o)⟩
    else if bLow ((s.extract o (o + runC (rest s o))).data[0]!).toNat then .tok ⟨1, s.extract o (o + runC (rest s o)), 0, 0, o, o + runC (rest s o)⟩
    else .tok ⟨2, s.extract o (o + runC (rest s o)), 0, 0, o, o + runC (rest s o)⟩) := rfl
  generalize runC (rest s o) = m at *
  rw [HX.out]
  clear HX
  obtain ⟨q, hq⟩ : ∃ q : Nat, q = o + m := ⟨_, rfl⟩
  have hq1 : (o : Int) < (q : Int) := by omega
  have hq2 : (q : Int) ≤ (s.size : Int) := by omega
  have hq3 : (o : Int) ≤ (q : Int) := by omega
  have ho' : (o : Int) < (s.size : Int) := by omega
  rw [← hq] at HR ⊢
  rw [extract_zero s o q ho (by omega) (by omega)]
  have hbb : (0 : Int) ≤ (s[o].toNat : Int) ∧ (s[o].toNat : Int) ≤ 255 := by have := s[o].toNat_lt; omega
  have HL := hide (fun W => rlow_any (s[o].toNat : Int) W hbb)
  by_cases h64 : 64 < m
  · rw [if_pos h64]
    have g1 : (64 : Int) < (q : Int) - (o : Int) := by omega
    replace hq := hide hq
    clear hbb HL hm1 hm2 h64 hw
    go_enter Tryd.func32, Tryd.ntmps32
    go_wp2_with (first
      | (go_at_call 56; refine (HR.out _).mono ?_; rintro e w' ⟨rfl, hw'⟩; have hw' := hw'.symm; subst hw')
      | (go_at_call 17; refine (rfault_any _ _ _).mono ?_; rintro e w' ⟨rfl, hb⟩; obtain ⟨x, rfl⟩ := over_of hb; clear hb))
    exact bodyPost_ret (v := (Nx.bad 14 o).val) (by simp [results, Tryd.results32, go_sem, Nx.val, tokZero, faultVal]) rfl ⟨rfl, below3_over _ _ _ _ _⟩
  rw [if_neg h64]
  have g1 : ¬ (64 : Int) < (q : Int) - (o : Int) := by omega
  cases hn : (s.extract o q).toList == [110, 111, 116] with
  | true =>
    rw [if_pos rfl]
    have hlow : bLow (s[o].toNat : Int) = true := by
      have h1 : (s.extract o q).toList = [110, 111, 116] := by simpa using hn
      have h2 := extract_zero s o q ho (by omega) (by omega)
      have h3 : (s.extract o q).data[0]! = 110 := by
        rw [ByteArray.toList_eq] at h1
        have : (s.extract o q).data = #[110, 111, 116] := by rw [← Array.toList_inj]; exact h1
        rw [this]; rfl
      rw [h3] at h2
      rw [← h2]; rfl
    rw [hlow] at HL
    replace hq := hide hq
    clear hbb hm1 hm2 h64 hw hlow
    go_enter Tryd.func32, Tryd.ntmps32
    go_wp2_with (first
      | (go_at_call 56; refine (HR.out _).mono ?_; rintro e w' ⟨rfl, hw'⟩; have hw' := hw'.symm; subst hw')
      | (go_at_call 30; refine (HL.out _).mono ?_; rintro e w' ⟨rfl, hw'⟩; have hw' := hw'.symm; subst hw'))
    exact bodyPost_ret (v := (Nx.tok ⟨10, ⟨#[]⟩, 0, 0, o, q⟩).val) (by simp [results, Tryd.results32, go_sem, Nx.val, Tok.val, faultVal]) rfl ⟨rfl, below3 _ _ _ _⟩
  | false =>
    rw [if_neg (by simp)]
    replace hq := hide hq
    clear hm1 hm2 h64 hw hbb
    cases hlow : bLow (s[o].toNat : Int) with
    | true =>
      rw [if_pos rfl]
      rw [hlow] at HL
      clear hlow
      go_enter Tryd.func32, Tryd.ntmps32
      go_wp2_with (first
        | (go_at_call 56; refine (HR.out _).mono ?_; rintro e w' ⟨rfl, hw'⟩; have hw' := hw'.symm; subst hw')
        | (go_at_call 30; refine (HL.out _).mono ?_; rintro e w' ⟨rfl, hw'⟩; have hw' := hw'.symm; subst hw'))
      exact bodyPost_ret (v := (Nx.tok ⟨1, s.extract o q, 0, 0, o, q⟩).val) (by simp [results, Tryd.results32, go_sem, Nx.val, Tok.val, faultVal]) rfl ⟨rfl, below3 _ _ _ _⟩
    | false =>
      rw [if_neg (by simp)]
      rw [hlow] at HL
      clear hlow
      go_enter Tryd.func32, Tryd.ntmps32
      go_wp2_with (first
        | (go_at_call 56; refine (HR.out _).mono ?_; rintro e w' ⟨rfl, hw'⟩; have hw' := hw'.symm; subst hw')
        | (go_at_call 30; refine (HL.out _).mono ?_; rintro e w' ⟨rfl, hw'⟩; have hw' := hw'.symm; subst hw'))
      exact bodyPost_ret (v := (Nx.tok ⟨2, s.extract o q, 0, 0, o, q⟩).val) (by simp [results, Tryd.results32, go_sem, Nx.val, Tok.val, faultVal]) rfl ⟨rfl, below3 _ _ _ _⟩

end Go.Proofs.YtojgfngpndmfoaaDoor
