/- A constant is the only one with its text. -/
import Derived.Test.YtoppnjpajeipdaaGreatDoorProg
import Derived.Test.YtoppnjpajeipdaaGreatDoorUnqPure
import Derived.Test.YtoppnjpajeipdaaGreatDoorSymTextOwn
import Derived.Test.YtoppnjpajeipdaaGreatDoorDecRead
namespace Go.Proofs.YtoppnjpajeipdaaGreatDoor
set_option linter.unusedSimpArgs false
set_option linter.unusedVariables false
open Go.RowKit

theorem esc_cancel {b b' : Int} {l l' : List Int} (hb : 0 ≤ b ∧ b ≤ 255) (hb' : 0 ≤ b' ∧ b' ≤ 255) (e : escI b ++ l = escI b' ++ l') : b = b' ∧ l = l' := by
  have h1 := spl_esc hb
  have h2 := spl_esc hb'
  generalize escI b = m at *
  generalize escI b' = m' at *
  cases h1 with
  | plain g1 g2 g3 g4 =>
    cases h2 with
    | plain q1 q2 q3 q4 => simpa using e
    | two c h => simp at e; omega
    | hex p k hh hk => simp at e; omega
  | two c h =>
    cases h2 with
    | plain q1 q2 q3 q4 => simp at e; omega
    | two c' h' =>
      simp at e
      exact ⟨by omega, e.2⟩
    | hex p k hh hk => simp at e; omega
  | hex p k hh hk =>
    cases h2 with
    | plain q1 q2 q3 q4 => simp at e; omega
    | two c' h' => simp at e; omega
    | hex p' k' hh' hk' =>
      simp at e
      obtain ⟨rfl, rfl, rfl⟩ := e
      rw [hh] at hh'
      rw [hk] at hk'
      simp at hh' hk'
      exact ⟨by omega, rfl⟩

theorem esc_head {b : Int} (hb : 0 ≤ b ∧ b ≤ 255) : ∃ x r, escI b = x :: r ∧ x ≠ 34 ∧ x ≠ 10 ∧ 32 ≤ x ∧ x ≤ 126 := by
  have h1 := spl_esc hb
  generalize escI b = m at *
  cases h1 with
  | plain g1 g2 g3 g4 => exact ⟨_, _, rfl, g3, by omega, g1, g2⟩
  | two c h => exact ⟨_, _, rfl, by decide, by decide, by decide, by decide⟩
  | hex p k hh hk => exact ⟨_, _, rfl, by decide, by decide, by decide, by decide⟩

theorem flat_cancel : ∀ {T T' : List Int}, Byt T → Byt T' → T.flatMap escI ++ [34] = T'.flatMap escI ++ [34] → T = T'
  | [], [], _, _, _ => rfl
  | [], b :: r, _, h, e => by
    obtain ⟨x, m, hx, h34, _⟩ := esc_head (h b (by simp))
    rw [List.flatMap_cons, hx] at e
    simp at e
  | b :: r, [], h, _, e => by
    obtain ⟨x, m, hx, h34, _⟩ := esc_head (h b (by simp))
    rw [List.flatMap_cons, hx] at e
    simp at e
  | b :: r, b' :: r', h, h', e => by
    rw [List.flatMap_cons, List.flatMap_cons, List.append_assoc, List.append_assoc] at e
    obtain ⟨rfl, e2⟩ := esc_cancel (h b (by simp)) (h' b' (by simp)) e
    rw [flat_cancel (fun x hx => h x (by simp [hx])) (fun x hx => h' x (by simp [hx])) e2]

theorem hexI_ge (k : Nat) : 0 ≤ hexI k ∧ hexI k ≤ 255 := by
  unfold hexI
  split
  · have := (hexS[k]).toNat_lt; omega
  · decide
theorem escI_byt {b : Int} (hb : 0 ≤ b ∧ b ≤ 255) : Byt (escI b) := by
  have h1 := spl_esc hb
  intro x hx
  unfold escI at hx
  repeat' split at hx
  all_goals simp only [List.mem_cons, List.not_mem_nil, or_false] at hx
  all_goals first | (rcases hx with rfl | rfl | rfl | rfl <;> first | omega | exact hexI_ge _) | (rcases hx with rfl | rfl <;> omega) | omega
theorem flat_byt {T : List Int} (h : Byt T) : Byt (T.flatMap escI) := by
  intro x hx
  obtain ⟨b, hb, hx⟩ := List.mem_flatMap.1 hx
  exact escI_byt (h b hb) x hx
theorem quot_byt (s : ByteArray) : Byt (quotI s) := by
  intro x hx
  unfold quotI at hx
  simp only [List.cons_append, List.mem_cons, List.mem_append, List.not_mem_nil, or_false] at hx
  rcases hx with rfl | hx | rfl
  · decide
  · exact flat_byt (intsOf_byt s) x hx
  · decide
theorem ints_quot (s : ByteArray) : intsOf (strOf (quotI s)) = 34 :: ((intsOf s).flatMap escI ++ [34]) := by
  rw [intsOf_strOf (quot_byt s)]; rfl

/-- The first byte of a constant's text tells its kind. -/
theorem text_int {c : Con} (hv : validC c = true) (hk : c.k = 1) : textC c = ⟨(Lib.itoa c.n).toArray⟩ ∧ c.s = ⟨#[]⟩ := by
  refine ⟨by unfold textC; rw [if_pos hv, if_pos hk], ?_⟩
  unfold validC at hv
  rw [if_pos hk] at hv
  have h : c.s.toList = [] := by simpa using hv
  apply bytes_ext
  rw [ByteArray.toList_eq] at h
  rw [h]
theorem text_name {c : Con} (hv : validC c = true) (hk : c.k = 2) : textC c = c.s ∧ c.n = 0 ∧ isNameL c.s.toList = true := by
  refine ⟨by unfold textC; rw [if_pos hv, if_neg (by omega), if_pos hk], ?_⟩
  unfold validC at hv
  rw [if_neg (by omega), if_pos hk] at hv
  simpa using hv
theorem text_text {c : Con} (hv : validC c = true) (hk : c.k = 3) : textC c = strOf (quotI c.s) ∧ c.n = 0 ∧ c.s.size ≤ 255 := by
  refine ⟨by unfold textC; rw [if_pos hv, if_neg (by omega), if_neg (by omega)], ?_⟩
  unfold validC at hv
  rw [if_neg (by omega), if_neg (by omega), if_pos hk] at hv
  simpa using hv
theorem name_head {s : ByteArray} (h : isNameL s.toList = true) : ∃ h0 : 0 < s.size, 97 ≤ s[0].toNat ∧ s[0].toNat ≤ 122 := by
  unfold isNameL at h
  simp only [Bool.and_eq_true] at h
  obtain ⟨h1, h2, _⟩ := h
  unfold isWordL at h1
  simp only [Bool.and_eq_true, decide_eq_true_eq] at h1
  have h0 : 0 < s.size := by have := h1.1; rw [ByteArray.toList_eq] at this; have hl : s.data.toList.length = s.size := rfl; omega
  refine ⟨h0, ?_⟩
  unfold headN lowN at h2
  rw [ByteArray.toList_eq] at h2
  have hh : s.data.toList[0]? = some s[0] := by rw [List.getElem?_eq_getElem (by simpa using h0)]; rfl
  cases hd : s.data.toList with
  | nil => rw [hd] at hh; simp at hh
  | cons b r =>
    rw [hd] at hh h2
    simp at hh h2
    rw [← hh]; omega
theorem itoa_ints (n : Int) : intsOf ⟨(Lib.itoa n).toArray⟩ = (Lib.itoa n).map fun b => (b.toNat : Int) := by
  unfold intsOf; simp

theorem text_inj {c d : Con} (hc : c.ok) (hd : d.ok) (vc : validC c = true) (vd : validC d = true) (e : textC c = textC d) : c = d := by
  have fst : ∀ {a : Con}, validC a = true → ∃ x r, intsOf (textC a) = x :: r ∧ ((a.k = 1 ∧ (x = 45 ∨ (48 ≤ x ∧ x ≤ 57))) ∨ (a.k = 2 ∧ 97 ≤ x ∧ x ≤ 122) ∨ (a.k = 3 ∧ x = 34)) := by
    intro a va
    rcases valid_kind va with hk | hk | ⟨hk, _⟩
    · obtain ⟨e1, _⟩ := text_int va hk
      obtain ⟨b, r, hb, hx⟩ := itoa_head a.n
      refine ⟨(b.toNat : Int), r.map fun b => (b.toNat : Int), ?_, .inl ⟨hk, by omega⟩⟩
      rw [e1, itoa_ints, hb]; rfl
    · obtain ⟨e1, _, hn⟩ := text_name va hk
      obtain ⟨h0, h1⟩ := name_head hn
      cases hi : intsOf (textC a) with
      | nil => rw [e1] at hi; have := congrArg List.length hi; rw [intsOf_len, List.length_nil] at this; omega
      | cons x r =>
        rw [e1] at hi
        obtain ⟨_, hx⟩ := head_at hi
        exact ⟨x, r, rfl, .inr (.inl ⟨hk, by rw [← hx]; omega, by rw [← hx]; omega⟩)⟩
    · obtain ⟨e1, _⟩ := text_text va hk
      exact ⟨34, _, by rw [e1, ints_quot], .inr (.inr ⟨hk, rfl⟩)⟩
  obtain ⟨x, r, hx, kx⟩ := fst vc
  obtain ⟨y, q, hy, ky⟩ := fst vd
  have hxy : x = y := by rw [e, hy] at hx; simp at hx; exact hx.1.symm
  subst hxy
  clear hx hy fst
  obtain ⟨k, n, s⟩ := c
  obtain ⟨k', n', s'⟩ := d
  rcases kx with ⟨h1, hx⟩ | ⟨h1, hx⟩ | ⟨h1, hx⟩
  · rcases ky with ⟨h2, hy⟩ | ⟨h2, hy⟩ | ⟨h2, hy⟩
    · obtain ⟨e1, s1⟩ := text_int vc h1
      obtain ⟨e2, s2⟩ := text_int vd h2
      rw [e1, e2] at e
      have e3 : Lib.itoa n = Lib.itoa n' := by
        have := congrArg (fun b : ByteArray => b.data.toList) e
        simpa using this
      have p1 := itoa_parse n hc.2.1
      have p2 := itoa_parse n' hd.2.1
      rw [e3, p2] at p1
      simp at p1
      dsimp only at s1 s2 h1 h2
      rw [h1, h2, p1, s1, s2]
    · omega
    · omega
  · rcases ky with ⟨h2, hy⟩ | ⟨h2, hy⟩ | ⟨h2, hy⟩
    · omega
    · obtain ⟨e1, n1, _⟩ := text_name vc h1
      obtain ⟨e2, n2, _⟩ := text_name vd h2
      rw [e1, e2] at e
      dsimp only at *
      rw [h1, h2, n1, n2, e]
    · omega
  · rcases ky with ⟨h2, hy⟩ | ⟨h2, hy⟩ | ⟨h2, hy⟩
    · omega
    · omega
    · obtain ⟨e1, n1, _⟩ := text_text vc h1
      obtain ⟨e2, n2, _⟩ := text_text vd h2
      rw [e1, e2] at e
      have e3 := congrArg intsOf e
      rw [ints_quot, ints_quot] at e3
      have e4 := flat_cancel (intsOf_byt _) (intsOf_byt _) (List.cons.inj e3).2
      have e5 := intsOf_inj e4
      dsimp only at *
      rw [h1, h2, n1, n2, e5]

/-- c is the only constant that s could be the text of. -/
def Onl (s : ByteArray) (c : Con) : Prop := ∀ d : Con, d.ok → validC d = true → textC d = s → d = c
/-- What reading a text answers. -/
def ReadR (s : ByteArray) (c : Con) (e : Int) : Prop :=
  (e = 0 ∧ c.ok ∧ validC c = true ∧ textC c = s) ∨ (e = 5 ∧ c = ⟨0, 0, ⟨#[]⟩⟩ ∧ ∀ d : Con, d.ok → validC d = true → textC d ≠ s)

theorem text_size {d : Con} (hd : d.ok) (hv : validC d = true) : 0 < (textC d).size ∧ (textC d).size ≤ 1022 := by
  rcases valid_kind hv with hk | hk | ⟨hk, _⟩
  · obtain ⟨e1, _⟩ := text_int hv hk
    obtain ⟨b, r, hb, _⟩ := itoa_head d.n
    have := Lib.itoa_length_le d.n hd.2.1.1 hd.2.1.2
    rw [e1]
    have hs : (⟨(Lib.itoa d.n).toArray⟩ : ByteArray).size = (Lib.itoa d.n).length := by simp [ByteArray.size]
    rw [hs]
    refine ⟨by rw [hb]; simp, by omega⟩
  · obtain ⟨e1, _, hn⟩ := text_name hv hk
    obtain ⟨h0, _⟩ := name_head hn
    rw [e1]
    unfold isNameL isWordL at hn
    simp only [Bool.and_eq_true, decide_eq_true_eq] at hn
    have := hn.1.2.1
    rw [ByteArray.toList_eq] at this
    have hl : d.s.data.toList.length = d.s.size := rfl
    exact ⟨h0, by omega⟩
  · obtain ⟨e1, _, hs⟩ := text_text hv hk
    rw [e1, strOf_size]
    unfold quotI
    have := escs_len (intsOf d.s)
    rw [intsOf_len] at this
    rw [List.length_append, List.length_cons, List.length_singleton]; omega
theorem readR_uniq {s : ByteArray} {c d : Con} {e f : Int} (h1 : ReadR s c e) (h2 : ReadR s d f) : c = d ∧ e = f := by
  rcases h1 with ⟨rfl, hc, vc, tc⟩ | ⟨rfl, rfl, hn⟩
  · rcases h2 with ⟨rfl, hd, vd, td⟩ | ⟨rfl, rfl, hn⟩
    · exact ⟨text_inj hc hd vc vd (tc.trans td.symm), rfl⟩
    · exact absurd tc (hn c hc vc)
  · rcases h2 with ⟨rfl, hd, vd, td⟩ | ⟨rfl, rfl, _⟩
    · exact absurd td (hn d hd vd)
    · exact ⟨rfl, rfl⟩
end Go.Proofs.YtoppnjpajeipdaaGreatDoor
