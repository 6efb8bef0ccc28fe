/- What spells of edicttop answers at whatever token stands at a place. -/
import Derived.Test.YtplldgkdjainlaaDoorProg
import Derived.Test.YtplldgkdjainlaaDoorTopSp
namespace Go.Proofs.YtplldgkdjainlaaDoor
set_option linter.unusedSimpArgs false
set_option linter.unusedVariables false
open Go.RowKit

theorem allD_dig {q : ByteArray} {l : List UInt8} (h : AllD l) {j : Nat} {b : UInt8} (hb : l[j]? = some b) : bDig (b.toNat : Int) = true := by
  have := h b (List.mem_of_getElem? hb)
  unfold bDig
  simp only [Bool.and_eq_true, decide_eq_true_eq]
  omega
theorem sp_intX {s : ByteArray} {g : Nat} {t : Tok} (w : World) (hs : s.size ≤ 140737488351232) (hg : g < s.size) (hb : begB (s.extract g s.size) = true) (h : intX s g = .tok t) : Spells s t w := by
  have hr := runC_le (rest s (g + 1))
  rw [rest_len] at hr
  obtain ⟨en, hen⟩ : ∃ en, en = g + 1 + runC (rest s (g + 1)) := ⟨_, rfl⟩
  unfold intX at h
  rw [← hen] at h
  cases hp : Lib.parseIntB 64 (s.extract g en).data.toList with
  | ok v =>
    rw [hp] at h
    injection h with h
    subst h
    unfold Spells
    show Calls _ _ #[.string (s.extract g en), _] _ _
    have hz : (s.extract g en).size = en - g := by rw [ByteArray.size_extract]; omega
    obtain ⟨a1, a2⟩ := extract_get s g en 0 (by omega) (by omega)
    simp only [Nat.add_zero] at a2
    obtain ⟨c, r, hcr⟩ : ∃ c r, (s.extract g en).data.toList = c :: r := by
      cases hq : (s.extract g en).data.toList with
      | nil => have : (s.extract g en).data.toList.length = (s.extract g en).size := rfl; rw [hq] at this; simp at this; omega
      | cons c r => exact ⟨c, r, rfl⟩
    have hc0 : c = s[g] := by
      have := tt_at (s.extract g en) 0 a1
      rw [hcr, a2] at this
      exact Option.some.inj this
    rw [beg_rest, rest_cons s g hg] at hb
    unfold begL at hb
    simp only [List.getElem?_cons_zero, Option.getD_some, Bool.or_eq_true, Bool.and_eq_true, beq_iff_eq, decide_eq_true_eq] at hb
    rcases hb with hb | ⟨h45, hb1, hb2⟩
    · have hcd : 48 ≤ c.toNat ∧ c.toNat ≤ 57 := by
        rw [hc0]
        unfold bDig at hb
        simp only [Bool.and_eq_true, decide_eq_true_eq] at hb
        omega
      have hI := int_pos _ c r hcr hcd
      have hD : AllD (s.extract g en).data.toList := by
        by_cases hx : AllD (s.extract g en).data.toList ∧ numA 0 (s.extract g en).data.toList ≤ 9223372036854775807
        · exact hx.1
        · exact absurd hp (hI.2 hx v)
      refine sp_int_pos (s.extract g en) v _ _ w (by omega) (by omega) ?_ (fun i h _ => allD_dig (q := s) hD (tt_at _ i h)) hD hp
      rw [a2, ← hc0]
      omega
    · simp only [List.length_cons, List.getElem?_cons_succ] at hb1 hb2
      have hg1 : g + 1 < s.size := by rw [rest_len] at hb1; omega
      have hrun : 1 ≤ runC (rest s (g + 1)) := by
        rw [rest_cons s (g + 1) hg1] at hb2 ⊢
        simp only [List.getElem?_cons_zero, Option.getD_some] at hb2
        unfold runC
        rw [if_pos (by unfold bWord; rw [hb2]; simp)]
        omega
      have hT : ((s.extract g en).extract 1 (s.extract g en).size).data.toList = r := by
        rw [ByteArray.data_extract, Array.toList_extract, List.extract_eq_take_drop, hcr, List.take_of_length_le]
        · rfl
        · have : (s.extract g en).data.toList.length = (s.extract g en).size := rfl
          rw [hcr] at this
          simp only [List.length_cons] at this
          simp
          omega
      have hc45 : c.toNat = 45 := by rw [hc0]; omega
      have hrn : r ≠ [] := by
        intro h
        have : (s.extract g en).data.toList.length = (s.extract g en).size := rfl
        rw [hcr, h] at this
        simp at this
        omega
      have hI := int_neg _ c r hcr hc45 hrn
      have hD : AllD r := by
        by_cases hx : AllD r ∧ numA 0 r ≤ 9223372036854775808
        · exact hx.1
        · exact absurd hp (hI.2 hx v)
      refine sp_int_neg (s.extract g en) v _ _ w (by omega) (by omega) ?_ (fun i h hi => ?_) (by rw [hT]; exact hD) hp
      · rw [a2, ← hc0]; exact hc45
      · have h1 := tt_at _ i h
        rw [hcr] at h1
        obtain ⟨j, rfl⟩ : ∃ j, i = j + 1 := ⟨i - 1, by omega⟩
        rw [List.getElem?_cons_succ] at h1
        exact allD_dig (q := s) hD h1
  | _ => rw [hp] at h; cases h

theorem sp_tok {s : ByteArray} {g : Nat} {t : Tok} (w : World) (hs : s.size ≤ 140737488351232) (ht : TopLaid w) (h : tokAt s g = .tok t) (h0 : t.k ≠ 0) : Spells s t w := by
  unfold tokAt at h
  split at h
  · next hlt =>
    split at h
    · next hb => exact sp_wordX w ht hlt hb h
    · split at h
      · next hb => exact sp_intX w hs hlt hb h
      · split at h
        · next h34 => exact sp_textX w hs hlt h34 h
        · exact sp_punct w ht (by omega) h
  · injection h with h
    subst h
    exact absurd rfl h0
end Go.Proofs.YtplldgkdjainlaaDoor
