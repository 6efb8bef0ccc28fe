/- What spells of edicttop answers at a token that stands. -/
import Derived.Test.YtplldgkdjainlaaDoorProg
import Derived.Test.YtplldgkdjainlaaDoorTopSpW
import Derived.Test.YtplldgkdjainlaaDoorTopSpI
import Derived.Test.YtplldgkdjainlaaDoorTopSpT
import Derived.Test.YtplldgkdjainlaaDoorTopSpP
import Derived.Test.YtplldgkdjainlaaDoorTopQuoP
import Derived.Test.YtplldgkdjainlaaDoorLexLocal
import Derived.Test.YtplldgkdjainlaaDoorLexChain2
namespace Go.Proofs.YtplldgkdjainlaaDoor
set_option linter.unusedSimpArgs false
set_option linter.unusedVariables false
open Go.RowKit

theorem ext_listT (s : ByteArray) (g n : Nat) (h : g + n ≤ s.size) : (s.extract g (g + n)).data.toList = (rest s g).take n := by
  rw [ByteArray.data_extract, Array.toList_extract, List.extract_eq_take_drop]
  unfold rest
  rw [show g + n - g = n by omega]
theorem ext_prefix {s : ByteArray} {g : Nat} {b : List UInt8} (hg : g ≤ s.size) (h : Lib.hasPrefix (rest s g) b = true) : g + b.length ≤ s.size ∧ s.extract g (g + b.length) = ⟨b.toArray⟩ := by
  have h1 : b <+: rest s g := List.isPrefixOf_iff_prefix.1 h
  obtain ⟨r, hr⟩ := h1
  have hl : b.length ≤ (rest s g).length := by rw [← hr, List.length_append]; omega
  rw [rest_len] at hl
  have h3 : g + b.length ≤ s.size := by omega
  refine ⟨h3, ?_⟩
  apply bytes_ext
  rw [ext_listT s g _ h3, ← hr, List.take_left']
  · rfl
/-- The answer wanted of spells. -/
def Spells (s : ByteArray) (t : Tok) (w : World) : Prop :=
  Calls Tryd.prog 14 #[.string (s.extract t.off t.en), .agg #[.int .i64 t.k, .string t.t, .int .i64 t.n, .int .i64 t.op, .int .i64 (t.off : Int), .int .i64 (t.en : Int)]] w fun e w' => e = .returned (.bool true) ∧ Below w.heap.size w w'

theorem sp_punct {s : ByteArray} {g : Nat} {t : Tok} (w : World) (ht : TopLaid w) (hg : g ≤ s.size) (h : punctX s g = .tok t) : Spells s t w := by
  unfold punctX at h
  cases hp : punctL marksT (rest s g) with
  | none => rw [hp] at h; cases h
  | some x =>
    obtain ⟨n, k, op⟩ := x
    rw [hp] at h
    unfold punctOf at h
    injection h with h
    subst h
    unfold Spells
    show Calls _ _ #[.string (s.extract g (g + n)), _] _ _
    unfold marksT at hp
    simp only [punctL] at hp
    repeat' split at hp
    all_goals first
      | (cases hp; done)
      | cases hp
    all_goals
      rename_i h1
      rw [(ext_prefix hg h1).2]
    · exact sp_mark9 _ _ w ht
    · exact sp_op2 _ _ w ht
    · exact sp_op4 _ _ w ht
    · exact sp_op6 _ _ w ht
    · exact sp_op3 _ _ w ht
    · exact sp_op5 _ _ w ht
    · exact sp_op1 _ _ w ht
    · exact sp_mark5 _ _ w ht
    · exact sp_mark6 _ _ w ht
    · exact sp_mark7 _ _ w ht
    · exact sp_mark8 _ _ w ht

theorem sp_wordX {s : ByteArray} {g : Nat} {t : Tok} (w : World) (ht : TopLaid w) (hg : g < s.size) (hb : (bLow (s[g].toNat : Int) || (bUp (s[g].toNat : Int) || (s[g].toNat : Int) == 95)) = true) (h : wordX s g = .tok t) : Spells s t w := by
  have hm := (runC_iff (rest s g) _).1 rfl
  rw [rest_len] at hm
  obtain ⟨m, hme⟩ : ∃ m, m = runC (rest s g) := ⟨_, rfl⟩
  rw [← hme] at hm
  have hm1 : 1 ≤ m := by
    rw [hme, rest_cons s g hg]
    unfold runC
    rw [if_pos (by unfold bWord; revert hb; cases bLow (s[g].toNat : Int) <;> cases bUp (s[g].toNat : Int) <;> cases ((s[g].toNat : Int) == 95) <;> simp)]
    omega
  have hz : (s.extract g (g + m)).size = m := by rw [ByteArray.size_extract]; omega
  have hget : ∀ (i : Nat) (h : i < (s.extract g (g + m)).size), ∃ h' : g + i < s.size, (s.extract g (g + m))[i] = s[g + i] := fun i h => by
    obtain ⟨h1, e⟩ := extract_get s g (g + m) i (by omega) (by omega)
    exact ⟨by omega, e⟩
  have hw : ∀ (i : Nat) (h : i < (s.extract g (g + m)).size), bWord ((s.extract g (g + m))[i].toNat : Int) = true := fun i h => by
    obtain ⟨h', e⟩ := hget i h
    rw [e]
    refine hm.2.1 i s[g + i] (by omega) ?_
    unfold rest
    rw [List.getElem?_drop, Array.getElem?_toList]
    exact Array.getElem?_eq_getElem h'
  have h0 : 0 < (s.extract g (g + m)).size := by omega
  have hq0 : (s.extract g (g + m))[0] = s[g] := (hget 0 h0).2
  have hd : bDig ((s.extract g (g + m))[0].toNat : Int) = false := by
    rw [hq0]
    revert hb
    unfold bLow bUp bDig
    simp only [Bool.or_eq_true, Bool.and_eq_true, decide_eq_true_eq, beq_iff_eq, Bool.and_eq_false_iff, decide_eq_false_iff_not]
    omega
  unfold wordX at h
  simp only at h
  rw [← hme] at h
  split at h
  · cases h
  · next h64 =>
    split at h
    · next hn =>
      injection h with h
      subst h
      unfold Spells
      show Calls _ _ #[.string (s.extract g (g + m)), _] _ _
      have e1 : s.extract g (g + m) = ⟨#[110, 111, 116]⟩ := by
        apply bytes_ext
        rw [← ByteArray.toList_eq]
        simpa using hn
      rw [e1]
      exact sp_mark10 _ _ w ht
    · next hn =>
      have hn' : ((s.extract g (g + m)).toList == [110, 111, 116]) = false := by simpa using hn
      have hb0 : ((s.extract g (g + m)).data[0]!).toNat = s[g].toNat := by
        have : (s.extract g (g + m)).data[0]! = (s.extract g (g + m))[0] := getElem!_pos _ _ _
        rw [this, hq0]
      split at h
      · next hl =>
        injection h with h
        subst h
        rw [hb0] at hl
        refine sp_word1 (s.extract g (g + m)) _ _ w h0 (by omega) hw hd ?_ hn'
        rw [hq0]
        unfold bLow at hl
        simpa using hl
      · next hl =>
        injection h with h
        subst h
        rw [hb0] at hl
        refine sp_word2 (s.extract g (g + m)) _ _ w h0 (by omega) hw hd ?_ hn'
        rw [hq0]
        unfold bLow at hl
        simpa using hl

theorem sp_textX {s : ByteArray} {g : Nat} {t : Tok} (w : World) (hs : s.size ≤ 140737488351232) (hg : g < s.size) (h34 : (s[g].toNat : Int) = 34) (h : textX s g = .tok t) : Spells s t w := by
  obtain ⟨V, e1, e2, ⟨e3, e4⟩, e5, e6, e7⟩ := textF_qsp s g _ (g + 1) [] t rfl (by omega) (by simp) h
  simp only [List.nil_append] at e1 e5
  have hoff : t.off = g := by rw [e1]
  have hz : (s.extract g t.en).size = t.en - g := by rw [ByteArray.size_extract]; omega
  obtain ⟨a1, a2⟩ := extract_get s g t.en 0 (by omega) (by omega)
  obtain ⟨b1, b2⟩ := extract_get s g t.en (t.en - g - 1) (by omega) (by omega)
  unfold Spells
  rw [hoff]
  have hk : t.k = 4 := by rw [e1]
  have htt : t.t = strOf V := by rw [e1]
  have hn : t.n = 0 := by rw [e1]
  have ho : t.op = 0 := by rw [e1]
  rw [hk, htt, hn, ho]
  refine sp_text (s.extract g t.en) (s.extract g (t.en - 1)) V _ _ w (by omega) (by omega) ?_ ?_ ?_ e6 e5 ?_
  · apply bytes_ext
    rw [ByteArray.data_extract, ByteArray.data_extract, ByteArray.data_extract, Array.toList_extract, Array.toList_extract, Array.toList_extract, List.extract_eq_take_drop, List.extract_eq_take_drop, List.extract_eq_take_drop, List.drop_zero, List.take_take]
    congr 1
    rw [hz]
    omega
  · rw [a2]; exact h34
  · have hzz : (s.extract g t.en).size - 1 = t.en - g - 1 := by omega
    simp only [hzz]
    rw [b2]
    have hx : g + (t.en - g - 1) = t.en - 1 := by omega
    simp only [hx]
    exact e4
  · rw [show g + 1 - g = 1 by omega] at e7
    exact e7
end Go.Proofs.YtplldgkdjainlaaDoor
