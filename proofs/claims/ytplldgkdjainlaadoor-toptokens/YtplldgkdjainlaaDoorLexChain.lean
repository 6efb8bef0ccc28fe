/- A gap, cut off where it ends, is the same gap; the tokens of a text as a chain: no program in sight. -/
import Derived.Test.YtplldgkdjainlaaDoorBlankPure
import Derived.Test.YtplldgkdjainlaaDoorLexScan
namespace Go.Proofs.YtplldgkdjainlaaDoor
set_option linter.unusedSimpArgs false
set_option linter.unusedVariables false
open Go.RowKit

theorem lineC_take : ∀ (l : List UInt8) (j : Nat), lineC l ≤ j → lineC (l.take j) = lineC l
  | [], _, _ => by simp
  | b :: r, 0, h => by
    unfold lineC at h
    split at h
    · next hb => rw [List.take_zero]; unfold lineC; rw [if_pos hb]
    · omega
  | b :: r, j + 1, h => by
    rw [List.take_succ_cons]
    unfold lineC at h ⊢
    split
    · rfl
    · next hb =>
      rw [if_neg hb] at h
      rw [lineC_take r j (by omega)]

theorem opens_take {l : List UInt8} {m : Nat} (h : 2 ≤ m) : opens (l.take m) = opens l := by
  match l, m, h with
  | [], m, _ => simp
  | [a], m + 2, _ => simp
  | a :: b :: r, m + 2, _ => rw [List.take_succ_cons, List.take_succ_cons]; rfl
theorem closes_take {l : List UInt8} {m : Nat} (h : 2 ≤ m) : closes (l.take m) = closes l := by
  match l, m, h with
  | [], m, _ => simp
  | [a], m + 2, _ => simp
  | a :: b :: r, m + 2, _ => rw [List.take_succ_cons, List.take_succ_cons]; rfl

theorem blockC_take : ∀ (n : Nat) (l : List UInt8) (d j m : Nat), l.length = n → blockC d l = some j → j ≤ m → blockC d (l.take m) = some j := by
  intro n
  induction n using Nat.strongRecOn with
  | ind n ih =>
    intro l d j m hl h hm
    have hj := blockC_le _ _ _ h
    cases ho : opens l with
    | true =>
      rw [blockC_open ho] at h
      obtain ⟨x, hx, rfl⟩ := Option.map_eq_some_iff.1 h
      rw [blockC_open (by rw [opens_take (by omega)]; exact ho), List.drop_take, ih (l.drop 2).length (by simp; omega) (l.drop 2) (d + 1) x (m - 2) rfl hx (by omega)]
      rfl
    | false =>
      cases hc : closes l with
      | true =>
        rw [blockC_close hc] at h
        rw [blockC_close (by rw [closes_take (by omega)]; exact hc)]
        split
        · next h1 => rw [if_pos h1] at h; exact h
        · next h1 =>
          rw [if_neg h1] at h
          obtain ⟨x, hx, rfl⟩ := Option.map_eq_some_iff.1 h
          rw [List.drop_take, ih (l.drop 2).length (by simp; omega) (l.drop 2) (d - 1) x (m - 2) rfl hx (by omega)]
          rfl
      | false =>
        rw [blockC_else ho hc] at h
        obtain ⟨x, hx, rfl⟩ := Option.map_eq_some_iff.1 h
        rw [blockC_else (by rw [opens_take (by omega)]; exact ho) (by rw [closes_take (by omega)]; exact hc), List.drop_take, ih (l.drop 1).length (by simp; omega) (l.drop 1) d x (m - 1) rfl hx (by omega)]
        rfl

theorem item_take {l : List UInt8} {k m : Nat} (h : item l = .go k) (hk : k ≤ m) (h0 : 0 < k) : item (l.take m) = .go k := by
  match l, m, h, hk with
  | [], _, h, _ => cases h
  | a :: r, 0, _, hk => omega
  | a :: r, m + 1, h, hk =>
    rw [List.take_succ_cons, item_cons]
    rw [item_cons] at h
    split
    · next hb => rw [if_pos hb] at h; exact h
    · next hb =>
      rw [if_neg hb] at h
      split
      · next h37 =>
        rw [if_pos h37] at h
        injection h with h
        rw [lineC_take r m (by omega), h]
      · next h37 =>
        rw [if_neg h37] at h
        split at h
        · next ho =>
          have ho' : opens (a :: r.take m) = true := by
            have h2 : 2 ≤ m + 1 := by
              cases hbc : blockC 1 (r.drop 1) with
              | none => rw [hbc] at h; cases h
              | some x => rw [hbc] at h; injection h with h; omega
            have := opens_take (l := a :: r) h2
            rw [List.take_succ_cons] at this
            rw [this]; exact ho
          rw [if_pos ho']
          cases hbc : blockC 1 (r.drop 1) with
          | none => rw [hbc] at h; cases h
          | some x =>
            rw [hbc] at h
            injection h with h
            have := blockC_take _ (r.drop 1) 1 x (m - 1) rfl hbc (by omega)
            rw [List.drop_take, this]
            exact congrArg Item.go h
        · cases h

theorem gapN_len : ∀ (l : List UInt8), (gapN l).1 ≤ l.length := by
  intro l
  generalize hn : l.length = n
  induction n using Nat.strongRecOn generalizing l with
  | ind n ih =>
    rw [gapN]
    split
    · exact Nat.zero_le _
    · exact Nat.zero_le _
    · split
      · next k hk h =>
        have := ih (l.drop k).length (by simp; omega) (l.drop k) rfl
        simp only [List.length_drop] at this
        simp only
        omega
      · exact Nat.zero_le _

theorem gap_take : ∀ (N : Nat) (l : List UInt8) (n : Nat), l.length = N → gapN l = (n, true) → gapN (l.take n) = (n, true) := by
  intro N
  induction N using Nat.strongRecOn with
  | ind N ih =>
    intro l n hl h
    cases hi : item l with
    | stop => rw [gapN_stop hi] at h; cases h; rw [List.take_zero]; exact gapN_stop rfl
    | bad => rw [gapN_bad hi] at h; cases h
    | go k =>
      by_cases hk : 0 < k ∧ k ≤ l.length
      · rw [gapN_go hi hk.1 hk.2] at h
        have h1 : (gapN (l.drop k)).1 + k = n := congrArg Prod.fst h
        have h2 : (gapN (l.drop k)).2 = true := congrArg Prod.snd h
        have hd := ih (l.drop k).length (by simp; omega) (l.drop k) (gapN (l.drop k)).1 rfl (Prod.ext rfl h2)
        have hle : n ≤ l.length := by
          have := gapN_len (l.drop k)
          simp at this
          omega
        rw [gapN_go (item_take hi (by omega) hk.1) hk.1 (by rw [List.length_take]; omega), List.drop_take, show n - k = (gapN (l.drop k)).1 by omega, hd]
        exact Prod.ext h1 rfl
      · rw [gapN, hi] at h
        simp only at h
        rw [dif_neg hk] at h
        cases h
        rw [List.take_zero]; exact gapN_stop rfl

end Go.Proofs.YtplldgkdjainlaaDoor
