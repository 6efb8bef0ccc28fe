/- A gap that goes over a whole text goes on behind a line feed: no program in sight. -/
import Derived.Test.YtplldgkdjainlaaDoorLexChain2
namespace Go.Proofs.YtplldgkdjainlaaDoor
set_option linter.unusedSimpArgs false
set_option linter.unusedVariables false
open Go.RowKit

theorem lineC_append (r : List UInt8) : ∀ l : List UInt8, lineC (l ++ 10 :: r) = lineC l
  | [] => rfl
  | b :: l => by
    rw [List.cons_append]
    unfold lineC
    rw [lineC_append r l]

theorem opens_append {l r : List UInt8} (h : 2 ≤ l.length) : opens (l ++ r) = opens l := by
  match l, h with
  | a :: b :: l, _ => rfl
theorem closes_append {l r : List UInt8} (h : 2 ≤ l.length) : closes (l ++ r) = closes l := by
  match l, h with
  | a :: b :: l, _ => rfl

theorem blockC_append (r : List UInt8) : ∀ (n : Nat) (l : List UInt8) (d j : Nat), l.length = n → blockC d l = some j → blockC d (l ++ r) = some j := by
  intro n
  induction n using Nat.strongRecOn with
  | ind n ih =>
    intro l d j hl h
    have hj := blockC_le _ _ _ h
    have hdrop : ∀ k, k ≤ l.length → (l ++ r).drop k = l.drop k ++ r := fun k hk => List.drop_append_of_le_length hk
    cases ho : opens l with
    | true =>
      rw [blockC_open ho] at h
      obtain ⟨x, hx, rfl⟩ := Option.map_eq_some_iff.1 h
      rw [blockC_open (by rw [opens_append (by omega)]; exact ho), hdrop 2 (by omega), ih (l.drop 2).length (by simp; omega) (l.drop 2) (d + 1) x rfl hx]
      rfl
    | false =>
      cases hc : closes l with
      | true =>
        rw [blockC_close hc] at h
        rw [blockC_close (by rw [closes_append (by omega)]; exact hc)]
        split
        · next h1 => rw [if_pos h1] at h; exact h
        · next h1 =>
          rw [if_neg h1] at h
          obtain ⟨x, hx, rfl⟩ := Option.map_eq_some_iff.1 h
          rw [hdrop 2 (by omega), ih (l.drop 2).length (by simp; omega) (l.drop 2) (d - 1) x rfl hx]
          rfl
      | false =>
        rw [blockC_else ho hc] at h
        obtain ⟨x, hx, rfl⟩ := Option.map_eq_some_iff.1 h
        rw [blockC_else (by rw [opens_append (by omega)]; exact ho) (by rw [closes_append (by omega)]; exact hc), hdrop 1 (by omega), ih (l.drop 1).length (by simp; omega) (l.drop 1) d x rfl hx]
        rfl

theorem item_append {l r : List UInt8} {k : Nat} (h : item l = .go k) : item (l ++ 10 :: r) = .go k := by
  match l, h with
  | [], h => cases h
  | a :: l, h =>
    rw [List.cons_append, item_cons]
    rw [item_cons] at h
    split
    · next hb => rw [if_pos hb] at h; exact h
    · next hb =>
      rw [if_neg hb] at h
      split
      · next h37 =>
        rw [if_pos h37] at h
        rw [lineC_append]; exact h
      · next h37 =>
        rw [if_neg h37] at h
        split at h
        · next ho =>
          have h2 := opens_len ho
          have ho' : opens (a :: (l ++ 10 :: r)) = true := by
            have := opens_append (r := 10 :: r) h2
            rw [List.cons_append] at this
            rw [this]; exact ho
          rw [if_pos ho']
          cases hbc : blockC 1 (l.drop 1) with
          | none => rw [hbc] at h; cases h
          | some x =>
            rw [hbc] at h
            simp at h2
            rw [List.drop_append_of_le_length (by omega), blockC_append _ _ (l.drop 1) 1 x rfl hbc]
            exact h
        · cases h

theorem gap_append (r : List UInt8) : ∀ (N : Nat) (l : List UInt8), l.length = N → gapN l = (l.length, true) → gapN (l ++ 10 :: r) = (l.length + (gapN (10 :: r)).1, (gapN (10 :: r)).2) := by
  intro N
  induction N using Nat.strongRecOn with
  | ind N ih =>
    intro l hl h
    cases hi : item l with
    | stop =>
      rw [gapN_stop hi] at h
      have h0 : l.length = 0 := (congrArg Prod.fst h).symm
      obtain rfl := List.length_eq_zero_iff.1 h0
      exact Prod.ext (by simp) rfl
    | bad => rw [gapN_bad hi] at h; have := congrArg Prod.snd h; cases this
    | go k =>
      by_cases hk : 0 < k ∧ k ≤ l.length
      · rw [gapN_go hi hk.1 hk.2] at h
        have h1 : (gapN (l.drop k)).1 + k = l.length := congrArg Prod.fst h
        have h2 : (gapN (l.drop k)).2 = true := congrArg Prod.snd h
        have hd := ih (l.drop k).length (by simp; omega) (l.drop k) rfl (Prod.ext (by simp; omega) h2)
        rw [gapN_go (item_append hi) hk.1 (by simp; omega), List.drop_append_of_le_length hk.2, hd]
        exact Prod.ext (by simp; omega) rfl
      · rw [gapN, hi] at h
        simp only at h
        rw [dif_neg hk] at h
        have h0 : l.length = 0 := (congrArg Prod.fst h).symm
        obtain rfl := List.length_eq_zero_iff.1 h0
        exact Prod.ext (by simp) rfl

theorem gap_feed (l : List UInt8) : gapN (10 :: l) = ((gapN l).1 + 1, (gapN l).2) := gapN_go (l := 10 :: l) (k := 1) (by rfl) (by omega) (by simp)

/-- src, a line feed, the name a, a line feed, src. -/
def twice (s : ByteArray) : ByteArray := s ++ ⟨#[10, 97, 10]⟩ ++ s

theorem twice_rest (s : ByteArray) : rest (twice s) 0 = s.data.toList ++ 10 :: 97 :: 10 :: s.data.toList := by
  unfold rest twice
  rw [List.drop_zero, ByteArray.data_append, ByteArray.data_append]
  simp
theorem twice_size (s : ByteArray) : (twice s).size = 2 * s.size + 3 := by
  unfold twice
  rw [ByteArray.size_append, ByteArray.size_append]
  have : (⟨#[10, 97, 10]⟩ : ByteArray).size = 3 := rfl
  omega

theorem twice_from (s : ByteArray) (k : Nat) : rest (twice s) k = (s.data.toList ++ 10 :: 97 :: 10 :: s.data.toList).drop k := by
  rw [← twice_rest]
  unfold rest
  rw [List.drop_zero]

theorem twice_scan (s : ByteArray) (h : gapN s.data.toList = (s.size, true)) (hs : 2 * s.size + 3 ≤ 65536) :
    scanX (twice s) = ([⟨1, ⟨#[97]⟩, 0, 0, s.size + 1, s.size + 2⟩, endTok (2 * s.size + 3)], 0, 0) := by
  have hsz := twice_size s
  have hlen : s.data.toList.length = s.size := by simp
  have hg0 : gapW (twice s) 0 = (s.size + 1, true) := by
    unfold gapW
    rw [twice_rest, gap_append _ _ _ rfl (by rw [hlen]; exact h), gap_feed, hlen, gapN_stop (by rfl)]
    exact Prod.ext (by simp) rfl
  have r1 : rest (twice s) (s.size + 1) = 97 :: 10 :: s.data.toList := by
    rw [twice_from, List.drop_append, List.drop_of_length_le (by simp), hlen]
    simp
  have r2 : rest (twice s) (s.size + 2) = 10 :: s.data.toList := by
    rw [twice_from, List.drop_append, List.drop_of_length_le (by simp), hlen]
    simp
  have hlt : s.size + 1 < (twice s).size := by omega
  have b0 : (twice s)[s.size + 1] = 97 := by
    have := rest_cons (twice s) (s.size + 1) hlt
    rw [r1] at this
    injection this with this
    exact this.symm
  have hb : ((twice s)[s.size + 1].toNat : Int) = 97 := by rw [b0]; rfl
  have hrun : runC (rest (twice s) (s.size + 1)) = 1 := by
    rw [r1]
    unfold runC
    rw [if_pos (by rfl)]
    unfold runC
    rw [if_neg (by decide)]
  have hex : (twice s).extract (s.size + 1) (s.size + 1 + 1) = ⟨#[97]⟩ := by
    apply ByteArray.ext
    apply Array.ext'
    rw [ByteArray.data_extract, Array.toList_extract, List.extract_eq_take_drop]
    have : (twice s).data.toList.drop (s.size + 1) = 97 :: 10 :: s.data.toList := r1
    rw [this, show s.size + 1 + 1 - (s.size + 1) = 1 by omega]; rfl
  have n1 : nextX (twice s) 0 = .tok ⟨1, ⟨#[97]⟩, 0, 0, s.size + 1, s.size + 2⟩ := by
    unfold nextX
    rw [hg0]
    simp only [if_true]
    unfold tokAt
    rw [dif_pos hlt, if_pos (by rw [hb]; rfl)]
    unfold wordX
    simp only [hrun]
    rw [if_neg (by omega)]
    simp only [hex]
    rw [if_neg (by rw [ByteArray.toList_eq]; decide), if_pos (by rfl)]
  have hg1 : gapW (twice s) (s.size + 2) = (2 * s.size + 3, true) := by
    unfold gapW
    rw [r2, gap_feed, h]
    exact Prod.ext (by simp; omega) rfl
  have n2 : nextX (twice s) (s.size + 2) = .tok (endTok (2 * s.size + 3)) := by
    unfold nextX
    rw [hg1]
    simp only [if_true]
    unfold tokAt
    rw [dif_neg (by omega)]
    rfl
  unfold scanX eachX
  rw [if_neg (by omega), eachF_go n1 (by simp) (by simp) (by simp only; omega), eachF_stop n2 (.inr rfl)]
  rfl

/-- Nothing but a gap: the end is all that Scan lists. -/
theorem idle_iff (s : ByteArray) : ((scanX s).2.1 = 0 ∧ (scanX s).1.length = 1) ↔ blankW s 0 (s.size : Int) = true := by
  by_cases hs : 65536 < s.size
  · have e1 : scanX s = ([], 1, 0) := if_pos hs
    have e2 : blankW s 0 (s.size : Int) = false := if_neg (by omega)
    rw [e1, e2]
    simp
  · have e2 : blankW s 0 (s.size : Int) = ((gapN (pieceL s 0 s.size)).2 && decide (0 + (gapN (pieceL s 0 s.size)).1 = s.size)) := if_pos ⟨by omega, by omega, by omega, by omega⟩
    have hp : pieceL s 0 s.size = rest s 0 := by
      unfold pieceL rest
      rw [List.take_of_length_le (by simp)]
    rw [e2, hp]
    have T := scan_toks s (by omega)
    constructor
    · rintro ⟨h1, h2⟩
      match hL : (scanX s).1, h2 with
      | [t], _ =>
        rw [hL] at T
        obtain ⟨n1, h3⟩ := T.step
        rcases h3 with ⟨h4, _⟩ | ⟨h4, T2⟩
        · obtain ⟨a1, a2, _, a3⟩ := next_tok (Nat.zero_le _) n1
          have a4 : t.off = s.size := by rcases a3 with ⟨_, b, _⟩ | ⟨b, _⟩ <;> omega
          have a5 : (gapN (rest s 0)).2 = true := a1
          have a6 : (gapW s 0).1 = 0 + (gapN (rest s 0)).1 := rfl
          rw [a5]
          simp only [Bool.true_and, decide_eq_true_eq]
          omega
        · have := T2.stop
          have := next_bad this
          omega
    · intro h
      simp only [Bool.and_eq_true, decide_eq_true_eq] at h
      have hg : gapW s 0 = (s.size, true) := Prod.ext (by show 0 + _ = _; omega) h.1
      have n1 : nextX s 0 = .tok (endTok s.size) := by
        unfold nextX
        rw [hg]
        simp only [if_true]
        unfold tokAt
        rw [dif_neg (by omega)]
        rfl
      have : scanX s = ([endTok s.size], 0, 0) := by
        unfold scanX eachX
        rw [if_neg hs, eachF_stop n1 (.inr rfl)]
        rfl
      rw [this]
      exact ⟨rfl, rfl⟩

theorem blank_gapN (s : ByteArray) (h : blankW s 0 (s.size : Int) = true) : gapN s.data.toList = (s.size, true) := by
  unfold blankW at h
  split at h
  · have hp : pieceL s (0 : Int).toNat (s.size : Int).toNat = s.data.toList := by
      unfold pieceL
      simp
      exact List.take_of_length_le (by simp)
    rw [hp] at h
    simp only [Bool.and_eq_true, decide_eq_true_eq] at h
    exact Prod.ext (by have := h.2; simp at this; exact this) h.1
  · cases h

end Go.Proofs.YtplldgkdjainlaaDoor
