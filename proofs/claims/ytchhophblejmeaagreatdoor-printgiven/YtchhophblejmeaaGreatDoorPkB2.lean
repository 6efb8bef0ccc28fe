/- Chains of tokens: what stands where, how it ends: no program in sight. A gap that goes over a whole text goes on behind a line feed: no program in sight. A token hangs on its own bytes and on the one behind them: no program in sight. Gaps and chains of tokens in a text that agrees with another one up to a place: no program in sight. Tokens that are spelled, gaps between them: what lex makes of a text that is put together of them. Decimal numerals: what they are read as; the tokens that they are. Bytes of a text and how they are escaped: what the lexer makes of an escape. -/
import Derived.Test.YtchhophblejmeaaGreatDoorLexRow
import Derived.Test.YtchhophblejmeaaGreatDoorLexToks
import Derived.Lib.ItoaMem
import Derived.Lib.ItoaLen

namespace Go.Proofs.YtchhophblejmeaaGreatDoor
set_option linter.unusedSimpArgs false
set_option linter.unusedVariables false
open Go.RowKit

theorem endOf_snoc (t : Tok) : ∀ (l : List Tok) (o : Nat), endOf o (l ++ [t]) = t.en
  | [], _ => rfl
  | x :: r, _ => endOf_snoc t r x.en

theorem toks_at {s : ByteArray} {o : Nat} {L : List Tok} {c : Int} {f : Nat} (h : Toks s o L c f) : ∀ i t, L[i]? = some t → nextX s (endOf o (L.take i)) = .tok t ∧ endOf o (L.take i) ≤ s.size := by
  induction h with
  | bad _ _ => intro i t h; simp at h
  | last h1 h2 h3 =>
    intro i t h
    rcases i with _ | i
    · obtain rfl := Option.some.inj h; exact ⟨h2, h1⟩
    · simp at h
  | more h1 h2 h3 h4 ih =>
    intro i t h
    rcases i with _ | i
    · obtain rfl := Option.some.inj h; exact ⟨h2, h1⟩
    · exact ih i t h

theorem next_end {s : ByteArray} {o : Nat} {t : Tok} (ho : o ≤ s.size) (h : nextX s o = .tok t) (hk : t.k = 0) : t = endTok s.size := by
  have hg := gapW_le s o ho
  unfold nextX at h
  split at h
  · obtain ⟨_, h2⟩ := tokAt_en hg.2 h
    rcases h2 with ⟨_, h3, _⟩ | ⟨h3, _⟩
    · rw [h3] at h
      unfold tokAt at h
      rw [dif_neg (by omega)] at h
      injection h with h
      exact h.symm
    · omega
  · cases h

theorem toks_zero {s : ByteArray} {o : Nat} {L : List Tok} {c : Int} {f : Nat} (h : Toks s o L c f) (hc : c = 0) : f = 0 ∧ 0 < L.length ∧ L[L.length - 1]? = some (endTok s.size) ∧ ∀ i t, L[i]? = some t → i + 1 < L.length → t.k ≠ 0 := by
  induction h with
  | bad h1 h2 => have := next_bad h2; omega
  | last h1 h2 h3 =>
    refine ⟨rfl, by simp, by rw [← next_end h1 h2 h3]; rfl, ?_⟩
    intro i t h hi
    simp at hi
  | more h1 h2 h3 h4 ih =>
    obtain ⟨a, b, d, e⟩ := ih hc
    refine ⟨a, by simp, ?_, ?_⟩
    · rw [← d, List.length_cons, show ∀ n, 0 < n → n + 1 - 1 = (n - 1) + 1 from fun n hn => by omega]
      · rfl
      · exact b
    · intro i t h hi
      rcases i with _ | i
      · obtain rfl := Option.some.inj h; exact h3
      · exact e i t h (by simpa using hi)

theorem toks_bad {s : ByteArray} {o : Nat} {L : List Tok} {c : Int} {f : Nat} (h : Toks s o L c f) (hc : c ≠ 0) : nextX s (endOf o L) = .bad c f ∧ endOf o L ≤ s.size ∧ ∀ t ∈ L, t.k ≠ 0 := by
  induction h with
  | bad h1 h2 => exact ⟨h2, h1, by simp⟩
  | last h1 h2 h3 => exact absurd rfl hc
  | more h1 h2 h3 h4 ih =>
    obtain ⟨a, b, d⟩ := ih hc
    refine ⟨a, b, ?_⟩
    intro t ht
    rcases List.mem_cons.1 ht with rfl | ht
    · exact h3
    · exact d t ht

theorem toks_len {s : ByteArray} {o : Nat} {L : List Tok} {c : Int} {f : Nat} (h : Toks s o L c f) : L.length + o ≤ s.size + 1 := by
  induction h with
  | bad h1 h2 => simp; omega
  | last h1 h2 h3 => simp; omega
  | more h1 h2 h3 h4 ih =>
    obtain ⟨-, -, a, b⟩ := next_tok h1 h2
    obtain ⟨_, b1, b2⟩ := b.resolve_left (fun h => h3 h.1)
    simp
    omega

end Go.Proofs.YtchhophblejmeaaGreatDoor

namespace Go.Proofs.YtchhophblejmeaaGreatDoor
set_option linter.unusedSimpArgs false
set_option linter.unusedVariables false
open Go.RowKit

theorem lineC_append (r : List UInt8) : ∀ l : List UInt8, lineC (l ++ 10 :: r) = lineC l
  | [] => rfl
  | b :: l => by
    rw [List.cons_append]
    unfold lineC
    rw [lineC_append r l]

theorem opens_append {l r : List UInt8} (h : 2 ≤ l.length) : opens (l ++ r) = opens l := by
  match l, h with
  | a :: b :: l, _ => rfl
theorem closes_append {l r : List UInt8} (h : 2 ≤ l.length) : closes (l ++ r) = closes l := by
  match l, h with
  | a :: b :: l, _ => rfl

theorem blockC_append (r : List UInt8) : ∀ (n : Nat) (l : List UInt8) (d j : Nat), l.length = n → blockC d l = some j → blockC d (l ++ r) = some j := by
  intro n
  induction n using Nat.strongRecOn with
  | ind n ih =>
    intro l d j hl h
    have hj := blockC_le _ _ _ h
    have hdrop : ∀ k, k ≤ l.length → (l ++ r).drop k = l.drop k ++ r := fun k hk => List.drop_append_of_le_length hk
    cases ho : opens l with
    | true =>
      rw [blockC_open ho] at h
      obtain ⟨x, hx, rfl⟩ := Option.map_eq_some_iff.1 h
      rw [blockC_open (by rw [opens_append (by omega)]; exact ho), hdrop 2 (by omega), ih (l.drop 2).length (by simp; omega) (l.drop 2) (d + 1) x rfl hx]
      rfl
    | false =>
      cases hc : closes l with
      | true =>
        rw [blockC_close hc] at h
        rw [blockC_close (by rw [closes_append (by omega)]; exact hc)]
        split
        · next h1 => rw [if_pos h1] at h; exact h
        · next h1 =>
          rw [if_neg h1] at h
          obtain ⟨x, hx, rfl⟩ := Option.map_eq_some_iff.1 h
          rw [hdrop 2 (by omega), ih (l.drop 2).length (by simp; omega) (l.drop 2) (d - 1) x rfl hx]
          rfl
      | false =>
        rw [blockC_else ho hc] at h
        obtain ⟨x, hx, rfl⟩ := Option.map_eq_some_iff.1 h
        rw [blockC_else (by rw [opens_append (by omega)]; exact ho) (by rw [closes_append (by omega)]; exact hc), hdrop 1 (by omega), ih (l.drop 1).length (by simp; omega) (l.drop 1) d x rfl hx]
        rfl

theorem item_append {l r : List UInt8} {k : Nat} (h : item l = .go k) : item (l ++ 10 :: r) = .go k := by
  match l, h with
  | [], h => cases h
  | a :: l, h =>
    rw [List.cons_append, item_cons]
    rw [item_cons] at h
    split
    · next hb => rw [if_pos hb] at h; exact h
    · next hb =>
      rw [if_neg hb] at h
      split
      · next h37 =>
        rw [if_pos h37] at h
        rw [lineC_append]; exact h
      · next h37 =>
        rw [if_neg h37] at h
        split at h
        · next ho =>
          have h2 := opens_len ho
          have ho' : opens (a :: (l ++ 10 :: r)) = true := by
            have := opens_append (r := 10 :: r) h2
            rw [List.cons_append] at this
            rw [this]; exact ho
          rw [if_pos ho']
          cases hbc : blockC 1 (l.drop 1) with
          | none => rw [hbc] at h; cases h
          | some x =>
            rw [hbc] at h
            simp at h2
            rw [List.drop_append_of_le_length (by omega), blockC_append _ _ (l.drop 1) 1 x rfl hbc]
            exact h
        · cases h

theorem gap_append (r : List UInt8) : ∀ (N : Nat) (l : List UInt8), l.length = N → gapN l = (l.length, true) → gapN (l ++ 10 :: r) = (l.length + (gapN (10 :: r)).1, (gapN (10 :: r)).2) := by
  intro N
  induction N using Nat.strongRecOn with
  | ind N ih =>
    intro l hl h
    cases hi : item l with
    | stop =>
      rw [gapN_stop hi] at h
      have h0 : l.length = 0 := (congrArg Prod.fst h).symm
      obtain rfl := List.length_eq_zero_iff.1 h0
      exact Prod.ext (by simp) rfl
    | bad => rw [gapN_bad hi] at h; have := congrArg Prod.snd h; cases this
    | go k =>
      by_cases hk : 0 < k ∧ k ≤ l.length
      · rw [gapN_go hi hk.1 hk.2] at h
        have h1 : (gapN (l.drop k)).1 + k = l.length := congrArg Prod.fst h
        have h2 : (gapN (l.drop k)).2 = true := congrArg Prod.snd h
        have hd := ih (l.drop k).length (by simp; omega) (l.drop k) rfl (Prod.ext (by simp; omega) h2)
        rw [gapN_go (item_append hi) hk.1 (by simp; omega), List.drop_append_of_le_length hk.2, hd]
        exact Prod.ext (by simp; omega) rfl
      · rw [gapN, hi] at h
        simp only at h
        rw [dif_neg hk] at h
        have h0 : l.length = 0 := (congrArg Prod.fst h).symm
        obtain rfl := List.length_eq_zero_iff.1 h0
        exact Prod.ext (by simp) rfl

theorem gap_feed (l : List UInt8) : gapN (10 :: l) = ((gapN l).1 + 1, (gapN l).2) := gapN_go (l := 10 :: l) (k := 1) (by rfl) (by omega) (by simp)

/-- src, a line feed, the name a, a line feed, src. -/
def twice (s : ByteArray) : ByteArray := s ++ ⟨#[10, 97, 10]⟩ ++ s

theorem twice_rest (s : ByteArray) : rest (twice s) 0 = s.data.toList ++ 10 :: 97 :: 10 :: s.data.toList := by
  unfold rest twice
  rw [List.drop_zero, ByteArray.data_append, ByteArray.data_append]
  simp
theorem twice_size (s : ByteArray) : (twice s).size = 2 * s.size + 3 := by
  unfold twice
  rw [ByteArray.size_append, ByteArray.size_append]
  have : (⟨#[10, 97, 10]⟩ : ByteArray).size = 3 := rfl
  omega

theorem twice_from (s : ByteArray) (k : Nat) : rest (twice s) k = (s.data.toList ++ 10 :: 97 :: 10 :: s.data.toList).drop k := by
  rw [← twice_rest]
  unfold rest
  rw [List.drop_zero]

theorem twice_scan (s : ByteArray) (h : gapN s.data.toList = (s.size, true)) (hs : 2 * s.size + 3 ≤ 65536) :
    scanX (twice s) = ([⟨1, ⟨#[97]⟩, 0, 0, s.size + 1, s.size + 2⟩, endTok (2 * s.size + 3)], 0, 0) := by
  have hsz := twice_size s
  have hlen : s.data.toList.length = s.size := by simp
  have hg0 : gapW (twice s) 0 = (s.size + 1, true) := by
    unfold gapW
    rw [twice_rest, gap_append _ _ _ rfl (by rw [hlen]; exact h), gap_feed, hlen, gapN_stop (by rfl)]
    exact Prod.ext (by simp) rfl
  have r1 : rest (twice s) (s.size + 1) = 97 :: 10 :: s.data.toList := by
    rw [twice_from, List.drop_append, List.drop_of_length_le (by simp), hlen]
    simp
  have r2 : rest (twice s) (s.size + 2) = 10 :: s.data.toList := by
    rw [twice_from, List.drop_append, List.drop_of_length_le (by simp), hlen]
    simp
  have hlt : s.size + 1 < (twice s).size := by omega
  have b0 : (twice s)[s.size + 1] = 97 := by
    have := rest_cons (twice s) (s.size + 1) hlt
    rw [r1] at this
    injection this with this
    exact this.symm
  have hb : ((twice s)[s.size + 1].toNat : Int) = 97 := by rw [b0]; rfl
  have hrun : runC (rest (twice s) (s.size + 1)) = 1 := by
    rw [r1]
    unfold runC
    rw [if_pos (by rfl)]
    unfold runC
    rw [if_neg (by decide)]
  have hex : (twice s).extract (s.size + 1) (s.size + 1 + 1) = ⟨#[97]⟩ := by
    apply ByteArray.ext
    apply Array.ext'
    rw [ByteArray.data_extract, Array.toList_extract, List.extract_eq_take_drop]
    have : (twice s).data.toList.drop (s.size + 1) = 97 :: 10 :: s.data.toList := r1
    rw [this, show s.size + 1 + 1 - (s.size + 1) = 1 by omega]; rfl
  have n1 : nextX (twice s) 0 = .tok ⟨1, ⟨#[97]⟩, 0, 0, s.size + 1, s.size + 2⟩ := by
    unfold nextX
    rw [hg0]
    simp only [if_true]
    unfold tokAt
    rw [dif_pos hlt, if_pos (by rw [hb]; rfl)]
    unfold wordX
    simp only [hrun]
    rw [if_neg (by omega)]
    simp only [hex]
    rw [if_neg (by rw [ByteArray.toList_eq]; decide), if_pos (by rfl)]
  have hg1 : gapW (twice s) (s.size + 2) = (2 * s.size + 3, true) := by
    unfold gapW
    rw [r2, gap_feed, h]
    exact Prod.ext (by simp; omega) rfl
  have n2 : nextX (twice s) (s.size + 2) = .tok (endTok (2 * s.size + 3)) := by
    unfold nextX
    rw [hg1]
    simp only [if_true]
    unfold tokAt
    rw [dif_neg (by omega)]
    rfl
  unfold scanX eachX
  rw [if_neg (by omega), eachF_go n1 (by simp) (by simp) (by simp only; omega), eachF_stop n2 (.inr rfl)]
  rfl

/-- Nothing but a gap: the end is all that Scan lists. -/
theorem idle_iff (s : ByteArray) : ((scanX s).2.1 = 0 ∧ (scanX s).1.length = 1) ↔ blankW s 0 (s.size : Int) = true := by
  by_cases hs : 65536 < s.size
  · have e1 : scanX s = ([], 1, 0) := if_pos hs
    have e2 : blankW s 0 (s.size : Int) = false := if_neg (by omega)
    rw [e1, e2]
    simp
  · have e2 : blankW s 0 (s.size : Int) = ((gapN (pieceL s 0 s.size)).2 && decide (0 + (gapN (pieceL s 0 s.size)).1 = s.size)) := if_pos ⟨by omega, by omega, by omega, by omega⟩
    have hp : pieceL s 0 s.size = rest s 0 := by
      unfold pieceL rest
      rw [List.take_of_length_le (by simp)]
    rw [e2, hp]
    have T := scan_toks s (by omega)
    constructor
    · rintro ⟨h1, h2⟩
      match hL : (scanX s).1, h2 with
      | [t], _ =>
        rw [hL] at T
        obtain ⟨n1, h3⟩ := T.step
        rcases h3 with ⟨h4, _⟩ | ⟨h4, T2⟩
        · obtain ⟨a1, a2, _, a3⟩ := next_tok (Nat.zero_le _) n1
          have a4 : t.off = s.size := by rcases a3 with ⟨_, b, _⟩ | ⟨b, _⟩ <;> omega
          have a5 : (gapN (rest s 0)).2 = true := a1
          have a6 : (gapW s 0).1 = 0 + (gapN (rest s 0)).1 := rfl
          rw [a5]
          simp only [Bool.true_and, decide_eq_true_eq]
          omega
        · have := T2.stop
          have := next_bad this
          omega
    · intro h
      simp only [Bool.and_eq_true, decide_eq_true_eq] at h
      have hg : gapW s 0 = (s.size, true) := Prod.ext (by show 0 + _ = _; omega) h.1
      have n1 : nextX s 0 = .tok (endTok s.size) := by
        unfold nextX
        rw [hg]
        simp only [if_true]
        unfold tokAt
        rw [dif_neg (by omega)]
        rfl
      have : scanX s = ([endTok s.size], 0, 0) := by
        unfold scanX eachX
        rw [if_neg hs, eachF_stop n1 (.inr rfl)]
        rfl
      rw [this]
      exact ⟨rfl, rfl⟩

theorem blank_gapN (s : ByteArray) (h : blankW s 0 (s.size : Int) = true) : gapN s.data.toList = (s.size, true) := by
  unfold blankW at h
  split at h
  · have hp : pieceL s (0 : Int).toNat (s.size : Int).toNat = s.data.toList := by
      unfold pieceL
      simp
      exact List.take_of_length_le (by simp)
    rw [hp] at h
    simp only [Bool.and_eq_true, decide_eq_true_eq] at h
    exact Prod.ext (by have := h.2; simp at this; exact this) h.1
  · cases h

end Go.Proofs.YtchhophblejmeaaGreatDoor

namespace Go.Proofs.YtchhophblejmeaaGreatDoor
set_option linter.unusedSimpArgs false
set_option linter.unusedVariables false
open Go.RowKit

/-- Two lists have the same first n bytes. -/
def Agree (l l' : List UInt8) (n : Nat) : Prop := ∀ i, i < n → l'[i]? = l[i]?
/-- What stands behind the first n bytes of l' stands there in l too, or is a blank. -/
def Safe (l l' : List UInt8) (n : Nat) : Prop := ∀ b, l'[n]? = some b → l[n]? = some b ∨ b = 10 ∨ b = 32

theorem Agree.mono {l l' : List UInt8} {n m : Nat} (h : Agree l l' n) (hm : m ≤ n) : Agree l l' m := fun i hi => h i (by omega)
theorem Agree.drop {l l' : List UInt8} {n : Nat} (h : Agree l l' n) (k : Nat) : Agree (l.drop k) (l'.drop k) (n - k) := fun i hi => by
  rw [List.getElem?_drop, List.getElem?_drop]; exact h _ (by omega)
theorem Agree.take {l l' : List UInt8} {n : Nat} (h : Agree l l' n) : l'.take n = l.take n := by
  apply List.ext_getElem?
  intro i
  rw [List.getElem?_take, List.getElem?_take]
  split
  · exact h i (by assumption)
  · rfl
theorem Agree.len {l l' : List UInt8} {n : Nat} (h : Agree l l' n) (hn : n ≤ l.length) : n ≤ l'.length := by
  rcases n with _ | n
  · omega
  · have e := h n (by omega)
    rw [List.getElem?_eq_getElem (l := l) (by omega)] at e
    have := (List.getElem?_eq_some_iff.1 e).1
    omega
theorem Safe.drop {l l' : List UInt8} {n : Nat} (h : Safe l l' n) {k : Nat} (hk : k ≤ n) : Safe (l.drop k) (l'.drop k) (n - k) := fun b hb => by
  rw [List.getElem?_drop] at hb ⊢
  rw [show k + (n - k) = n by omega] at hb ⊢
  exact h b hb

theorem runC_iff : ∀ (l : List UInt8) (m : Nat), runC l = m ↔ m ≤ l.length ∧ (∀ i b, i < m → l[i]? = some b → bWord b.toNat = true) ∧ (∀ b, l[m]? = some b → bWord b.toNat = false)
  | [], m => by
    constructor
    · intro h
      have h0 : m = 0 := h.symm
      subst h0
      exact ⟨by simp, fun i b h => by omega, fun b h => by simp at h⟩
    · intro h
      have := h.1
      simp at this
      exact this.symm
  | a :: r, 0 => by
    unfold runC
    constructor
    · intro h
      split at h
      · omega
      · next hw => exact ⟨by simp, fun i b h => by omega, fun b hb => by simp at hb; subst hb; simpa using hw⟩
    · intro h
      have := h.2.2 a (by simp)
      rw [if_neg (by rw [this]; simp)]
  | a :: r, m + 1 => by
    have ih := runC_iff r m
    unfold runC
    constructor
    · intro h
      split at h
      · next hw =>
        obtain ⟨h1, h2, h3⟩ := ih.1 (by omega)
        refine ⟨by simp; omega, ?_, ?_⟩
        · intro i b hi hb
          rcases i with _ | i
          · simp at hb; subst hb; exact hw
          · exact h2 i b (by omega) (by simpa using hb)
        · intro b hb
          exact h3 b (by simpa using hb)
      · omega
    · rintro ⟨h1, h2, h3⟩
      rw [if_pos (h2 0 a (by omega) (by simp))]
      have := ih.2 ⟨by simp at h1; omega, fun i b hi hb => h2 (i + 1) b (by omega) (by simpa using hb), fun b hb => h3 b (by simpa using hb)⟩
      omega

theorem runC_pre {l l' : List UInt8} (ha : Agree l l' (runC l)) (hs : Safe l l' (runC l)) : runC l' = runC l := by
  obtain ⟨h1, h2, h3⟩ := (runC_iff l _).1 rfl
  refine (runC_iff l' _).2 ⟨ha.len h1, fun i b hi hb => h2 i b hi (by rw [← ha i hi]; exact hb), fun b hb => ?_⟩
  rcases hs b hb with h | h | h
  · exact h3 b h
  · subst h; rfl
  · subst h; rfl

theorem extract_list (s : ByteArray) (a n : Nat) : (s.extract a (a + n)).data.toList = (rest s a).take n := by
  rw [ByteArray.data_extract, Array.toList_extract, List.extract_eq_take_drop]
  unfold rest
  rw [show a + n - a = n by omega]

theorem extract_pre {s s' : ByteArray} {g g' n : Nat} (ha : Agree (rest s g) (rest s' g') n) : s'.extract g' (g' + n) = s.extract g (g + n) := by
  apply ByteArray.ext
  apply Array.ext'
  rw [extract_list, extract_list, ha.take]

theorem first_byte (s : ByteArray) (g : Nat) (h : g < s.size) : (rest s g)[0]? = some s[g] := by rw [rest_cons s g h]; rfl
theorem nth_byte (s : ByteArray) (g j : Nat) (h : g + j < s.size) : (rest s g)[j]? = some s[g + j] := by
  have := first_byte s (g + j) h
  rw [← rest_drop, List.getElem?_drop] at this
  exact this
theorem lt_of_byte {s : ByteArray} {g j : Nat} {b : UInt8} (h : (rest s g)[j]? = some b) : g + j < s.size := by
  have := (List.getElem?_eq_some_iff.1 h).1
  rw [rest_len] at this
  omega
theorem byte_pre {s s' : ByteArray} {g g' n j : Nat} (ha : Agree (rest s g) (rest s' g') n) (hj : j < n) (h : g + j < s.size) : ∃ h' : g' + j < s'.size, s'[g' + j] = s[g + j] := by
  have e := ha j hj
  rw [nth_byte s g j h] at e
  have h' := lt_of_byte e
  rw [nth_byte s' g' j h'] at e
  exact ⟨h', Option.some.inj e⟩

theorem wordX_len {s : ByteArray} {o : Nat} {t : Tok} (h : wordX s o = .tok t) : t.en = o + runC (rest s o) := by
  unfold wordX at h
  simp only at h
  repeat' split at h
  all_goals first | (injection h with h; subst h; rfl) | cases h

theorem wordX_pre {s s' : ByteArray} {g g' : Nat} {t : Tok} (h : wordX s g = .tok t) (ha : Agree (rest s g) (rest s' g') (t.en - g)) (hs : Safe (rest s g) (rest s' g') (t.en - g)) :
    wordX s' g' = .tok ⟨t.k, t.t, t.n, t.op, g', g' + (t.en - g)⟩ := by
  have he := wordX_len h
  rw [show t.en - g = runC (rest s g) by omega] at ha hs ⊢
  have hr := runC_pre ha hs
  have hx := extract_pre ha
  unfold wordX at h ⊢
  simp only at h ⊢
  rw [hr, hx]
  generalize runC (rest s g) = m at *
  split
  · next h64 => rw [if_pos h64] at h; cases h
  · next h64 =>
    rw [if_neg h64] at h
    split
    · next hn => rw [if_pos hn] at h; injection h with h; subst h; rfl
    · next hn =>
      rw [if_neg hn] at h
      split
      · next hl => rw [if_pos hl] at h; injection h with h; subst h; rfl
      · next hl => rw [if_neg hl] at h; injection h with h; subst h; rfl

theorem intX_len {s : ByteArray} {o : Nat} {t : Tok} (h : intX s o = .tok t) : t.en = o + (1 + runC (rest s (o + 1))) := by
  unfold intX at h
  split at h
  · injection h with h; subst h; show o + 1 + _ = _; omega
  · cases h

theorem intX_pre {s s' : ByteArray} {g g' : Nat} {t : Tok} (h : intX s g = .tok t) (ha : Agree (rest s g) (rest s' g') (t.en - g)) (hs : Safe (rest s g) (rest s' g') (t.en - g)) :
    intX s' g' = .tok ⟨t.k, t.t, t.n, t.op, g', g' + (t.en - g)⟩ := by
  have he := intX_len h
  have e1 : t.en - g = 1 + runC (rest s (g + 1)) := by omega
  rw [e1] at ha hs ⊢
  have hr : runC (rest s' (g' + 1)) = runC (rest s (g + 1)) := by
    rw [← rest_drop, ← rest_drop]
    rw [← rest_drop] at ha hs
    have h1 := ha.drop 1
    have h2 := hs.drop (k := 1) (by omega)
    rw [show 1 + runC ((rest s g).drop 1) - 1 = runC ((rest s g).drop 1) by omega] at h1 h2
    exact runC_pre h1 h2
  have hx := extract_pre ha
  unfold intX at h ⊢
  rw [hr, show g' + 1 + runC (rest s (g + 1)) = g' + (1 + runC (rest s (g + 1))) by omega, hx]
  rw [show g + 1 + runC (rest s (g + 1)) = g + (1 + runC (rest s (g + 1))) by omega] at h
  split
  · next v hv => rw [hv] at h; injection h with h; subst h; rfl
  · next hv =>
    split at h
    · next v hv' => exact absurd hv' (hv v)
    · cases h

def begL (l : List UInt8) : Bool := bDig (((l[0]?).getD 0).toNat : Int) || ((((l[0]?).getD 0).toNat : Int) == 45 && (decide (1 < l.length) && bDig (((l[1]?).getD 0).toNat : Int)))
theorem begB_list (r : ByteArray) : begB r = begL r.data.toList := by
  have h : ∀ i : Nat, r.data[i]! = (r.data.toList[i]?).getD 0 := fun i => by
    rw [Array.getElem?_toList, getElem!_def]
    cases r.data[i]? <;> rfl
  unfold begB begL
  rw [h 0, h 1]
  simp
theorem beg_rest (s : ByteArray) (g : Nat) : begB (s.extract g s.size) = begL (rest s g) := by rw [begB_list, extract_rest]

theorem escX_two (r : ByteArray) (h : (escX r).2 ≠ 0) : 2 ≤ (escX r).2 := by
  have hx := hexX_bounds r
  revert h
  unfold escX
  split
  · unfold escOf
    repeat' split
    all_goals first | (intro; decide) | (intro h; rcases hx.1 with h1 | h1 <;> omega) | (intro h; exact absurd rfl h)
  · intro h; exact absurd rfl h

theorem at_two {r r' : ByteArray} {i : Nat} (h : i < r.size) (e : r'.data.toList[i]? = r.data.toList[i]?) : ∃ h' : i < r'.size, r'[i] = r[i] := by
  rw [List.getElem?_eq_getElem (l := r.data.toList) (by simpa using h)] at e
  have h1 := (List.getElem?_eq_some_iff.1 e)
  obtain ⟨h2, h3⟩ := h1
  exact ⟨by simpa using h2, h3⟩

theorem escX_pre {r r' : ByteArray} (h : (escX r).2 ≠ 0) (ha : Agree r.data.toList r'.data.toList (escX r).2.toNat) : escX r' = escX r := by
  have h2 := escX_two r h
  have h1 : 1 < r.size := by
    unfold escX at h
    split at h
    · assumption
    · exact absurd rfl h
  obtain ⟨h1', e1⟩ := at_two h1 (ha 1 (by omega))
  have e : escX r = escOf r (r[1].toNat : Int) := dif_pos h1
  have e' : escX r' = escOf r' (r[1].toNat : Int) := by rw [← e1]; exact dif_pos h1'
  rw [e] at h ha ⊢
  rw [e']
  unfold escOf at h ha ⊢
  split; · rfl
  split; · rfl
  split; · rfl
  split; · rfl
  split; · rfl
  split
  · next a1 a2 a3 a4 a5 a6 =>
    rw [if_neg a1, if_neg a2, if_neg a3, if_neg a4, if_neg a5, if_pos a6] at h ha
    have h4 : (hexX r).2 = 4 ∧ 4 ≤ r.size := by
      rcases (hexX_bounds r).1 with hh | hh
      · exact absurd hh h
      · exact ⟨hh.1, hh.2⟩
    rw [h4.1] at ha
    have hl := ha.len (n := 4) (by simp; omega)
    have hl' : 4 ≤ r'.size := by simpa using hl
    have hx : r'.extract 2 4 = r.extract 2 4 := by
      apply ByteArray.ext
      apply Array.ext'
      rw [ByteArray.data_extract, ByteArray.data_extract, Array.toList_extract, Array.toList_extract, List.extract_eq_take_drop, List.extract_eq_take_drop]
      have := (ha.drop 2).take
      exact this
    unfold hexX
    rw [if_neg (by omega), if_neg (by omega), hx]
  · rfl

theorem textF_lt (s : ByteArray) (o : Nat) : ∀ (n i : Nat) (vs : List Int) (t : Tok), s.size - i = n → textF s o i vs = .tok t → i < t.en ∧ t.off = o := by
  intro n
  induction n using Nat.strongRecOn with
  | ind n ih =>
    intro i vs t hn h
    rw [textF] at h
    split at h
    · next hlt =>
      split at h
      · cases h
      · split at h
        · injection h with h; subst h; exact ⟨Nat.lt_succ_self _, rfl⟩
        · split at h
          · split at h
            · cases h
            · split at h
              · cases h
              · have := ih _ (by omega) _ _ t rfl h
                exact ⟨by omega, this.2⟩
          · split at h
            · cases h
            · have := ih _ (by omega) _ _ t rfl h
              exact ⟨by omega, this.2⟩
    · cases h

theorem textF_pre {s s' : ByteArray} {g g' : Nat} : ∀ (N j : Nat) (vs : List Int) (t : Tok), s.size - (g + j) = N → textF s g (g + j) vs = .tok t → Agree (rest s g) (rest s' g') (t.en - g) →
    textF s' g' (g' + j) vs = .tok ⟨t.k, t.t, t.n, t.op, g', g' + (t.en - g)⟩ := by
  intro N
  induction N using Nat.strongRecOn with
  | ind N ih =>
    intro j vs t hN h ha
    have hlt1 := (textF_lt s g _ _ _ _ rfl h).1
    rw [textF] at h
    split at h
    · next hlt =>
      obtain ⟨hlt', hb⟩ := byte_pre ha (j := j) (by omega) hlt
      rw [textF, dif_pos hlt', hb]
      split at h
      · cases h
      · next h32 =>
        rw [if_neg h32]
        split at h
        · next h34 =>
          rw [if_pos h34]
          injection h with h
          subst h
          show Nx.tok _ = Nx.tok _
          congr 2
          show g' + j + 1 = g' + (g + j + 1 - g)
          omega
        · next h34 =>
          rw [if_neg h34]
          split at h
          · next h92 =>
            rw [if_pos h92]
            split at h
            · cases h
            · next hn0 =>
              split at h
              · cases h
              · next h255 =>
                have hlt2 := (textF_lt s g _ _ _ _ rfl h).1
                have hesc : escX (s'.extract (g' + j) s'.size) = escX (s.extract (g + j) s.size) := by
                  refine escX_pre (fun e => hn0 (by rw [e]; rfl)) ?_
                  rw [extract_rest, extract_rest, ← rest_drop, ← rest_drop]
                  exact (ha.drop j).mono (by omega)
                rw [hesc, dif_neg hn0, if_neg h255]
                have := ih (s.size - (g + (j + (escX (s.extract (g + j) s.size)).2.toNat))) (by omega) (j + (escX (s.extract (g + j) s.size)).2.toNat) _ t rfl (by rw [← Nat.add_assoc]; exact h) ha
                rw [← Nat.add_assoc] at this
                exact this
          · next h92 =>
            rw [if_neg h92]
            split at h
            · cases h
            · next h255 =>
              rw [if_neg h255]
              have := ih (s.size - (g + (j + 1))) (by omega) (j + 1) _ t rfl (by rw [← Nat.add_assoc]; exact h) ha
              rw [← Nat.add_assoc] at this
              exact this
    · cases h

/-- What the marks' table says of a byte alone, and of a byte and the one behind it. -/
def P1 (a : UInt8) : Option (Nat × Int × Int) :=
  if a == 60 then some (1, 11, 3)
  else if a == 62 then some (1, 11, 5)
  else if a == 61 then some (1, 11, 1)
  else if a == 40 then some (1, 5, 0)
  else if a == 41 then some (1, 6, 0)
  else if a == 44 then some (1, 7, 0)
  else if a == 46 then some (1, 8, 0)
  else none
def P2 (a : UInt8) (b : Option UInt8) : Option (Nat × Int × Int) :=
  if a == 58 && b == some 45 then some (2, 9, 0)
  else if a == 33 && b == some 61 then some (2, 11, 2)
  else if a == 60 && b == some 61 then some (2, 11, 4)
  else if a == 62 && b == some 61 then some (2, 11, 6)
  else P1 a

theorem beq_swap (x a : UInt8) : (x == a) = (a == x) := by
  rw [Bool.eq_iff_iff]; simp only [beq_iff_eq]; exact eq_comm
theorem nil_pre (r : List UInt8) : List.isPrefixOf [] r = true := by cases r <;> rfl
theorem pre_one (x a : UInt8) (r : List UInt8) : Lib.hasPrefix (a :: r) [x] = (a == x) := by
  show ((x == a) && List.isPrefixOf [] r) = (a == x)
  rw [nil_pre, Bool.and_true, beq_swap]
theorem pre_two (x y a : UInt8) (r : List UInt8) : Lib.hasPrefix (a :: r) [x, y] = (a == x && r[0]? == some y) := by
  cases r with
  | nil =>
    show ((x == a) && false) = ((a == x) && false)
    rw [Bool.and_false, Bool.and_false]
  | cons b r =>
    show ((x == a) && ((y == b) && List.isPrefixOf [] r)) = ((a == x) && (b == y))
    rw [nil_pre, Bool.and_true, beq_swap x a, beq_swap y b]
theorem punctL_one (x a : UInt8) (k op : Int) (ms : List (List UInt8 × Int × Int)) (r : List UInt8) : punctL (([x], k, op) :: ms) (a :: r) = if a == x then some (1, k, op) else punctL ms (a :: r) := by
  show (if Lib.hasPrefix (a :: r) [x] = true then some (1, k, op) else punctL ms (a :: r)) = _
  rw [pre_one]
theorem punctL_two (x y a : UInt8) (k op : Int) (ms : List (List UInt8 × Int × Int)) (r : List UInt8) : punctL (([x, y], k, op) :: ms) (a :: r) = if a == x && r[0]? == some y then some (2, k, op) else punctL ms (a :: r) := by
  show (if Lib.hasPrefix (a :: r) [x, y] = true then some (2, k, op) else punctL ms (a :: r)) = _
  rw [pre_two]

theorem punct_two (a : UInt8) (r : List UInt8) : punctL marksT (a :: r) = P2 a r[0]? := by
  unfold marksT P2 P1
  rw [punctL_two, punctL_two, punctL_two, punctL_two, punctL_one, punctL_one, punctL_one, punctL_one, punctL_one, punctL_one, punctL_one]
  rfl

theorem P1_one {a : UInt8} {n : Nat} {k op : Int} (h : P1 a = some (n, k, op)) : n = 1 ∧ a ∈ ([58, 33, 60, 62, 61, 40, 41, 44, 46] : List UInt8) := by
  unfold P1 at h
  repeat' split at h
  all_goals first | (cases h; done) | skip
  all_goals
    injection h with h
    injection h with h _
    refine ⟨h.symm, ?_⟩
    have e := eq_of_beq (by assumption)
    subst e
    decide

theorem P2_blank {a : UInt8} {b : Option UInt8} (h1 : (b == some 45) = false) (h2 : (b == some 61) = false) : P2 a b = P1 a := by
  unfold P2
  rw [h1, h2, Bool.and_false, Bool.and_false, Bool.and_false, Bool.and_false]
  rfl

theorem P2_cases {a : UInt8} {b : Option UInt8} {n : Nat} {k op : Int} (h : P2 a b = some (n, k, op)) : (n = 2 ∧ a ∈ ([58, 33, 60, 62, 61, 40, 41, 44, 46] : List UInt8)) ∨ (n = 1 ∧ P1 a = some (n, k, op)) := by
  unfold P2 at h
  split at h
  · next hh => injection h with h; injection h with h _; simp only [Bool.and_eq_true, beq_iff_eq] at hh; rw [hh.1]; exact .inl ⟨h.symm, by decide⟩
  · split at h
    · next hh => injection h with h; injection h with h _; simp only [Bool.and_eq_true, beq_iff_eq] at hh; rw [hh.1]; exact .inl ⟨h.symm, by decide⟩
    · split at h
      · next hh => injection h with h; injection h with h _; simp only [Bool.and_eq_true, beq_iff_eq] at hh; rw [hh.1]; exact .inl ⟨h.symm, by decide⟩
      · split at h
        · next hh => injection h with h; injection h with h _; simp only [Bool.and_eq_true, beq_iff_eq] at hh; rw [hh.1]; exact .inl ⟨h.symm, by decide⟩
        · exact .inr ⟨(P1_one h).1, h⟩

theorem P2_pre {a : UInt8} {b b' : Option UInt8} {n : Nat} {k op : Int} (h : P2 a b = some (n, k, op)) (h2 : n = 2 → b' = b) (h1 : n = 1 → b' = none ∨ b' = b ∨ b' = some 10 ∨ b' = some 32) : P2 a b' = some (n, k, op) := by
  rcases P2_cases h with ⟨hn, _⟩ | ⟨hn, hp⟩
  · rw [h2 hn]; exact h
  · rcases h1 hn with rfl | rfl | rfl | rfl
    · rw [P2_blank rfl rfl]; exact hp
    · exact h
    · rw [P2_blank (by decide) (by decide)]; exact hp
    · rw [P2_blank (by decide) (by decide)]; exact hp

theorem P2_first {a : UInt8} {b : Option UInt8} {x : Nat × Int × Int} (h : P2 a b = some x) : a ∈ ([58, 33, 60, 62, 61, 40, 41, 44, 46] : List UInt8) := by
  obtain ⟨n, k, op⟩ := x
  rcases P2_cases h with ⟨_, h⟩ | ⟨_, h⟩
  · exact h
  · exact (P1_one h).2

theorem punctX_pre {s s' : ByteArray} {g g' : Nat} {t : Tok} (hg : g < s.size) (hg' : g' < s'.size) (hb : s'[g'] = s[g]) (h : punctX s g = .tok t) (ha : Agree (rest s g) (rest s' g') (t.en - g)) (hs : Safe (rest s g) (rest s' g') (t.en - g)) :
    punctX s' g' = .tok ⟨t.k, t.t, t.n, t.op, g', g' + (t.en - g)⟩ ∧ s[g] ∈ ([58, 33, 60, 62, 61, 40, 41, 44, 46] : List UInt8) := by
  unfold punctX at h ⊢
  rw [rest_cons s g hg] at h
  rw [rest_cons s' g' hg', hb]
  rw [punct_two] at h ⊢
  cases hp : P2 s[g] (rest s (g + 1))[0]? with
  | none => rw [hp] at h; cases h
  | some x =>
    obtain ⟨n, k, op⟩ := x
    refine ⟨?_, P2_first hp⟩
    rw [hp] at h
    unfold punctOf at h
    injection h with h
    subst h
    have en : g + n - g = n := by omega
    simp only [en] at ha hs ⊢
    have d0 : (rest s (g + 1))[0]? = (rest s g)[1]? := by rw [← rest_drop, List.getElem?_drop]
    have d1 : (rest s' (g' + 1))[0]? = (rest s' g')[1]? := by rw [← rest_drop, List.getElem?_drop]
    rw [P2_pre hp (b' := (rest s' (g' + 1))[0]?)]
    · rfl
    · intro e
      rw [d0, d1]
      exact ha 1 (by omega)
    · intro e
      rw [d0, d1]
      subst e
      cases hh : (rest s' g')[1]? with
      | none => exact .inl rfl
      | some b =>
        rcases hs b hh with h | h | h
        · exact .inr (.inl h.symm)
        · subst h; exact .inr (.inr (.inl rfl))
        · subst h; exact .inr (.inr (.inr rfl))

/-- A byte at which no gap goes on. -/
def Start (a : UInt8) : Prop := blankN a.toNat = false ∧ a.toNat ≠ 37 ∧ a ≠ 47

theorem start_word : ∀ n : Fin 256, (bLow (n.val : Int) || (bUp (n.val : Int) || (n.val : Int) == 95)) = true → blankN (n.val : Int) = false ∧ n.val ≠ 37 ∧ n.val ≠ 47 := by decide +kernel
theorem start_beg : ∀ n : Fin 256, (bDig (n.val : Int) = true ∨ (n.val : Int) = 45 ∨ (n.val : Int) = 34) → blankN (n.val : Int) = false ∧ n.val ≠ 37 ∧ n.val ≠ 47 := by decide +kernel
theorem start_of {a : UInt8} (h : blankN (a.toNat : Int) = false ∧ a.toNat ≠ 37 ∧ a.toNat ≠ 47) : Start a := ⟨h.1, h.2.1, fun e => h.2.2 (by rw [e]; rfl)⟩

/-- A token hangs on its own bytes and on the one behind them; and no gap goes on where it begins. -/
theorem tokAt_pre {s s' : ByteArray} {g g' : Nat} {t : Tok} (hg : g ≤ s.size) (h : tokAt s g = .tok t) (hk : t.k ≠ 0) (ha : Agree (rest s g) (rest s' g') (t.en - g)) (hs : Safe (rest s g) (rest s' g') (t.en - g)) :
    tokAt s' g' = .tok ⟨t.k, t.t, t.n, t.op, g', g' + (t.en - g)⟩ ∧ ∃ hlt : g < s.size, Start s[g] := by
  obtain ⟨ho, hc⟩ := tokAt_en hg h
  obtain ⟨h1, h2, h3⟩ := hc.resolve_left (fun h => hk h.1)
  have hlt : g < s.size := by omega
  obtain ⟨hlt', hb⟩ := byte_pre ha (j := 0) (by omega) (by omega)
  simp only [Nat.add_zero] at hlt' hb
  have e0 : (rest s g)[0]? = some s[g] := first_byte s g hlt
  have e0' : (rest s' g')[0]? = some s[g] := by rw [first_byte s' g' hlt', hb]
  unfold tokAt at h ⊢
  rw [dif_pos hlt] at h
  rw [dif_pos hlt', hb]
  rw [beg_rest] at h ⊢
  have hn256 := s[g].toNat_lt
  split at h
  · next hw =>
    rw [if_pos hw]
    exact ⟨wordX_pre h ha hs, hlt, start_of (start_word ⟨_, hn256⟩ hw)⟩
  · next hw =>
    rw [if_neg hw]
    split at h
    · next hbeg =>
      have hbeg' : begL (rest s' g') = true := by
        unfold begL at hbeg ⊢
        rw [e0] at hbeg
        rw [e0']
        simp only [Option.getD_some] at hbeg ⊢
        cases hd : bDig (s[g].toNat : Int) with
        | true => rfl
        | false =>
          rw [hd] at hbeg
          simp only [Bool.false_or, Bool.and_eq_true, decide_eq_true_eq] at hbeg ⊢
          obtain ⟨q1, q2, q3⟩ := hbeg
          have hl1 : (rest s (g + 1))[0]? = (rest s g)[1]? := by rw [← rest_drop, List.getElem?_drop]
          have hrun : 1 ≤ runC (rest s (g + 1)) := by
            rw [rest_len] at q2
            rw [rest_cons s (g + 1) (by omega)] at hl1 ⊢
            rw [← hl1] at q3
            unfold runC
            have q3' : bDig (s[g + 1].toNat : Int) = true := q3
            rw [if_pos (by unfold bWord; rw [q3']; simp)]
            omega
          have hlen := intX_len h
          have ea := ha 1 (by omega)
          have := ha.len (n := t.en - g) (by rw [rest_len]; omega)
          exact ⟨q1, by omega, by rw [ea]; exact q3⟩
      rw [if_pos hbeg']
      refine ⟨intX_pre h ha hs, hlt, start_of (start_beg ⟨_, hn256⟩ ?_)⟩
      unfold begL at hbeg
      rw [e0] at hbeg
      simp only [Option.getD_some] at hbeg
      cases hd : bDig (s[g].toNat : Int) with
      | true => exact .inl rfl
      | false =>
        rw [hd] at hbeg
        simp only [Bool.false_or, Bool.and_eq_true, beq_iff_eq] at hbeg
        exact .inr (.inl hbeg.1)
    · next hbeg =>
      have hnd : bDig (s[g].toNat : Int) = false := by
        cases hd : bDig (s[g].toNat : Int) with
        | false => rfl
        | true =>
          unfold begL at hbeg
          rw [e0] at hbeg
          simp only [Option.getD_some, hd, Bool.true_or, not_true_eq_false] at hbeg
      have hnb : (s[g].toNat : Int) ≠ 45 → begL (rest s' g') = false := fun h45 => by
        unfold begL
        rw [e0']
        simp only [Option.getD_some, hnd, Bool.false_or]
        rw [show ((s[g].toNat : Int) == 45) = false by simpa using h45]
        rfl
      split at h
      · next h34 =>
        rw [if_neg (by rw [hnb (by omega)]; simp), if_pos h34]
        exact ⟨textF_pre _ 1 [] t rfl h ha, hlt, start_of (start_beg ⟨_, hn256⟩ (.inr (.inr h34)))⟩
      · next h34 =>
        obtain ⟨hp, hm⟩ := punctX_pre hlt hlt' hb h ha hs
        have hm' : (s[g].toNat : Int) ≠ 45 ∧ blankN (s[g].toNat : Int) = false ∧ s[g].toNat ≠ 37 ∧ s[g].toNat ≠ 47 := by
          generalize s[g] = a at hm
          simp only [List.mem_cons, List.not_mem_nil, or_false] at hm
          rcases hm with rfl | rfl | rfl | rfl | rfl | rfl | rfl | rfl | rfl <;> decide
        rw [if_neg (by rw [hnb hm'.1]; simp), if_neg h34]
        exact ⟨hp, hlt, start_of hm'.2⟩

end Go.Proofs.YtchhophblejmeaaGreatDoor

namespace Go.Proofs.YtchhophblejmeaaGreatDoor
set_option linter.unusedSimpArgs false
set_option linter.unusedVariables false
open Go.RowKit

theorem blockC_pre {l l' : List UInt8} {d j m : Nat} (h : blockC d l = some j) (hj : j ≤ m) (ha : Agree l l' m) : blockC d l' = some j := by
  have h1 := blockC_take _ l d j m rfl h hj
  have h2 := blockC_append (l'.drop m) _ (l.take m) d j rfl h1
  rw [← ha.take, List.take_append_drop] at h2
  exact h2

theorem agree_cons {a : UInt8} {r l' : List UInt8} {n : Nat} (ha : Agree (a :: r) l' (n + 1)) : ∃ r', l' = a :: r' ∧ Agree r r' n := by
  have e := ha 0 (by omega)
  match l', e with
  | [], e => simp at e
  | b :: r', e =>
    have : b = a := by simpa using e
    subst this
    exact ⟨r', rfl, fun i hi => by simpa using ha (i + 1) (by omega)⟩

theorem lineC_pre : ∀ (l l' : List UInt8), lineC l < l.length → Agree l l' (lineC l + 1) → lineC l' = lineC l
  | [], _, h, _ => by simp at h
  | b :: r, l', h, ha => by
    obtain ⟨r', rfl, ha'⟩ := agree_cons ha
    unfold lineC at h ha' ⊢
    split
    · rfl
    · next hb =>
      rw [if_neg hb] at h ha'
      rw [lineC_pre r r' (by simp at h; omega) ha']

theorem item_pre {l l' : List UInt8} {k : Nat} (h : item l = .go k) (hk : k < l.length) (ha : Agree l l' (k + 1)) : item l' = .go k := by
  match l, h, hk, ha with
  | a :: r, h, hk, ha =>
    obtain ⟨r', rfl, ha'⟩ := agree_cons ha
    rw [item_cons] at h ⊢
    split
    · next hb => rw [if_pos hb] at h; exact h
    · next hb =>
      rw [if_neg hb] at h
      split
      · next h37 =>
        rw [if_pos h37] at h
        injection h with h
        subst h
        simp at hk
        rw [lineC_pre r r' hk ha']
      · next h37 =>
        rw [if_neg h37] at h
        split at h
        · next ho =>
          cases hbc : blockC 1 (r.drop 1) with
          | none => rw [hbc] at h; cases h
          | some x =>
            rw [hbc] at h
            injection h with h
            subst h
            have ho' : opens (a :: r') = true := by
              rw [← opens_take (m := 2) (Nat.le_refl _), (ha.mono (m := 2) (by omega)).take, opens_take (Nat.le_refl _)]; exact ho
            rw [if_pos ho', blockC_pre hbc (m := x + 2 - 1) (by omega) (ha'.drop 1)]
        · cases h

theorem item_start {a : UInt8} (h : Start a) (r : List UInt8) : item (a :: r) = .stop := by
  obtain ⟨h1, h2, h3⟩ := h
  rw [item_cons, if_neg (by rw [h1]; simp), if_neg h2, if_neg]
  intro ho
  match r, ho with
  | b :: r, ho =>
    have : (a == 47 && b == 42) = true := ho
    simp at this
    exact h3 this.1

theorem gap_pre : ∀ (N : Nat) (l l' : List UInt8) (n : Nat), l.length = N → gapN l = (n, true) → n < l.length → (∀ a, l[n]? = some a → Start a) → Agree l l' (n + 1) → gapN l' = (n, true) := by
  intro N
  induction N using Nat.strongRecOn with
  | ind N ih =>
    intro l l' n hl h hn hst ha
    have hzero : n = 0 → item l = .stop ∧ gapN l' = (0, true) := by
      rintro rfl
      match l, hn, hst, ha with
      | a :: r, _, hst, ha =>
        obtain ⟨r', rfl, _⟩ := agree_cons ha
        have := hst a (by simp)
        exact ⟨item_start this r, gapN_stop (item_start this r')⟩
    cases hi : item l with
    | stop =>
      rw [gapN_stop hi] at h
      cases h
      exact (hzero rfl).2
    | bad => rw [gapN_bad hi] at h; cases h
    | go k =>
      by_cases hk : 0 < k ∧ k ≤ l.length
      · rw [gapN_go hi hk.1 hk.2] at h
        have h1 : (gapN (l.drop k)).1 + k = n := congrArg Prod.fst h
        have h2 : (gapN (l.drop k)).2 = true := congrArg Prod.snd h
        have hd := ih (l.drop k).length (by simp; omega) (l.drop k) (l'.drop k) (gapN (l.drop k)).1 rfl (Prod.ext rfl h2) (by simp; omega)
          (fun a e => hst a (by rw [List.getElem?_drop] at e; rw [← e]; congr 1; omega)) ((ha.drop k).mono (by omega))
        have hlen := ha.len (by omega)
        rw [gapN_go (item_pre hi (by omega) (ha.mono (by omega))) hk.1 (by omega), hd]
        exact Prod.ext h1 rfl
      · rw [gapN, hi] at h
        simp only at h
        rw [dif_neg hk] at h
        cases h
        exact (hzero rfl).2

theorem gap_take_bad : ∀ (N : Nat) (l : List UInt8) (n : Nat), l.length = N → gapN l = (n, false) → gapN (l.take n) = (n, true) := by
  intro N
  induction N using Nat.strongRecOn with
  | ind N ih =>
    intro l n hl h
    cases hi : item l with
    | stop => rw [gapN_stop hi] at h; cases h
    | bad => rw [gapN_bad hi] at h; cases h; rw [List.take_zero]; exact gapN_stop rfl
    | go k =>
      by_cases hk : 0 < k ∧ k ≤ l.length
      · rw [gapN_go hi hk.1 hk.2] at h
        have h1 : (gapN (l.drop k)).1 + k = n := congrArg Prod.fst h
        have h2 : (gapN (l.drop k)).2 = false := congrArg Prod.snd h
        have hd := ih (l.drop k).length (by simp; omega) (l.drop k) (gapN (l.drop k)).1 rfl (Prod.ext rfl h2)
        have hle : n ≤ l.length := by
          have := gapN_len (l.drop k)
          simp at this
          omega
        rw [gapN_go (item_take hi (by omega) hk.1) hk.1 (by rw [List.length_take]; omega), List.drop_take, show n - k = (gapN (l.drop k)).1 by omega, hd]
        exact Prod.ext h1 rfl
      · rw [gapN, hi] at h
        simp only at h
        rw [dif_neg hk] at h
        cases h

theorem next_pre {s s' : ByteArray} {o o' : Nat} {t : Tok} (ho : o ≤ s.size) (h : nextX s o = .tok t) (hk : t.k ≠ 0) (ha : Agree (rest s o) (rest s' o') (t.en - o)) (hs : Safe (rest s o) (rest s' o') (t.en - o)) :
    nextX s' o' = .tok ⟨t.k, t.t, t.n, t.op, o' + (t.off - o), o' + (t.en - o)⟩ := by
  obtain ⟨h1, h2, h3, h4⟩ := next_tok ho h
  obtain ⟨_, h5, h6⟩ := h4.resolve_left (fun h => hk h.1)
  have hg : t.off = o + (gapN (rest s o)).1 := h2
  obtain ⟨n, hn⟩ : ∃ n, n = (gapN (rest s o)).1 := ⟨_, rfl⟩
  have hgn : gapN (rest s o) = (n, true) := Prod.ext hn.symm h1
  rw [← hn] at hg
  have hgw : gapW s o = (o + n, true) := by unfold gapW; rw [hgn]
  unfold nextX at h
  rw [hgw] at h
  simp only [if_true] at h
  have hA : Agree (rest s (o + n)) (rest s' (o' + n)) (t.en - (o + n)) := by
    rw [← rest_drop, ← rest_drop]
    have := ha.drop n
    rw [show t.en - o - n = t.en - (o + n) by omega] at this
    exact this
  have hS : Safe (rest s (o + n)) (rest s' (o' + n)) (t.en - (o + n)) := by
    rw [← rest_drop, ← rest_drop]
    have := hs.drop (k := n) (by omega)
    rw [show t.en - o - n = t.en - (o + n) by omega] at this
    exact this
  obtain ⟨ht, hlt, hst⟩ := tokAt_pre (by omega) h hk hA hS
  have hg' : gapN (rest s' o') = (n, true) := by
    refine gap_pre _ (rest s o) _ n rfl hgn (by rw [rest_len]; omega) (fun a e => ?_) (ha.mono (by omega))
    rw [nth_byte s o n hlt] at e
    have : s[o + n] = a := Option.some.inj e
    rw [← this]; exact hst
  unfold nextX gapW
  rw [hg']
  simp only [if_true]
  rw [ht, show o' + n + (t.en - (o + n)) = o' + (t.en - o) by omega, show o' + (t.off - o) = o' + n by omega]

theorem toks_det {s : ByteArray} {o : Nat} {L : List Tok} {c : Int} {f : Nat} (h : Toks s o L c f) : ∀ {L' c' f'}, Toks s o L' c' f' → L' = L ∧ c' = c ∧ f' = f := by
  induction h with
  | bad h1 h2 =>
    intro L' c' f' h'
    cases h' with
    | bad _ k2 => rw [h2] at k2; injection k2 with a b; exact ⟨rfl, a.symm, b.symm⟩
    | last _ k2 _ => rw [h2] at k2; cases k2
    | more _ k2 _ _ => rw [h2] at k2; cases k2
  | last h1 h2 h3 =>
    intro L' c' f' h'
    cases h' with
    | bad _ k2 => rw [h2] at k2; cases k2
    | last _ k2 _ => rw [h2] at k2; injection k2 with a; subst a; exact ⟨rfl, rfl, rfl⟩
    | more _ k2 k3 _ => rw [h2] at k2; injection k2 with a; subst a; exact absurd h3 k3
  | more h1 h2 h3 h4 ih =>
    intro L' c' f' h'
    cases h' with
    | bad _ k2 => rw [h2] at k2; cases k2
    | last _ k2 k3 => rw [h2] at k2; injection k2 with a; subst a; exact absurd k3 h3
    | more _ k2 k3 k4 =>
      rw [h2] at k2
      injection k2 with a
      subst a
      obtain ⟨e1, e2, e3⟩ := ih k4
      exact ⟨by rw [e1], e2, e3⟩

theorem scan_eq {s : ByteArray} {L : List Tok} {c : Int} {f : Nat} (hs : s.size ≤ 65536) (h : Toks s 0 L c f) : scanX s = (L, c, f) := by
  obtain ⟨e1, e2, e3⟩ := toks_det h (scan_toks s hs)
  exact Prod.ext e1 (Prod.ext e2 e3)

/-- s' begins as s does, up to m; behind that stands nothing, or a blank, or what stands in s too. -/
structure Pre (s s' : ByteArray) (m : Nat) : Prop where
  le : m ≤ s.size
  le' : m ≤ s'.size
  same : ∀ i, i < m → s'.data.toList[i]? = s.data.toList[i]?
  behind : ∀ b, s'.data.toList[m]? = some b → s.data.toList[m]? = some b ∨ b = 10 ∨ b = 32

theorem Pre.agree {s s' : ByteArray} {m : Nat} (h : Pre s s' m) {o e : Nat} (he : e ≤ m) : Agree (rest s o) (rest s' o) (e - o) := fun i hi => by
  unfold rest
  rw [List.getElem?_drop, List.getElem?_drop]
  exact h.same _ (by omega)
theorem Pre.safe {s s' : ByteArray} {m : Nat} (h : Pre s s' m) {o e : Nat} (ho : o ≤ e) (he : e ≤ m) : Safe (rest s o) (rest s' o) (e - o) := fun b hb => by
  unfold rest at hb ⊢
  rw [List.getElem?_drop, show o + (e - o) = e by omega] at hb ⊢
  by_cases h1 : e = m
  · subst h1; exact h.behind b hb
  · exact .inl (by rw [← h.same e (by omega)]; exact hb)

theorem Pre.next {s s' : ByteArray} {m o : Nat} {t : Tok} (hp : Pre s s' m) (ho : o ≤ s.size) (h : nextX s o = .tok t) (hk : t.k ≠ 0) (he : t.en ≤ m) : nextX s' o = .tok t ∧ o ≤ t.off ∧ t.off < t.en := by
  obtain ⟨_, _, h3, h4⟩ := next_tok ho h
  obtain ⟨_, h5, _⟩ := h4.resolve_left (fun h => hk h.1)
  refine ⟨?_, h3, h5⟩
  rw [next_pre ho h hk (hp.agree he) (hp.safe (by omega) he), show o + (t.off - o) = t.off by omega, show o + (t.en - o) = t.en by omega]

theorem toks_more {s s' : ByteArray} (hp : Pre s s' s.size) {o : Nat} {L : List Tok} {c : Int} {f : Nat} (h : Toks s o L c f) : c = 0 → ∃ r c' f', Toks s' o (L.dropLast ++ r) c' f' := by
  induction h with
  | bad h1 h2 => intro hc; have := next_bad h2; omega
  | last h1 h2 h3 =>
    intro _
    obtain ⟨r, c, f, _, T⟩ := each_toks s' _ _ [] rfl (Nat.le_trans h1 hp.le')
    exact ⟨r, c, f, T⟩
  | more h1 h2 h3 h4 ih =>
    intro hc
    obtain ⟨r, c', f', T⟩ := ih hc
    have h0 := (toks_zero h4 hc).2.1
    refine ⟨r, c', f', ?_⟩
    rw [List.dropLast_cons_of_ne_nil (List.ne_nil_of_length_pos h0), List.cons_append]
    exact .more (Nat.le_trans h1 hp.le') (hp.next h1 h2 h3 h4.le).1 h3 T

theorem pre_append (s m : ByteArray) : Pre s (s ++ ⟨#[10]⟩ ++ m) s.size where
  le := Nat.le_refl _
  le' := by rw [ByteArray.size_append, ByteArray.size_append]; omega
  same i hi := by
    rw [ByteArray.data_append, ByteArray.data_append, Array.toList_append, Array.toList_append, List.append_assoc, List.getElem?_append_left (by simpa using hi)]
  behind b hb := by
    rw [ByteArray.data_append, ByteArray.data_append, Array.toList_append, Array.toList_append, List.append_assoc, List.getElem?_append_right (by simp)] at hb
    simp at hb
    exact .inr (.inl hb.symm)

theorem pre_extract (s : ByteArray) (m : Nat) (h : m ≤ s.size) : Pre s (s.extract 0 m) m := by
  have e : (s.extract 0 m).data.toList = s.data.toList.take m := by
    rw [ByteArray.data_extract, Array.toList_extract, List.extract_eq_take_drop, List.drop_zero, Nat.sub_zero]
  have hz : (s.extract 0 m).size = m := by rw [ByteArray.size_extract]; omega
  exact ⟨h, by omega, fun i hi => by rw [e, List.getElem?_take_of_lt hi], fun b hb => by rw [e, List.getElem?_take_eq_none (Nat.le_refl _)] at hb; cases hb⟩

theorem toks_ends {s : ByteArray} {o : Nat} {L : List Tok} {c : Int} {f : Nat} (h : Toks s o L c f) : o ≤ endOf o L := by
  induction h with
  | bad _ _ => exact Nat.le_refl _
  | last h1 h2 h3 =>
    rename_i o t
    have := next_tok h1 h2
    show o ≤ t.en
    omega
  | more h1 h2 h3 h4 ih =>
    rename_i o t r c f
    obtain ⟨_, _, a, b⟩ := next_tok h1 h2
    show o ≤ endOf t.en r
    omega

theorem rest_cut (s : ByteArray) (o m : Nat) : rest (s.extract 0 m) o = (rest s o).take (m - o) := by
  unfold rest
  rw [ByteArray.data_extract, Array.toList_extract, List.extract_eq_take_drop, List.drop_zero, Nat.sub_zero, List.drop_take]

theorem next_last (s : ByteArray) (o : Nat) (ho : o ≤ s.size) (h : gapW s o = (s.size, true)) : nextX s o = .tok (endTok s.size) := by
  unfold nextX
  rw [h]
  simp only [if_true]
  unfold tokAt
  rw [dif_neg (by omega)]
  rfl

theorem gap_cut (s : ByteArray) (o : Nat) (ho : o ≤ s.size) : gapW (s.extract 0 (gapW s o).1) o = ((gapW s o).1, true) := by
  have e : (gapW s o).1 = o + (gapN (rest s o)).1 := rfl
  unfold gapW at e ⊢
  simp only at e ⊢
  rw [rest_cut, show o + (gapN (rest s o)).1 - o = (gapN (rest s o)).1 by omega]
  have : gapN ((rest s o).take (gapN (rest s o)).1) = ((gapN (rest s o)).1, true) := by
    cases hb : (gapN (rest s o)).2 with
    | true => exact gap_take _ (rest s o) _ rfl (Prod.ext rfl hb)
    | false => exact gap_take_bad _ (rest s o) _ rfl (Prod.ext rfl hb)
  rw [this]

/-- Cut off ahead of its fault a text has the same tokens, and then its end. -/
theorem toks_first {s : ByteArray} {o : Nat} {L : List Tok} {c : Int} {f : Nat} (h : Toks s o L c f) : c ≠ 0 → Toks (s.extract 0 (gapW s (endOf o L)).1) o (L ++ [endTok (gapW s (endOf o L)).1]) 0 0 := by
  induction h with
  | bad h1 h2 =>
    rename_i o c f
    intro _
    have hg := gapW_le s o h1
    have hz : (s.extract 0 (gapW s o).1).size = (gapW s o).1 := by rw [ByteArray.size_extract]; omega
    have hc := gap_cut s o h1
    show Toks (s.extract 0 (gapW s o).1) o [endTok (gapW s o).1] 0 0
    have := next_last (s.extract 0 (gapW s o).1) o (by omega) (by rw [hz]; exact hc)
    rw [hz] at this
    exact .last (by omega) this rfl
  | last h1 h2 h3 => intro hc; exact absurd rfl hc
  | more h1 h2 h3 h4 ih =>
    rename_i o t r c f
    intro hc
    have T := ih hc
    have hb := toks_bad h4 hc
    have hg := gapW_le s _ hb.2.1
    have he := toks_ends h4
    have hp := pre_extract s (gapW s (endOf t.en r)).1 hg.2
    have hn := hp.next h1 h2 h3 (by omega)
    refine .more ?_ hn.1 h3 T
    have := hp.le'
    show o ≤ (s.extract 0 (gapW s (endOf t.en r)).1).size
    omega

theorem textF_cut {s : ByteArray} {g f : Nat} (hf : f ≤ s.size) : ∀ (N j : Nat) (vs : List Int), s.size - (g + j) = N → textF s g (g + j) vs = .bad 12 f → textF (s.extract 0 f) g (g + j) vs = .bad 11 g ∧ g + j ≤ f ∧ f < s.size := by
  have hp := pre_extract s f hf
  have hz : (s.extract 0 f).size = f := by rw [ByteArray.size_extract]; omega
  intro N
  induction N using Nat.strongRecOn with
  | ind N ih =>
    intro j vs hN h
    rw [textF] at h
    split at h
    · next hlt =>
      split at h
      · injection h with h _; cases h
      · next h32 =>
        split at h
        · cases h
        · next h34 =>
          split at h
          · next h92 =>
            split at h
            · injection h with _ h
              refine ⟨?_, by omega, by omega⟩
              rw [textF, dif_neg (by omega)]
            · next hn0 =>
              split at h
              · injection h with h _; cases h
              · next h255 =>
                obtain ⟨r1, r2, r3⟩ := ih (s.size - (g + (j + (escX (s.extract (g + j) s.size)).2.toNat))) (by omega) (j + (escX (s.extract (g + j) s.size)).2.toNat) _ rfl (by rw [← Nat.add_assoc]; exact h)
                have ha : Agree (rest s g) (rest (s.extract 0 f) g) (f - g) := hp.agree (Nat.le_refl _)
                obtain ⟨hlt', hb⟩ := byte_pre ha (j := j) (by omega) hlt
                refine ⟨?_, by omega, r3⟩
                rw [textF, dif_pos hlt', hb, if_neg h32, if_neg h34, if_pos h92]
                have hesc : escX ((s.extract 0 f).extract (g + j) (s.extract 0 f).size) = escX (s.extract (g + j) s.size) := by
                  refine escX_pre (fun e => hn0 (by rw [e]; rfl)) ?_
                  rw [extract_rest, extract_rest, ← rest_drop, ← rest_drop]
                  exact (ha.drop j).mono (by omega)
                rw [hesc, dif_neg hn0, if_neg h255, Nat.add_assoc]
                exact r1
          · next h92 =>
            split at h
            · injection h with h _; cases h
            · next h255 =>
              obtain ⟨r1, r2, r3⟩ := ih (s.size - (g + (j + 1))) (by omega) (j + 1) _ rfl (by rw [← Nat.add_assoc]; exact h)
              have ha : Agree (rest s g) (rest (s.extract 0 f) g) (f - g) := hp.agree (Nat.le_refl _)
              obtain ⟨hlt', hb⟩ := byte_pre ha (j := j) (by omega) hlt
              refine ⟨?_, by omega, r3⟩
              rw [textF, dif_pos hlt', hb, if_neg h32, if_neg h34, if_neg h92, if_neg h255, Nat.add_assoc]
              exact r1
    · injection h with h _; cases h

theorem tokAt_cut {s : ByteArray} {g f : Nat} (h : tokAt s g = .bad 12 f) : tokAt (s.extract 0 f) g = .bad 11 g ∧ g < f ∧ ∃ hlt : g < s.size, Start s[g] := by
  have hbd := tokAt_bad h
  have hlt : g < s.size := hbd.1
  have hn256 := s[g].toNat_lt
  unfold tokAt at h
  rw [dif_pos hlt] at h
  split at h
  · unfold wordX at h
    simp only at h
    repeat' split at h
    all_goals first | (injection h with h1 h2; cases h1; done) | (cases h; done)
  · next hw =>
    split at h
    · unfold intX at h
      split at h
      · cases h
      · injection h with h _; cases h
    · split at h
      · next h34 =>
        obtain ⟨r1, r2, r3⟩ := textF_cut (g := g) (by omega) _ 1 [] rfl h
        have hp := pre_extract s f (by omega)
        have ha : Agree (rest s g) (rest (s.extract 0 f) g) (f - g) := hp.agree (Nat.le_refl _)
        obtain ⟨hlt', hb⟩ := byte_pre ha (j := 0) (by omega) hlt
        simp only [Nat.add_zero] at hlt' hb
        refine ⟨?_, by omega, hlt, start_of (start_beg ⟨_, hn256⟩ (.inr (.inr h34)))⟩
        unfold tokAt
        rw [dif_pos hlt', hb, if_neg hw, beg_rest, if_neg, if_pos h34]
        · exact r1
        · unfold begL
          rw [first_byte _ g hlt', hb]
          simp only [Option.getD_some]
          rw [h34]
          simp [bDig]
      · unfold punctX at h
        cases hq : punctL marksT (rest s g) with
        | none => rw [hq] at h; injection h with h _; cases h
        | some x => obtain ⟨n, k, op⟩ := x; rw [hq] at h; cases h

theorem next_cut {s : ByteArray} {o f : Nat} (ho : o ≤ s.size) (h : nextX s o = .bad 12 f) : nextX (s.extract 0 f) o = .bad 11 (gapW s o).1 ∧ (gapW s o).1 < f ∧ f < s.size := by
  have hb := next_bad h
  obtain ⟨h1, _, _, _, h5, _⟩ := hb.resolve_left (fun h => by omega)
  obtain ⟨n, hn⟩ : ∃ n, n = (gapN (rest s o)).1 := ⟨_, rfl⟩
  have hgn : gapN (rest s o) = (n, true) := Prod.ext hn.symm h1
  have hgw : gapW s o = (o + n, true) := by unfold gapW; rw [hgn]
  unfold nextX at h
  rw [hgw] at h ⊢
  simp only [if_true] at h
  obtain ⟨r1, r2, hlt, hst⟩ := tokAt_cut h
  have hp := pre_extract s f (by omega)
  have ha : Agree (rest s o) (rest (s.extract 0 f) o) (f - o) := hp.agree (Nat.le_refl _)
  have hg' : gapN (rest (s.extract 0 f) o) = (n, true) := by
    refine gap_pre _ (rest s o) _ n rfl hgn (by rw [rest_len]; omega) (fun a e => ?_) (ha.mono (by omega))
    rw [nth_byte s o n hlt] at e
    have : s[o + n] = a := Option.some.inj e
    rw [← this]; exact hst
  refine ⟨?_, r2, h5⟩
  unfold nextX gapW
  rw [hg']
  simp only [if_true]
  exact r1

/-- Cut off at an escape that is none a text has the same tokens, and a text that is not closed. -/
theorem toks_escape {s : ByteArray} {o : Nat} {L : List Tok} {c : Int} {f : Nat} (h : Toks s o L c f) : c = 12 → Toks (s.extract 0 f) o L 11 (gapW s (endOf o L)).1 ∧ (gapW s (endOf o L)).1 < f ∧ f < s.size := by
  induction h with
  | bad h1 h2 =>
    rename_i o c f
    rintro rfl
    obtain ⟨r1, r2, r3⟩ := next_cut h1 h2
    have hg := gapW_le s o h1
    have hz : (s.extract 0 f).size = f := by rw [ByteArray.size_extract]; omega
    exact ⟨.bad (by omega) r1, r2, r3⟩
  | last h1 h2 h3 => intro hc; cases hc
  | more h1 h2 h3 h4 ih =>
    rename_i o t r c f
    intro hc
    obtain ⟨T, r2, r3⟩ := ih hc
    have hb := toks_bad h4 (by omega)
    have hg := gapW_le s _ hb.2.1
    have he := toks_ends h4
    have hp := pre_extract s f (by omega)
    have hn := hp.next h1 h2 h3 (by omega)
    have hz := hp.le'
    exact ⟨.more (by omega) hn.1 h3 T, r2, r3⟩

/-- The fault's place, but for escapes, is where the gap ends. -/
theorem toks_place {s : ByteArray} {o : Nat} {L : List Tok} {c : Int} {f : Nat} (h : Toks s o L c f) (hc : c ≠ 0) : f < s.size ∧ (c ≠ 12 → f = (gapW s (endOf o L)).1) := by
  obtain ⟨h1, h2, _⟩ := toks_bad h hc
  rcases next_bad h1 with ⟨a, b, d⟩ | ⟨a, _, _, _, d, e⟩
  · have := gap_bad_lt s _ h2 a
    exact ⟨by omega, fun _ => d⟩
  · exact ⟨d, e⟩

/-- A token's spelling, alone, is that token. -/
theorem alone_scan {s : ByteArray} {o : Nat} {t : Tok} (hs : s.size ≤ 65536) (ho : o ≤ s.size) (h : nextX s o = .tok t) (hk : t.k ≠ 0) :
    scanX (s.extract t.off t.en) = ([⟨t.k, t.t, t.n, t.op, 0, t.en - t.off⟩, endTok (t.en - t.off)], 0, 0) := by
  obtain ⟨h1, h2, h3, h4⟩ := next_tok ho h
  obtain ⟨_, h5, h6⟩ := h4.resolve_left (fun h => hk h.1)
  have hg : nextX s o = tokAt s t.off := by unfold nextX; rw [h1, ← h2]; rfl
  rw [hg] at h
  have hz : (s.extract t.off t.en).size = t.en - t.off := by rw [ByteArray.size_extract]; omega
  have hr : rest (s.extract t.off t.en) 0 = (rest s t.off).take (t.en - t.off) := by
    have := extract_list s t.off (t.en - t.off)
    rw [show t.off + (t.en - t.off) = t.en by omega] at this
    unfold rest at this ⊢
    rw [List.drop_zero]; exact this
  have ha : Agree (rest s t.off) (rest (s.extract t.off t.en) 0) (t.en - t.off) := fun i hi => by rw [hr, List.getElem?_take_of_lt hi]
  have hsf : Safe (rest s t.off) (rest (s.extract t.off t.en) 0) (t.en - t.off) := fun b hb => by rw [hr, List.getElem?_take_eq_none (Nat.le_refl _)] at hb; cases hb
  obtain ⟨r1, hlt, hst⟩ := tokAt_pre (by omega) h hk ha hsf
  rw [Nat.zero_add] at r1
  generalize hS : s.extract t.off t.en = S at *
  have hg0 : gapW S 0 = (0, true) := by
    obtain ⟨hlt', hb⟩ := byte_pre ha (j := 0) (by omega) hlt
    simp only [Nat.add_zero] at hlt' hb
    unfold gapW
    rw [rest_cons S 0 hlt', hb, gapN_stop (item_start hst _)]
    rfl
  have n0 : nextX S 0 = .tok ⟨t.k, t.t, t.n, t.op, 0, t.en - t.off⟩ := by
    unfold nextX
    rw [hg0]
    simp only [if_true]
    exact r1
  have n1 : nextX S (t.en - t.off) = .tok (endTok (t.en - t.off)) := by
    have := next_last S (t.en - t.off) (by omega) (by rw [hz]; exact gapW_end S _ (by omega))
    rw [hz] at this
    exact this
  exact scan_eq (by omega) (.more (Nat.zero_le _) n0 hk (.last (by show t.en - t.off ≤ _; omega) n1 rfl))

end Go.Proofs.YtchhophblejmeaaGreatDoor

namespace Go.Proofs.YtchhophblejmeaaGreatDoor
set_option linter.unusedSimpArgs false
set_option linter.unusedVariables false
open Go.RowKit

/-- The bytes s, with a byte behind them that ok lets stand (or none), are the token x, wherever they stand. -/
structure Tkn (s : List UInt8) (x : Tok) (ok : UInt8 → Bool) : Prop where
  kind : x.k ≠ 0
  head : ∃ b r, s = b :: r ∧ Start b
  at_ : ∀ (T : ByteArray) (o : Nat) (R : List UInt8), rest T o = s ++ R → (∀ b, R.head? = some b → ok b = true) → nextX T o = .tok ⟨x.k, x.t, x.n, x.op, o, o + s.length⟩
def okAny (_ : UInt8) : Bool := true
def okWord (b : UInt8) : Bool := !bWord (b.toNat : Int)
def okEq (b : UInt8) : Bool := b != 61
theorem here_lt {T : ByteArray} {o : Nat} {b : UInt8} {r : List UInt8} (h : rest T o = b :: r) : ∃ ho : o < T.size, T[o] = b := by
  have ho : o < T.size := by
    have := rest_len T o
    rw [h] at this
    simp at this
    omega
  have := first_byte T o ho
  rw [h] at this
  exact ⟨ho, (Option.some.inj this).symm⟩
theorem next_here {T : ByteArray} {o : Nat} {b : UInt8} {r : List UInt8} (h : rest T o = b :: r) (hs : Start b) : nextX T o = tokAt T o := by
  have hg : gapW T o = (o, true) := by
    unfold gapW
    rw [h, gapN_stop (item_start hs r)]
    rfl
  unfold nextX
  rw [hg]
  rfl
theorem run_all : ∀ (s R : List UInt8), (∀ b ∈ s, bWord (b.toNat : Int) = true) → (∀ b, R.head? = some b → okWord b = true) → runC (s ++ R) = s.length
  | [], R, _, hR => by
    cases R with
    | nil => rfl
    | cons b r =>
      have := hR b rfl
      unfold okWord at this
      show (if bWord (b.toNat : Int) then _ else 0) = 0
      rw [if_neg (by simpa using this)]
  | a :: s, R, hs, hR => by
    show (if bWord (a.toNat : Int) then runC (s ++ R) + 1 else 0) = _
    rw [if_pos (hs a (by simp)), run_all s R (fun b hb => hs b (by simp [hb])) hR]
    rfl
theorem extract_is {T : ByteArray} {o : Nat} {s R : List UInt8} (h : rest T o = s ++ R) : T.extract o (o + s.length) = ⟨s.toArray⟩ := by
  have e : (T.extract o (o + s.length)).data.toList = s := by rw [extract_list, h, List.take_left]
  have e2 := congrArg List.toArray e
  simp only [Array.toArray_toList] at e2
  exact congrArg ByteArray.mk e2
/-- A word: what kind it is. -/
def wordTok (s : List UInt8) : Tok := if s = [110, 111, 116] then ⟨10, ⟨#[]⟩, 0, 0, 0, 0⟩ else if bLow ((s.headD 0).toNat : Int) then ⟨1, ⟨s.toArray⟩, 0, 0, 0, 0⟩ else ⟨2, ⟨s.toArray⟩, 0, 0, 0, 0⟩
theorem word_tkn {b : UInt8} {r : List UInt8} (hw : ∀ c ∈ b :: r, bWord (c.toNat : Int) = true) (h0 : (bLow (b.toNat : Int) || (bUp (b.toNat : Int) || (b.toNat : Int) == 95)) = true) (hl : (b :: r).length ≤ 64) : Tkn (b :: r) (wordTok (b :: r)) okWord where
  kind := by
    unfold wordTok
    split
    · simp
    · split <;> simp
  head := ⟨b, r, rfl, start_of (start_word ⟨_, b.toNat_lt⟩ h0)⟩
  at_ T o R hr hR := by
    have hst : Start b := start_of (start_word ⟨_, b.toNat_lt⟩ h0)
    rw [next_here hr hst]
    obtain ⟨ho, hb⟩ := here_lt hr
    unfold tokAt
    rw [dif_pos ho, hb, if_pos h0]
    have hrun : runC (rest T o) = (b :: r).length := by rw [hr]; exact run_all _ _ hw hR
    unfold wordX
    simp only
    rw [hrun, extract_is hr, if_neg (by omega)]
    unfold wordTok
    have e : ((⟨(b :: r).toArray⟩ : ByteArray).toList == [110, 111, 116]) = decide (b :: r = [110, 111, 116]) := by
      rw [show (⟨(b :: r).toArray⟩ : ByteArray).toList = b :: r from by rw [ByteArray.toList_eq]]
      rw [Bool.eq_iff_iff]
      simp
    rw [e]
    by_cases hn : b :: r = [110, 111, 116]
    · rw [if_pos (by simpa using hn), if_pos hn]
    · rw [if_neg (by simpa using hn), if_neg hn]
      have e2 : (⟨(b :: r).toArray⟩ : ByteArray).data[0]! = b := rfl
      rw [e2, show ((b :: r).headD 0) = b from rfl]
      split <;> rfl
/-- An integer: a digit or a sign, digits behind it. -/
theorem int_tkn {b : UInt8} {r : List UInt8} {v : Int} (hw : ∀ c ∈ r, bWord (c.toNat : Int) = true) (h0 : bDig (b.toNat : Int) = true ∨ ((b.toNat : Int) = 45 ∧ ∃ d q, r = d :: q ∧ bDig (d.toNat : Int) = true)) (hp : Lib.parseIntB 64 (b :: r) = .ok v) : Tkn (b :: r) ⟨3, ⟨#[]⟩, v, 0, 0, 0⟩ okWord where
  kind := by simp
  head := ⟨b, r, rfl, start_of (start_beg ⟨_, b.toNat_lt⟩ (by rcases h0 with h | h; exact .inl h; exact .inr (.inl h.1)))⟩
  at_ T o R hr hR := by
    have hst : Start b := start_of (start_beg ⟨_, b.toNat_lt⟩ (by rcases h0 with h | h; exact .inl h; exact .inr (.inl h.1)))
    rw [next_here hr hst]
    obtain ⟨ho, hb⟩ := here_lt hr
    have hnw : (bLow (b.toNat : Int) || (bUp (b.toNat : Int) || (b.toNat : Int) == 95)) = false := by
      have hlt := b.toNat_lt
      have hd : bDig (b.toNat : Int) = true ∨ (b.toNat : Int) = 45 := by rcases h0 with h | h; exact .inl h; exact .inr h.1
      have key : ∀ n : Fin 256, (bDig (n.val : Int) = true ∨ (n.val : Int) = 45) → (bLow (n.val : Int) || (bUp (n.val : Int) || (n.val : Int) == 95)) = false := by decide +kernel
      exact key ⟨b.toNat, hlt⟩ hd
    have hbeg : begL (rest T o) = true := by
      rw [hr]
      unfold begL
      rcases h0 with h | ⟨h, d, q, rfl, hd⟩
      · simp [h]
      · simp [h, hd]
    unfold tokAt
    rw [dif_pos ho, hb, hnw, beg_rest, hbeg]
    simp only [Bool.false_eq_true, if_false, if_true]
    have hr1 : rest T (o + 1) = r ++ R := by rw [← rest_drop, hr]; rfl
    have hrun : runC (rest T (o + 1)) = r.length := by rw [hr1]; exact run_all _ _ hw hR
    unfold intX
    rw [hrun, show o + 1 + r.length = o + (b :: r).length by simp; omega, extract_is hr]
    rw [show (⟨(b :: r).toArray⟩ : ByteArray).data.toList = b :: r from rfl, hp]
/-- A mark. -/
theorem mark_tkn {b : UInt8} {r : List UInt8} {k op : Int} {ok : UInt8 → Bool} (hst : blankN (b.toNat : Int) = false ∧ b.toNat ≠ 37 ∧ b.toNat ≠ 47) (hw : (bLow (b.toNat : Int) || (bUp (b.toNat : Int) || (b.toNat : Int) == 95)) = false) (hd : bDig (b.toNat : Int) = false ∧ (b.toNat : Int) ≠ 45) (h34 : ¬ (b.toNat : Int) = 34) (hk : k ≠ 0) (hp : ∀ R : List UInt8, (∀ c, R.head? = some c → ok c = true) → P2 b (r ++ R)[0]? = some ((b :: r).length, k, op)) : Tkn (b :: r) ⟨k, ⟨#[]⟩, 0, op, 0, 0⟩ ok where
  kind := hk
  head := ⟨b, r, rfl, start_of hst⟩
  at_ T o R hr hR := by
    rw [next_here hr (start_of hst)]
    obtain ⟨ho, hb⟩ := here_lt hr
    have hbeg : begL (rest T o) = false := by
      rw [hr]
      unfold begL
      simp [hd.1, hd.2]
    unfold tokAt
    rw [dif_pos ho, hb, hw, beg_rest, hbeg, if_neg (by decide), if_neg (by decide), if_neg h34]
    unfold punctX
    rw [hr, show b :: r ++ R = b :: (r ++ R) from rfl, punct_two, hp R hR]
    rfl
theorem tk_dot : Tkn [46] ⟨8, ⟨#[]⟩, 0, 0, 0, 0⟩ okAny := mark_tkn (by decide) (by decide) (by decide) (by decide) (by decide) fun R _ => by unfold P2 P1; simp
theorem tk_com : Tkn [44] ⟨7, ⟨#[]⟩, 0, 0, 0, 0⟩ okAny := mark_tkn (by decide) (by decide) (by decide) (by decide) (by decide) fun R _ => by unfold P2 P1; simp
theorem tk_open : Tkn [40] ⟨5, ⟨#[]⟩, 0, 0, 0, 0⟩ okAny := mark_tkn (by decide) (by decide) (by decide) (by decide) (by decide) fun R _ => by unfold P2 P1; simp
theorem tk_shut : Tkn [41] ⟨6, ⟨#[]⟩, 0, 0, 0, 0⟩ okAny := mark_tkn (by decide) (by decide) (by decide) (by decide) (by decide) fun R _ => by unfold P2 P1; simp
theorem tk_arrow : Tkn [58, 45] ⟨9, ⟨#[]⟩, 0, 0, 0, 0⟩ okAny := mark_tkn (by decide) (by decide) (by decide) (by decide) (by decide) fun R _ => by unfold P2; simp
theorem tk_eq : Tkn [61] ⟨11, ⟨#[]⟩, 0, 1, 0, 0⟩ okAny := mark_tkn (by decide) (by decide) (by decide) (by decide) (by decide) fun R _ => by unfold P2 P1; simp
theorem tk_ne : Tkn [33, 61] ⟨11, ⟨#[]⟩, 0, 2, 0, 0⟩ okAny := mark_tkn (by decide) (by decide) (by decide) (by decide) (by decide) fun R _ => by unfold P2; simp
theorem tk_le : Tkn [60, 61] ⟨11, ⟨#[]⟩, 0, 4, 0, 0⟩ okAny := mark_tkn (by decide) (by decide) (by decide) (by decide) (by decide) fun R _ => by unfold P2; simp
theorem tk_ge : Tkn [62, 61] ⟨11, ⟨#[]⟩, 0, 6, 0, 0⟩ okAny := mark_tkn (by decide) (by decide) (by decide) (by decide) (by decide) fun R _ => by unfold P2; simp
theorem head_get (R : List UInt8) : ([] ++ R)[0]? = R.head? := by cases R <;> rfl
theorem tk_lt : Tkn [60] ⟨11, ⟨#[]⟩, 0, 3, 0, 0⟩ okEq := mark_tkn (by decide) (by decide) (by decide) (by decide) (by decide) fun R h => by
  rw [head_get]
  cases e : R.head? with
  | none => unfold P2 P1; simp
  | some c => have := h c e; unfold okEq at this; unfold P2 P1; simp at this; simp [this]
theorem tk_gt : Tkn [62] ⟨11, ⟨#[]⟩, 0, 5, 0, 0⟩ okEq := mark_tkn (by decide) (by decide) (by decide) (by decide) (by decide) fun R h => by
  rw [head_get]
  cases e : R.head? with
  | none => unfold P2 P1; simp
  | some c => have := h c e; unfold okEq at this; unfold P2 P1; simp at this; simp [this]
/-- A text in its marks. -/
theorem text_tkn {q : List UInt8} {x : Tok} (h : textX ⟨(34 :: q).toArray⟩ 0 = .tok x) (hx : x.en = q.length + 1) (hk : x.k = 4 ∧ x.n = 0 ∧ x.op = 0) : Tkn (34 :: q) x okAny where
  kind := by rw [hk.1]; decide
  head := ⟨34, q, rfl, start_of (by decide)⟩
  at_ T o R hr hR := by
    rw [next_here hr (start_of (by decide))]
    obtain ⟨ho, hb⟩ := here_lt hr
    have hbeg : begL (rest T o) = false := by
      rw [hr]
      unfold begL bDig
      simp
    unfold tokAt
    rw [dif_pos ho, hb, beg_rest, hbeg, if_neg (by decide), if_neg (by decide), if_pos (by decide)]
    unfold textX at h ⊢
    have := textF_pre (s := ⟨(34 :: q).toArray⟩) (s' := T) (g := 0) (g' := o) _ 1 [] x rfl h (fun i hi => by
      rw [hr, hx] at *
      rw [show rest (⟨(34 :: q).toArray⟩ : ByteArray) 0 = 34 :: q from rfl, List.getElem?_append_left (by simp; omega)])
    rw [this, hx]
    simp
/-- A text of plain bytes. -/
theorem textF_plain (T : ByteArray) (o : Nat) : ∀ (q R : List UInt8) (i : Nat) (vs : List Int), rest T i = q ++ 34 :: R → (∀ b ∈ q, 32 ≤ b.toNat ∧ b.toNat ≠ 34 ∧ b.toNat ≠ 92) → vs.length + q.length ≤ 255 → textF T o i vs = .tok ⟨4, strOf (vs ++ q.map fun b => (b.toNat : Int)), 0, 0, o, i + q.length + 1⟩
  | [], R, i, vs, hr, _, _ => by
    obtain ⟨ho, hb⟩ := here_lt hr
    rw [textF, dif_pos ho, hb, if_neg (by decide), if_pos (by decide)]
    simp
  | a :: q, R, i, vs, hr, hq, hl => by
    obtain ⟨ho, hb⟩ := here_lt hr
    obtain ⟨h1, h2, h3⟩ := hq a (by simp)
    simp only [List.length_cons] at hl
    rw [textF, dif_pos ho, hb, if_neg (by omega), if_neg (by omega), if_neg (by omega), if_neg (by omega)]
    rw [textF_plain T o q R (i + 1) (vs ++ [(a.toNat : Int)]) (by rw [← rest_drop, hr]; rfl) (fun b hb => hq b (by simp [hb])) (by simp; omega)]
    simp only [List.map_cons, List.append_assoc, List.singleton_append, List.length_cons]
    congr 2
    omega

/-- A gap: whatever begins a token may stand behind it, or nothing. -/
def Gp (g : List UInt8) : Prop := ∀ R : List UInt8, (R = [] ∨ ∃ b r, R = b :: r ∧ Start b) → gapN (g ++ R) = (g.length, true)
theorem gp_nil : Gp [] := fun R h => by
  rw [List.nil_append]
  rcases h with rfl | ⟨b, r, rfl, hs⟩
  · exact gapN_stop rfl
  · exact gapN_stop (item_start hs r)
theorem gp_go {p g : List UInt8} (hp : ∀ R, item (p ++ R) = .go p.length) (h0 : 0 < p.length) (hg : Gp g) : Gp (p ++ g) := fun R hR => by
  rw [List.append_assoc, gapN_go (hp _) h0 (by simp), List.drop_left, hg R hR]
  simp
  omega
theorem gp_blank {b : UInt8} (h : blankN (b.toNat : Int) = true) {g : List UInt8} (hg : Gp g) : Gp (b :: g) := gp_go (p := [b]) (fun R => by rw [List.singleton_append, item_cons, if_pos h]; rfl) (by simp) hg
/-- A piece of a text: a gap, a token, what may stand behind it. -/
structure Pc where
  g : List UInt8
  s : List UInt8
  x : Tok
  ok : UInt8 → Bool
def txt : List Pc → List UInt8 → List UInt8
  | [], e => e
  | p :: ps, e => p.g ++ (p.s ++ txt ps e)
def tks : Nat → List Pc → List UInt8 → List Tok
  | o, [], e => [endTok (o + e.length)]
  | o, p :: ps, e => ⟨p.x.k, p.x.t, p.x.n, p.x.op, o + p.g.length, o + p.g.length + p.s.length⟩ :: tks (o + p.g.length + p.s.length) ps e
def PcOk (e : List UInt8) : List Pc → Prop
  | [] => True
  | p :: ps => Gp p.g ∧ Tkn p.s p.x p.ok ∧ (∀ b, (txt ps e).head? = some b → p.ok b = true) ∧ PcOk e ps
theorem rest_at {T : ByteArray} {o : Nat} {p R : List UInt8} (h : rest T o = p ++ R) : rest T (o + p.length) = R := by
  rw [← rest_drop, h, List.drop_left]
theorem rest_here {T : ByteArray} {o : Nat} {s R : List UInt8} (h : rest T o = s ++ R) (hs : s ≠ []) : o + s.length ≤ T.size := by
  have := rest_len T o
  rw [h, List.length_append] at this
  have h2 : 0 < s.length := List.length_pos_iff.2 hs
  omega
/-- Lex makes of a text that is put together just its tokens. -/
theorem made_toks {T : ByteArray} {e : List UInt8} (he : Gp e) : ∀ (ps : List Pc) (o : Nat), o ≤ T.size → rest T o = txt ps e → PcOk e ps → Toks T o (tks o ps e) 0 0
  | [], o, ho, hr, _ => by
    have hl : e.length = T.size - o := by have := rest_len T o; rw [hr] at this; exact this
    have hg : gapW T o = (T.size, true) := by
      unfold gapW
      rw [hr]
      have := he [] (.inl rfl)
      rw [List.append_nil] at this
      show (o + (gapN e).1, (gapN e).2) = _
      rw [this]
      exact Prod.ext (by simp only; omega) rfl
    show Toks T o [endTok (o + e.length)] 0 0
    rw [show o + e.length = T.size by omega]
    exact .last ho (next_last T o ho hg) rfl
  | p :: ps, o, ho, hr, hp => by
    obtain ⟨h1, h2, h3, h4⟩ := hp
    obtain ⟨b, r, hs, hst⟩ := h2.head
    have hr0 : rest T o = p.g ++ (p.s ++ txt ps e) := hr
    have hr1 := rest_at hr0
    have hne : p.s ≠ [] := by rw [hs]; simp
    have hle := rest_here hr1 hne
    have hg0 : gapW T o = (o + p.g.length, true) := by
      unfold gapW
      rw [hr0, h1 _ (.inr ⟨b, r ++ txt ps e, by rw [hs]; rfl, hst⟩)]
    have hg1 : gapW T (o + p.g.length) = (o + p.g.length, true) := by
      unfold gapW
      rw [hr1, hs, show b :: r ++ txt ps e = b :: (r ++ txt ps e) from rfl, gapN_stop (item_start hst _)]
      rfl
    have hn : nextX T o = nextX T (o + p.g.length) := by unfold nextX; rw [hg0, hg1]
    have hx := h2.at_ T _ _ hr1 h3
    refine .more ho (hn.trans hx) h2.kind ?_
    exact made_toks he ps _ hle (rest_at hr1) h4
end Go.Proofs.YtchhophblejmeaaGreatDoor

namespace Go.Proofs.YtchhophblejmeaaGreatDoor
set_option linter.unusedSimpArgs false
set_option linter.unusedVariables false
open Go.RowKit
open Go.Lib (decDigits itoa parseUintM parseUintB parseIntB)

theorem dig_nat {d : Nat} (h : d < 10) : (UInt8.ofNat (48 + d)).toNat = 48 + d := by
  rw [UInt8.toNat_ofNat']; omega
theorem dec_digs : ∀ (u : Nat), ∀ b ∈ decDigits u, 48 ≤ b.toNat ∧ b.toNat ≤ 57 := by
  intro u
  induction u using Nat.strongRecOn with
  | ind u ih =>
    intro b hb
    rw [decDigits] at hb
    split at hb
    · next h =>
      simp only [List.mem_singleton] at hb
      rw [hb, dig_nat h]; omega
    · next h =>
      rcases List.mem_append.1 hb with hb | hb
      · exact ih (u / 10) (by omega) b hb
      · simp only [List.mem_singleton] at hb
        rw [hb, dig_nat (by omega)]; omega
theorem dec_ne (u : Nat) : decDigits u ≠ [] := by
  rw [decDigits]
  split <;> simp
theorem dec_parse {M : Nat} (hM : M < 18446744073709551616) : ∀ (u : Nat), u ≤ M → ∀ r, parseUintM M 0 (decDigits u ++ r) = parseUintM M u r := by
  intro u
  induction u using Nat.strongRecOn with
  | ind u ih =>
    intro hu r
    rw [decDigits]
    split
    · next h =>
      rw [List.singleton_append, parseUintM, dig_nat h, if_pos (by omega), if_neg (by omega), if_neg (by omega)]
      congr 1
      omega
    · next h =>
      rw [List.append_assoc, ih (u / 10) (by omega) (by omega), List.singleton_append, parseUintM, dig_nat (by omega), if_pos (by omega), if_neg (by omega), if_neg (by omega)]
      congr 1
      omega
theorem zero_parse {M : Nat} (r : List UInt8) : parseUintM M 0 (48 :: r) = parseUintM M 0 r := by
  rw [parseUintM, if_pos (by decide), if_neg (by decide), if_neg (by show ¬ M < 0; omega)]
  rfl
/-- Zeros ahead and all: what is read. -/
def zeros : Nat → List UInt8
  | 0 => []
  | n + 1 => 48 :: zeros n
theorem zeros_parse {M : Nat} (r : List UInt8) : ∀ z, parseUintM M 0 (zeros z ++ r) = parseUintM M 0 r
  | 0 => rfl
  | z + 1 => by rw [zeros, List.cons_append, zero_parse, zeros_parse r z]
theorem num_parse (z u : Nat) (hu : u < 18446744073709551616) : parseUintB 64 (zeros z ++ decDigits u) = .ok u := by
  have hne : zeros z ++ decDigits u ≠ [] := fun e => dec_ne u (List.append_eq_nil_iff.1 e).2
  unfold parseUintB
  rw [if_neg hne, zeros_parse]
  have := dec_parse (M := 2 ^ 64 - 1) (by decide) u (by omega) []
  rw [List.append_nil] at this
  rw [this, parseUintM]
theorem num_head (z u : Nat) : ∃ b r, zeros z ++ decDigits u = b :: r ∧ 48 ≤ b.toNat ∧ b.toNat ≤ 57 := by
  cases z with
  | succ z => exact ⟨48, _, rfl, by decide, by decide⟩
  | zero =>
    cases h : decDigits u with
    | nil => exact absurd h (dec_ne u)
    | cons b r => exact ⟨b, r, rfl, dec_digs u b (by rw [h]; simp)⟩
theorem zeros_digs (b : UInt8) : ∀ z, b ∈ zeros z → 48 ≤ b.toNat ∧ b.toNat ≤ 57
  | 0, hb => by simp [zeros] at hb
  | z + 1, hb => by
    rw [zeros] at hb
    rcases List.mem_cons.1 hb with rfl | hb
    · decide
    · exact zeros_digs b z hb
theorem num_digs (z u : Nat) : ∀ b ∈ zeros z ++ decDigits u, 48 ≤ b.toNat ∧ b.toNat ≤ 57 := fun b hb => by
  rcases List.mem_append.1 hb with hb | hb
  · exact zeros_digs b z hb
  · exact dec_digs u b hb
theorem pos_parse (z u : Nat) (hu : u < 9223372036854775808) : parseIntB 64 (zeros z ++ decDigits u) = .ok (u : Int) := by
  obtain ⟨b, r, e, h1, h2⟩ := num_head z u
  have hp := num_parse z u (by omega)
  rw [e] at hp ⊢
  unfold parseIntB
  simp only
  rw [if_neg (by omega), hp]
  simp only
  rw [if_neg (by show ¬ (¬ b.toNat = 45 ∧ 9223372036854775808 ≤ u); omega), if_neg (by omega), if_neg (by omega)]
theorem neg_parse (z u : Nat) (hu : u ≤ 9223372036854775808) : parseIntB 64 (45 :: (zeros z ++ decDigits u)) = .ok (-(u : Int)) := by
  have hp := num_parse z u (by omega)
  unfold parseIntB
  simp only
  rw [if_pos (by right; decide), hp]
  simp only
  rw [if_neg (by simp), if_neg (by show ¬ ((45 : UInt8).toNat = 45 ∧ 9223372036854775808 < u); omega), if_pos (by decide)]
theorem dig_word : ∀ n : Fin 256, 48 ≤ n.val ∧ n.val ≤ 57 → bDig (n.val : Int) = true ∧ bWord (n.val : Int) = true := by decide +kernel
theorem dig_b {b : UInt8} (h : 48 ≤ b.toNat ∧ b.toNat ≤ 57) : bDig (b.toNat : Int) = true ∧ bWord (b.toNat : Int) = true := dig_word ⟨b.toNat, b.toNat_lt⟩ h
/-- Numerals are tokens, zeros ahead or none. -/
theorem pos_tkn (z u : Nat) (hu : u < 9223372036854775808) : Tkn (zeros z ++ decDigits u) ⟨3, ⟨#[]⟩, (u : Int), 0, 0, 0⟩ okWord := by
  have hd := num_digs z u
  have hp := pos_parse z u hu
  obtain ⟨b, r, e, h1, h2⟩ := num_head z u
  rw [e] at hd hp ⊢
  exact int_tkn (fun c hc => (dig_b (hd c (by simp [hc]))).2) (.inl (dig_b ⟨h1, h2⟩).1) hp
theorem neg_tkn (z u : Nat) (hu : u ≤ 9223372036854775808) : Tkn (45 :: (zeros z ++ decDigits u)) ⟨3, ⟨#[]⟩, -(u : Int), 0, 0, 0⟩ okWord := by
  have hd := num_digs z u
  have hp := neg_parse z u hu
  obtain ⟨b, r, e, h1, h2⟩ := num_head z u
  exact int_tkn (fun c hc => (dig_b (hd c hc)).2) (.inr ⟨by decide, b, r, e, (dig_b ⟨h1, h2⟩).1⟩) hp
theorem itoa_tkn (n : Int) (h : I64 n) : Tkn (itoa n) ⟨3, ⟨#[]⟩, n, 0, 0, 0⟩ okWord := by
  unfold I64 at h
  unfold itoa
  split
  · next hn =>
    have := neg_tkn 0 n.natAbs (by omega)
    rw [show (-(n.natAbs : Int)) = n by omega] at this
    exact this
  · next hn =>
    have := pos_tkn 0 n.toNat (by omega)
    rw [show ((n.toNat : Nat) : Int) = n by omega] at this
    exact this
end Go.Proofs.YtchhophblejmeaaGreatDoor

namespace Go.Proofs.YtchhophblejmeaaGreatDoor
set_option linter.unusedSimpArgs false
set_option linter.unusedVariables false
open Go.RowKit

def letterOf (c : UInt8) : UInt8 := if c = 34 then 34 else if c = 92 then 92 else if c = 10 then 110 else if c = 9 then 116 else if c = 13 then 114 else 0
def hexL (n : Nat) : UInt8 := if n < 10 then UInt8.ofNat (48 + n) else UInt8.ofNat (87 + n)
theorem esc_is (l : UInt8) (R : List UInt8) (r : ByteArray) (hr : r.data.toList = 92 :: l :: R) : escX r = escOf r (l.toNat : Int) := by
  obtain ⟨⟨d⟩⟩ := r
  simp only at hr
  subst hr
  unfold escX
  rw [dif_pos (by show 1 < (92 :: l :: R).length; simp)]
  rfl
theorem hex_all : ∀ n : Fin 256, hexU 0 [hexL (n.val / 16), hexL (n.val % 16)] = some n.val := by decide +kernel
theorem hex_is (c : UInt8) (R : List UInt8) (r : ByteArray) (hr : r.data.toList = 92 :: 120 :: hexL (c.toNat / 16) :: hexL (c.toNat % 16) :: R) : escX r = ((c.toNat : Int), 4) := by
  rw [esc_is 120 _ r hr]
  have hs : ¬ r.size < 4 := by
    have h1 : r.data.toList.length = r.size := rfl
    rw [hr] at h1
    simp at h1
    omega
  have he : (r.extract 2 4).data.toList = [hexL (c.toNat / 16), hexL (c.toNat % 16)] := by
    have := extract_list r 2 2
    rw [this]
    unfold rest
    rw [hr]
    rfl
  show escOf r 120 = _
  unfold escOf hexX
  rw [if_neg (by decide), if_neg (by decide), if_neg (by decide), if_neg (by decide), if_neg (by decide), if_pos rfl, if_neg hs, he, hex_all ⟨c.toNat, c.toNat_lt⟩]
theorem ext_rest (T : ByteArray) (i : Nat) (hi : i ≤ T.size) : (T.extract i T.size).data.toList = rest T i := by
  have := extract_list T i (T.size - i)
  rw [show i + (T.size - i) = T.size by omega] at this
  rw [this, List.take_of_length_le (Nat.le_of_eq (rest_len T i))]
theorem letter_all : ∀ n : Fin 256, letterOf (UInt8.ofNat n.val) ≠ 0 → ∃ l : UInt8, letterOf (UInt8.ofNat n.val) = l ∧ ∀ r : ByteArray, escOf r (l.toNat : Int) = ((n.val : Int), 2) := by
  intro n h
  refine ⟨_, rfl, fun r => ?_⟩
  have key : ∀ n : Fin 256, letterOf (UInt8.ofNat n.val) ≠ 0 → n.val = 34 ∨ n.val = 92 ∨ n.val = 10 ∨ n.val = 9 ∨ n.val = 13 := by decide +kernel
  obtain ⟨n, hn⟩ := n
  rcases key ⟨n, hn⟩ h with e | e | e | e | e <;> (simp only at e; subst e; rfl)
theorem strOf_bytesP (l : List UInt8) : strOf (l.map fun b => (b.toNat : Int)) = ⟨l.toArray⟩ := by
  have h : ∀ (l : List UInt8) (r : ByteArray), ((l.map fun b => (b.toNat : Int)).foldl (fun r n => r.push (UInt8.ofNat n.toNat)) r).data.toList = r.data.toList ++ l := by
    intro l
    induction l with
    | nil => intro r; simp
    | cons n t ih => intro r; rw [List.map_cons, List.foldl_cons, ih]; simp [ByteArray.push]
  have e2 := congrArg List.toArray (h l ByteArray.empty)
  simp only [Array.toArray_toList] at e2
  exact congrArg ByteArray.mk (e2.trans (by rfl))
end Go.Proofs.YtchhophblejmeaaGreatDoor
