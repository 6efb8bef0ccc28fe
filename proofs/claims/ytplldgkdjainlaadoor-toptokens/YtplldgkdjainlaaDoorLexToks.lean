/- The tokens that Scan lists, as a chain; a text that begins with the name a: no program in sight. -/
import Derived.Test.YtplldgkdjainlaaDoorLexChain
namespace Go.Proofs.YtplldgkdjainlaaDoor
set_option linter.unusedSimpArgs false
set_option linter.unusedVariables false
open Go.RowKit

inductive Toks (s : ByteArray) : Nat → List Tok → Int → Nat → Prop
  | bad {o : Nat} {c : Int} {f : Nat} : o ≤ s.size → nextX s o = .bad c f → Toks s o [] c f
  | last {o : Nat} {t : Tok} : o ≤ s.size → nextX s o = .tok t → t.k = 0 → Toks s o [t] 0 0
  | more {o : Nat} {t : Tok} {r : List Tok} {c : Int} {f : Nat} : o ≤ s.size → nextX s o = .tok t → t.k ≠ 0 → Toks s t.en r c f → Toks s o (t :: r) c f

theorem each_toks (s : ByteArray) : ∀ (n o : Nat) (L : List Tok), s.size - o = n → o ≤ s.size → ∃ r c f, eachF (fun _ => true) s o L = (L ++ r, c, f) ∧ Toks s o r c f := by
  intro n
  induction n using Nat.strongRecOn with
  | ind n ih =>
    intro o L hn ho
    cases hx : nextX s o with
    | bad c f => exact ⟨[], c, f, by rw [eachF_bad hx, List.append_nil], .bad ho hx⟩
    | tok t =>
      obtain ⟨-, -, h1, h2⟩ := next_tok ho hx
      by_cases hk : t.k = 0
      · exact ⟨[t], 0, 0, eachF_stop hx (.inr hk), .last ho hx hk⟩
      · obtain ⟨_, h3, h4⟩ := h2.resolve_left (fun h => hk h.1)
        obtain ⟨r, c, f, e, T⟩ := ih (s.size - t.en) (by omega) t.en (L ++ [t]) rfl h4
        exact ⟨t :: r, c, f, by rw [eachF_go hx (by simp [hk]) (by omega) h4, e, List.append_assoc]; rfl, .more ho hx hk T⟩

theorem scan_toks (s : ByteArray) (h : s.size ≤ 65536) : Toks s 0 (scanX s).1 (scanX s).2.1 (scanX s).2.2 := by
  have e : scanX s = eachF (fun _ => true) s 0 [] := if_neg (by omega)
  obtain ⟨r, c, f, e2, T⟩ := each_toks s _ 0 [] rfl (Nat.zero_le _)
  rw [e, e2]
  exact T

theorem Toks.le {s : ByteArray} {o : Nat} {L : List Tok} {c : Int} {f : Nat} (h : Toks s o L c f) : o ≤ s.size := by cases h <;> assumption

/-- The offset behind the last token of a list. -/
def endOf (o : Nat) : List Tok → Nat
  | [] => o
  | t :: r => endOf t.en r

theorem Toks.step {s : ByteArray} {o : Nat} {t : Tok} {r : List Tok} {c : Int} {f : Nat} (h : Toks s o (t :: r) c f) :
    nextX s o = .tok t ∧ ((t.k = 0 ∧ r = [] ∧ c = 0 ∧ f = 0) ∨ (t.k ≠ 0 ∧ Toks s t.en r c f)) := by
  cases h with
  | last h1 h2 h3 => exact ⟨h2, .inl ⟨h3, rfl, rfl, rfl⟩⟩
  | more h1 h2 h3 h4 => exact ⟨h2, .inr ⟨h3, h4⟩⟩
theorem Toks.stop {s : ByteArray} {o : Nat} {c : Int} {f : Nat} (h : Toks s o [] c f) : nextX s o = .bad c f := by cases h; assumption

theorem blank_gap (s : ByteArray) (o : Nat) (hs : s.size ≤ 65536) (ho : o ≤ s.size) (h : (gapW s o).2 = true) : blankW s (o : Int) ((gapW s o).1 : Int) = true := by
  have hg := gapW_le s o ho
  have e : blankW s (o : Int) ((gapW s o).1 : Int) = ((gapN (pieceL s o (gapW s o).1)).2 && decide (o + (gapN (pieceL s o (gapW s o).1)).1 = (gapW s o).1)) := if_pos ⟨hs, by omega, by omega, by omega⟩
  have h2 : (gapN (rest s o)).2 = true := h
  have hp : pieceL s o (gapW s o).1 = (rest s o).take (gapN (rest s o)).1 := by
    unfold pieceL rest
    rw [List.drop_take]
    congr 1
    show o + (gapN (rest s o)).1 - o = _
    unfold rest
    omega
  rw [e, hp, gap_take _ (rest s o) (gapN (rest s o)).1 rfl (Prod.ext rfl h2)]
  simp only [Bool.true_and, decide_eq_true_eq]
  rfl

theorem gap_bad_lt (s : ByteArray) (o : Nat) (ho : o ≤ s.size) (h : (gapW s o).2 = false) : (gapW s o).1 < s.size := by
  have hg : ∀ (n : Nat) (l : List UInt8), l.length = n → (gapN l).2 = false → (gapN l).1 < l.length := by
    intro n
    induction n using Nat.strongRecOn with
    | ind n ih =>
      intro l hl h
      cases hi : item l with
      | stop => rw [gapN_stop hi] at h; cases h
      | bad =>
        rw [gapN_bad hi]
        match l, hi with
        | a :: r, _ => simp
      | go k =>
        by_cases hk : 0 < k ∧ k ≤ l.length
        · rw [gapN_go hi hk.1 hk.2] at h ⊢
          have := ih (l.drop k).length (by simp; omega) (l.drop k) rfl h
          simp only [List.length_drop] at this
          simp only
          omega
        · rw [gapN, hi] at h
          simp only at h
          rw [dif_neg hk] at h
          cases h
  have h1 := hg _ (rest s o) rfl h
  rw [rest_len] at h1
  unfold gapW
  simp only
  omega

/-- A text that begins with the name a and a blank. -/
def headS (s : ByteArray) : ByteArray := ⟨#[97, 32]⟩ ++ (if (65534 : Int) < (s.size : Int) then s.extract 0 65534 else s)
def aTok : Tok := ⟨1, ⟨#[97]⟩, 0, 0, 0, 1⟩

theorem head_size (s : ByteArray) : 2 ≤ (headS s).size ∧ (headS s).size ≤ 65536 := by
  unfold headS
  rw [ByteArray.size_append]
  have h2 : (⟨#[97, 32]⟩ : ByteArray).size = 2 := rfl
  split
  · rw [ByteArray.size_extract]; omega
  · omega

theorem head_rest (s : ByteArray) : ∃ r, rest (headS s) 0 = 97 :: 32 :: r := by
  unfold rest headS
  rw [List.drop_zero, ByteArray.data_append, Array.toList_append]
  exact ⟨_, rfl⟩

theorem head_next (T : ByteArray) {r : List UInt8} (h : rest T 0 = 97 :: 32 :: r) (h2 : 2 ≤ T.size) : nextX T 0 = .tok aTok := by
  have b0 : T[0] = 97 := by
    have := rest_cons T 0 (by omega)
    rw [h] at this
    injection this with this
    exact this.symm
  have hb : (T[0].toNat : Int) = 97 := by rw [b0]; rfl
  have hg : gapW T 0 = (0, true) := gapW_stop T 0 (by omega) (by rw [hb]; rfl) (by rw [hb]; decide) (by rw [h]; rfl)
  have hrun : runC (rest T 0) = 1 := by
    rw [h]
    unfold runC
    rw [if_pos (by rfl)]
    unfold runC
    rw [if_neg (by decide)]
  have hex : T.extract 0 1 = ⟨#[97]⟩ := by
    apply ByteArray.ext
    apply Array.ext'
    rw [ByteArray.data_extract, Array.toList_extract, List.extract_eq_take_drop]
    have : T.data.toList.drop 0 = 97 :: 32 :: r := h
    rw [this]; rfl
  unfold nextX
  rw [hg]
  simp only [if_true]
  unfold tokAt
  rw [dif_pos (by omega : 0 < T.size), if_pos (by rw [hb]; rfl)]
  unfold wordX
  simp only [hrun]
  rw [if_neg (by omega)]
  simp only [Nat.zero_add, hex]
  rw [if_neg (by rw [ByteArray.toList_eq]; decide), if_pos (by rfl)]
  rfl

theorem head_begun (s : ByteArray) : ∃ r, (scanX (headS s)).1 = aTok :: r ∧ Toks (headS s) 1 r (scanX (headS s)).2.1 (scanX (headS s)).2.2 := by
  have hsz := head_size s
  obtain ⟨r, hr⟩ := head_rest s
  have hx := head_next (headS s) hr hsz.1
  have T := scan_toks (headS s) hsz.2
  cases hL : (scanX (headS s)).1 with
  | nil => rw [hL] at T; have := T.stop; rw [hx] at this; cases this
  | cons t l =>
    rw [hL] at T
    obtain ⟨h1, h2⟩ := T.step
    rw [hx] at h1
    injection h1 with h1
    subst h1
    rcases h2 with ⟨h, _⟩ | ⟨_, h⟩
    · cases h
    · exact ⟨l, rfl, h⟩

end Go.Proofs.YtplldgkdjainlaaDoor
