/- Gaps, said over lists of bytes: what a gap is made of (chapter 2), with no program in sight. -/
import Derived.Test.YtplldgkdjainlaaDoorProg
import Derived.Test.YtplldgkdjainlaaDoorOpen
namespace Go.Proofs.YtplldgkdjainlaaDoor
set_option linter.unusedSimpArgs false
set_option linter.unusedVariables false
open Go.RowKit

/-- The bytes up to the next line feed. -/
def lineC : List UInt8 → Nat
  | [] => 0
  | b :: r => if b.toNat = 10 then 0 else lineC r + 1

def opens : List UInt8 → Bool
  | a :: b :: _ => a == 47 && b == 42
  | _ => false
def closes : List UInt8 → Bool
  | a :: b :: _ => a == 42 && b == 47
  | _ => false

/-- Behind so many open comments: the bytes up to where all are closed. -/
def blockC : Nat → List UInt8 → Option Nat
  | d, a :: b :: r =>
    if opens (a :: b :: r) then (blockC (d + 1) r).map (· + 2)
    else if closes (a :: b :: r) then (if d = 1 then some 2 else (blockC (d - 1) r).map (· + 2))
    else (blockC d (b :: r)).map (· + 1)
  | _, _ => none

inductive Item where
  | stop | bad
  | go (k : Nat)

def blankN (n : Int) : Bool := n == 32 || (n == 9 || (n == 10 || n == 13))

/-- What stands at the head of a gap. -/
def item : List UInt8 → Item
  | [] => .stop
  | a :: r =>
    if blankN a.toNat then .go 1
    else if a.toNat = 37 then .go (lineC r + 1)
    else if opens (a :: r) then (match blockC 1 (r.drop 1) with | none => .bad | some k => .go (k + 2))
    else .stop

theorem item_cons (a : UInt8) (r : List UInt8) : item (a :: r) = if blankN a.toNat then .go 1 else if a.toNat = 37 then .go (lineC r + 1) else if opens (a :: r) then (match blockC 1 (r.drop 1) with | none => .bad | some k => .go (k + 2)) else .stop := rfl

def gapN (l : List UInt8) : Nat × Bool :=
  match item l with
  | .stop => (0, true)
  | .bad => (0, false)
  | .go k => if h : 0 < k ∧ k ≤ l.length then ((gapN (l.drop k)).1 + k, (gapN (l.drop k)).2) else (0, true)
termination_by l.length
decreasing_by all_goals (simp; omega)

theorem gapN_stop {l : List UInt8} (h : item l = .stop) : gapN l = (0, true) := by rw [gapN, h]
theorem gapN_bad {l : List UInt8} (h : item l = .bad) : gapN l = (0, false) := by rw [gapN, h]
theorem gapN_go {l : List UInt8} {k : Nat} (h : item l = .go k) (h0 : 0 < k) (h1 : k ≤ l.length) : gapN l = ((gapN (l.drop k)).1 + k, (gapN (l.drop k)).2) := by
  rw [gapN, h]
  exact dif_pos ⟨h0, h1⟩

theorem lineC_le : ∀ l : List UInt8, lineC l ≤ l.length
  | [] => Nat.le_refl _
  | b :: r => by
    unfold lineC
    split
    · simp
    · have := lineC_le r; simp; omega

theorem blockC_le : ∀ (l : List UInt8) (d k : Nat), blockC d l = some k → 2 ≤ k ∧ k ≤ l.length
  | [], d, k, h => by simp [blockC] at h
  | [_], d, k, h => by simp [blockC] at h
  | a :: b :: r, d, k, h => by
    unfold blockC at h
    split at h
    · obtain ⟨j, hj, rfl⟩ := Option.map_eq_some_iff.mp h
      have := blockC_le r _ _ hj
      simp; omega
    · split at h
      · split at h
        · injection h with h; subst h; simp
        · obtain ⟨j, hj, rfl⟩ := Option.map_eq_some_iff.mp h
          have := blockC_le r _ _ hj
          simp; omega
      · obtain ⟨j, hj, rfl⟩ := Option.map_eq_some_iff.mp h
        have := blockC_le (b :: r) _ _ hj
        simp at this
        simp; omega

theorem opens_iff (a b : UInt8) (r : List UInt8) : ([a, b] == [47, 42]) = opens (a :: b :: r) := by
  show (a == 47 && (b == 42 && true)) = (a == 47 && b == 42)
  rw [Bool.and_true]
theorem closes_iff (a b : UInt8) (r : List UInt8) : ([a, b] == [42, 47]) = closes (a :: b :: r) := by
  show (a == 42 && (b == 47 && true)) = (a == 42 && b == 47)
  rw [Bool.and_true]
theorem opens_short {l : List UInt8} (h : l.length < 2) : opens l = false := by
  match l, h with
  | [], _ => rfl
  | [_], _ => rfl
theorem closes_short {l : List UInt8} (h : l.length < 2) : closes l = false := by
  match l, h with
  | [], _ => rfl
  | [_], _ => rfl
theorem opens_len {l : List UInt8} (h : opens l = true) : 2 ≤ l.length := by
  rcases Nat.lt_or_ge l.length 2 with h' | h'
  · rw [opens_short h'] at h; cases h
  · exact h'
theorem closes_len {l : List UInt8} (h : closes l = true) : 2 ≤ l.length := by
  rcases Nat.lt_or_ge l.length 2 with h' | h'
  · rw [closes_short h'] at h; cases h
  · exact h'
theorem opens_not_closes {l : List UInt8} (h : opens l = true) : closes l = false := by
  match l, h with
  | a :: b :: r, h =>
    have h' : (a == 47 && b == 42) = true := h
    rw [Bool.and_eq_true] at h'
    have : a = 47 := by simpa using h'.1
    subst this; rfl

theorem blockC_open {d : Nat} {l : List UInt8} (h : opens l = true) : blockC d l = (blockC (d + 1) (l.drop 2)).map (· + 2) := by
  match l, h with
  | a :: b :: r, h =>
    show blockC d (a :: b :: r) = (blockC (d + 1) r).map (· + 2)
    conv => lhs; unfold blockC; rw [if_pos h]
theorem blockC_close {d : Nat} {l : List UInt8} (h : closes l = true) : blockC d l = if d = 1 then some 2 else (blockC (d - 1) (l.drop 2)).map (· + 2) := by
  match l, h with
  | a :: b :: r, h =>
    have ho : opens (a :: b :: r) = false := by
      cases ho : opens (a :: b :: r) with
      | false => rfl
      | true => rw [opens_not_closes ho] at h; cases h
    show blockC d (a :: b :: r) = if d = 1 then some 2 else (blockC (d - 1) r).map (· + 2)
    conv => lhs; unfold blockC; rw [if_neg (by rw [ho]; simp), if_pos h]
theorem blockC_else {d : Nat} {l : List UInt8} (h : opens l = false) (h' : closes l = false) : blockC d l = (blockC d (l.drop 1)).map (· + 1) := by
  match l, h, h' with
  | [], _, _ => rfl
  | [a], _, _ => rfl
  | a :: b :: r, h, h' => conv => lhs; unfold blockC; rw [if_neg (by rw [h]; simp), if_neg (by rw [h']; simp)]
                          rfl

/-- The bytes from an offset on. -/
def rest (s : ByteArray) (k : Nat) : List UInt8 := s.data.toList.drop k

theorem rest_cons (s : ByteArray) (k : Nat) (h : k < s.size) : rest s k = s[k] :: rest s (k + 1) := by
  unfold rest
  exact List.drop_eq_getElem_cons (by simpa using h)

theorem rest_end (s : ByteArray) (k : Nat) (h : s.size ≤ k) : rest s k = [] := by
  unfold rest
  exact List.drop_eq_nil_of_le (by simpa using h)

theorem rest_drop (s : ByteArray) (k j : Nat) : (rest s k).drop j = rest s (k + j) := by
  unfold rest; rw [List.drop_drop]

theorem rest_len (s : ByteArray) (k : Nat) : (rest s k).length = s.size - k := by
  unfold rest; simp

def blockR (s : ByteArray) (d k : Nat) : Int := match blockC d (rest s k) with | some j => ((k + j : Nat) : Int) | none => -1

theorem blockR_map (s : ByteArray) (d d' k j : Nat) (h : blockC d (rest s k) = (blockC d' (rest s (k + j))).map (· + j)) : blockR s d k = blockR s d' (k + j) := by
  unfold blockR
  rw [h]
  cases blockC d' (rest s (k + j)) with
  | none => rfl
  | some x => show ((k + (x + j) : Nat) : Int) = ((k + j + x : Nat) : Int); omega
theorem blockR_open {s : ByteArray} {d k : Nat} (h : opens (rest s k) = true) : blockR s d k = blockR s (d + 1) (k + 2) :=
  blockR_map _ _ _ _ _ (by rw [blockC_open h, rest_drop])
theorem blockR_close {s : ByteArray} {d k : Nat} (h : closes (rest s k) = true) (h1 : ¬ d = 1) : blockR s d k = blockR s (d - 1) (k + 2) :=
  blockR_map _ _ _ _ _ (by rw [blockC_close h, if_neg h1, rest_drop])
theorem blockR_last {s : ByteArray} {k : Nat} (h : closes (rest s k) = true) : blockR s 1 k = ((k + 2 : Nat) : Int) := by
  unfold blockR; rw [blockC_close h, if_pos rfl]
theorem blockR_else {s : ByteArray} {d k : Nat} (h : opens (rest s k) = false) (h' : closes (rest s k) = false) : blockR s d k = blockR s d (k + 1) :=
  blockR_map _ _ _ _ _ (by rw [blockC_else h h', rest_drop])
theorem blockR_end {s : ByteArray} {d k : Nat} (h : s.size ≤ k) : blockR s d k = -1 := by
  unfold blockR; rw [rest_end s k h]; rfl

/-- Where the gap at an offset ends, and whether it is whole. -/
def gapW (s : ByteArray) (k : Nat) : Nat × Bool := (k + (gapN (rest s k)).1, (gapN (rest s k)).2)

theorem gapW_go (s : ByteArray) (k j : Nat) (h : item (rest s k) = .go j) (h0 : 0 < j) (h1 : k + j ≤ s.size) : gapW s k = gapW s (k + j) := by
  unfold gapW
  rw [gapN_go h h0 (by rw [rest_len]; omega), rest_drop]
  exact Prod.ext (by show k + (_ + j) = k + j + _; omega) rfl
theorem gapW_end (s : ByteArray) (k : Nat) (h : s.size ≤ k) : gapW s k = (k, true) := by
  unfold gapW; rw [rest_end s k h, gapN_stop rfl]; rfl
theorem gapW_blank (s : ByteArray) (k : Nat) (h : k < s.size) (hb : blankN (s[k].toNat : Int) = true) : gapW s k = gapW s (k + 1) :=
  gapW_go s k 1 (by rw [rest_cons s k h]; rw [item_cons]; exact if_pos hb) (by omega) (by omega)
theorem line_head (s : ByteArray) (k : Nat) (h : k < s.size) (h37 : (s[k].toNat : Int) = 37) : lineC (rest s k) = lineC (rest s (k + 1)) + 1 := by
  rw [rest_cons s k h]; conv => lhs; unfold lineC
  exact if_neg (by omega)
theorem line_bounds (s : ByteArray) (k : Nat) (h : k < s.size) (h37 : (s[k].toNat : Int) = 37) : k < k + lineC (rest s k) ∧ k + lineC (rest s k) ≤ s.size := by
  have h1 := line_head s k h h37
  have h2 := lineC_le (rest s k)
  rw [rest_len] at h2
  omega
theorem gapW_line (s : ByteArray) (k : Nat) (h : k < s.size) (hb : blankN (s[k].toNat : Int) = false) (h37 : (s[k].toNat : Int) = 37) : gapW s k = gapW s (k + lineC (rest s k)) := by
  have h2 := line_bounds s k h h37
  refine gapW_go s k _ ?_ (by omega) h2.2
  rw [line_head s k h h37, rest_cons s k h]
  rw [item_cons, if_neg (by rw [hb]; simp), if_pos (by omega)]
theorem gapW_bad (s : ByteArray) (k : Nat) (h : k < s.size) (hb : blankN (s[k].toNat : Int) = false) (h37 : ¬ (s[k].toNat : Int) = 37) (hO : opens (rest s k) = true) (hc : blockC 1 (rest s (k + 2)) = none) : gapW s k = (k, false) := by
  unfold gapW
  rw [gapN_bad]
  · rfl
  · have e : (rest s (k + 1)).drop 1 = rest s (k + 2) := rest_drop s (k + 1) 1
    rw [rest_cons s k h] at hO ⊢
    rw [item_cons, if_neg (by rw [hb]; simp), if_neg (by omega), if_pos hO, e, hc]
theorem gapW_block (s : ByteArray) (k j : Nat) (h : k < s.size) (hb : blankN (s[k].toNat : Int) = false) (h37 : ¬ (s[k].toNat : Int) = 37) (hO : opens (rest s k) = true) (hc : blockC 1 (rest s (k + 2)) = some j) : gapW s k = gapW s (k + 2 + j) := by
  have hj := blockC_le _ _ _ hc
  rw [rest_len] at hj
  have := gapW_go s k (j + 2) ?_ (by omega) (by omega)
  · rw [this, show k + (j + 2) = k + 2 + j from by omega]
  · have e : (rest s (k + 1)).drop 1 = rest s (k + 2) := rest_drop s (k + 1) 1
    rw [rest_cons s k h] at hO ⊢
    rw [item_cons, if_neg (by rw [hb]; simp), if_neg (by omega), if_pos hO, e, hc]
theorem gapW_stop (s : ByteArray) (k : Nat) (h : k < s.size) (hb : blankN (s[k].toNat : Int) = false) (h37 : ¬ (s[k].toNat : Int) = 37) (hO : opens (rest s k) = false) : gapW s k = (k, true) := by
  unfold gapW
  rw [gapN_stop]
  · rfl
  · rw [rest_cons s k h] at hO ⊢
    rw [item_cons, if_neg (by rw [hb]; simp), if_neg (by omega), if_neg (by rw [hO]; simp)]

end Go.Proofs.YtplldgkdjainlaaDoor
