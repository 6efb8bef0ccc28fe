/- Texts between quotes, as lists of numbers: what a byte's spelling begins with. -/
import Derived.Test.YtoppnjpajeipdaaGreatDoorProg
import Derived.Test.YtoppnjpajeipdaaGreatDoorSymQuoted
namespace Go.Proofs.YtoppnjpajeipdaaGreatDoor
set_option linter.unusedSimpArgs false
set_option linter.unusedVariables false
open Go.RowKit

def Byt (l : List Int) : Prop := ∀ x ∈ l, 0 ≤ x ∧ x ≤ 255

theorem intsOf_byt (s : ByteArray) : Byt (intsOf s) := by
  intro x hx
  unfold intsOf at hx
  obtain ⟨b, _, rfl⟩ := List.mem_map.1 hx
  have := b.toNat_lt
  omega

theorem intsOf_strOf {l : List Int} (h : Byt l) : intsOf (strOf l) = l := by
  unfold intsOf
  rw [strOf_data, List.map_map]
  conv => rhs; rw [← List.map_id l]
  apply List.map_congr_left
  intro x hx
  have := h x hx
  simp only [Function.comp, byteOf, id_eq, UInt8.toNat_ofNat']
  omega

theorem strOf_intsOf (s : ByteArray) : strOf (intsOf s) = s := strOf_of s

theorem intsOf_inj {a b : ByteArray} (h : intsOf a = intsOf b) : a = b := by rw [← strOf_intsOf a, h, strOf_intsOf]

theorem intsOf_extract (s : ByteArray) (n : Nat) : intsOf (s.extract n s.size) = (intsOf s).drop n := by
  unfold intsOf
  rw [← List.map_drop]
  congr 1
  rw [ByteArray.data_extract, Array.toList_extract]
  rw [List.extract_eq_take_drop, List.take_of_length_le]
  have : s.data.toList.length = s.size := rfl
  rw [List.length_drop]
  omega

theorem intsOf_slice (s : ByteArray) (i j : Nat) : intsOf (s.extract i j) = ((intsOf s).drop i).take (j - i) := by
  unfold intsOf
  rw [← List.map_drop, ← List.map_take]
  congr 1
  rw [ByteArray.data_extract, Array.toList_extract, List.extract_eq_take_drop]

theorem intsOf_at (s : ByteArray) (i : Nat) (h : i < s.size) : (intsOf s)[i]? = some (s[i].toNat : Int) := by
  unfold intsOf
  rw [List.getElem?_map, List.getElem?_eq_getElem (by simpa using h)]
  rfl

theorem intsOf_app (a b : ByteArray) : intsOf (a ++ b) = intsOf a ++ intsOf b := by
  unfold intsOf
  rw [ByteArray.data_append, Array.toList_append, List.map_append]

/-- A hex digit's value. -/
def hexV (b : Int) : Option Int := if 48 ≤ b ∧ b ≤ 57 then some (b - 48) else if 97 ≤ b ∧ b ≤ 102 then some (b - 97 + 10) else if 65 ≤ b ∧ b ≤ 70 then some (b - 65 + 10) else none

theorem hexV_hexI (k : Nat) (h : k < 16) : hexV (hexI k) = some (k : Int) := by
  have : ∀ k : Fin 16, hexV (hexI k.val) = some ((k.val : Nat) : Int) := by decide +kernel
  exact this ⟨k, h⟩

theorem hexI_byt (k : Nat) (h : k < 16) : 48 ≤ hexI k ∧ hexI k ≤ 102 := by
  have : ∀ k : Fin 16, 48 ≤ hexI k.val ∧ hexI k.val ≤ 102 := by decide +kernel
  exact this ⟨k, h⟩

/-- The first bytes of a spelling. -/
inductive Spl (b : Int) : List Int → Prop
  | plain (h1 : 32 ≤ b) (h2 : b ≤ 126) (h3 : b ≠ 34) (h4 : b ≠ 92) : Spl b [b]
  | two (c : Int) (h : (b = 34 ∧ c = 34) ∨ (b = 92 ∧ c = 92) ∨ (b = 10 ∧ c = 110) ∨ (b = 9 ∧ c = 116) ∨ (b = 13 ∧ c = 114)) : Spl b [92, c]
  | hex (h k : Int) (hh : hexV h = some (b / 16)) (hk : hexV k = some (b % 16)) : Spl b [92, 120, h, k]

theorem spl_esc {b : Int} (h : 0 ≤ b ∧ b ≤ 255) : Spl b (escI b) := by
  unfold escI
  by_cases e34 : b = 34
  · rw [if_pos e34]; exact .two _ (.inl ⟨e34, rfl⟩)
  rw [if_neg e34]
  by_cases e92 : b = 92
  · rw [if_pos e92]; exact .two _ (.inr (.inl ⟨e92, rfl⟩))
  rw [if_neg e92]
  by_cases e10 : b = 10
  · rw [if_pos e10]; exact .two _ (.inr (.inr (.inl ⟨e10, rfl⟩)))
  rw [if_neg e10]
  by_cases e9 : b = 9
  · rw [if_pos e9]; exact .two _ (.inr (.inr (.inr (.inl ⟨e9, rfl⟩))))
  rw [if_neg e9]
  by_cases e13 : b = 13
  · rw [if_pos e13]; exact .two _ (.inr (.inr (.inr (.inr ⟨e13, rfl⟩))))
  rw [if_neg e13]
  by_cases h32 : 32 ≤ b ∧ b ≤ 126
  · rw [if_pos h32]; exact .plain h32.1 h32.2 e34 e92
  · rw [if_neg h32]
    refine .hex _ _ ?_ ?_
    · rw [hexV_hexI _ (by omega)]; congr 1; omega
    · rw [hexV_hexI _ (by omega)]; congr 1; omega

/-- What one step of the reading of a text between quotes may answer. -/
def UOk (s : ByteArray) (v : Int) (mb : Bool) (t : ByteArray) : Prop :=
  t.size < s.size ∧ (mb = true → -2147483648 ≤ v ∧ v ≤ 2147483647) ∧ ∀ b l, 0 ≤ b ∧ b ≤ 255 → intsOf s = escI b ++ l → v = b ∧ mb = false ∧ intsOf t = l
def UBad (s : ByteArray) : Prop := ∀ b l, 0 ≤ b ∧ b ≤ 255 → intsOf s ≠ escI b ++ l

theorem spl_bad {s : ByteArray} (h : ∀ b m l, Spl b m → intsOf s = m ++ l → False) : UBad s := fun b l hb e => h b _ l (spl_esc hb) e
theorem spl_ok {s t : ByteArray} {v : Int} {mb : Bool} (h1 : t.size < s.size) (h2 : mb = true → -2147483648 ≤ v ∧ v ≤ 2147483647) (h : ∀ b m l, Spl b m → intsOf s = m ++ l → v = b ∧ mb = false ∧ intsOf t = l) : UOk s v mb t :=
  ⟨h1, h2, fun b l hb e => h b _ l (spl_esc hb) e⟩

/-- The first byte of a string, and the second. -/
theorem head_at {s : ByteArray} {x : Int} {r : List Int} (e : intsOf s = x :: r) : ∃ h : 0 < s.size, (s[0].toNat : Int) = x := by
  have hl : 0 < s.size := by have := congrArg List.length e; rw [intsOf_len] at this; simp at this; omega
  refine ⟨hl, ?_⟩
  have := intsOf_at s 0 hl
  rw [e] at this
  simpa using this.symm
theorem at_of {s : ByteArray} {l : List Int} {i : Nat} {x : Int} (e : intsOf s = l) (hx : l[i]? = some x) : ∃ h : i < s.size, (s[i].toNat : Int) = x := by
  subst e
  have hl : i < s.size := by have := (List.getElem?_eq_some_iff.1 hx).1; rwa [intsOf_len] at this
  refine ⟨hl, ?_⟩
  rw [intsOf_at s i hl] at hx
  simpa using hx

/-- A plain byte. -/
theorem ok_plain {s : ByteArray} (h0 : 0 < s.size) (h1 : s[0].toNat ≠ 92) : UOk s (s[0].toNat : Int) false (s.extract 1 s.size) := by
  refine spl_ok (by rw [ByteArray.size_extract]; omega) (fun h => by cases h) ?_
  intro b m l hs e
  cases hs with
  | plain g1 g2 g3 g4 =>
    obtain ⟨_, hx⟩ := head_at (show intsOf s = b :: l from e)
    refine ⟨hx, rfl, ?_⟩
    rw [intsOf_extract, e]; rfl
  | two c h => obtain ⟨_, hx⟩ := head_at (show intsOf s = 92 :: c :: l from e); omega
  | hex h k hh hk => obtain ⟨_, hx⟩ := head_at (show intsOf s = 92 :: 120 :: h :: k :: l from e); omega

/-- A byte from 128 on, decoded somehow. -/
theorem ok_high {s : ByteArray} (h0 : 0 < s.size) (h1 : 128 ≤ s[0].toNat) {v : Int} {n : Nat} (hv : -2147483648 ≤ v ∧ v ≤ 2147483647) (hn : 0 < n) : UOk s v true (s.extract n s.size) := by
  refine spl_ok (by rw [ByteArray.size_extract]; omega) (fun _ => hv) ?_
  intro b m l hs e
  exfalso
  cases hs with
  | plain g1 g2 g3 g4 => obtain ⟨_, hx⟩ := head_at (show intsOf s = b :: l from e); omega
  | two c h => obtain ⟨_, hx⟩ := head_at (show intsOf s = 92 :: c :: l from e); omega
  | hex h k hh hk => obtain ⟨_, hx⟩ := head_at (show intsOf s = 92 :: 120 :: h :: k :: l from e); omega

theorem bad_quote {s : ByteArray} (h0 : 0 < s.size) (h1 : s[0].toNat = 34) : UBad s := by
  refine spl_bad ?_
  intro b m l hs e
  cases hs with
  | plain g1 g2 g3 g4 => obtain ⟨_, hx⟩ := head_at (show intsOf s = b :: l from e); omega
  | two c h => obtain ⟨_, hx⟩ := head_at (show intsOf s = 92 :: c :: l from e); omega
  | hex h k hh hk => obtain ⟨_, hx⟩ := head_at (show intsOf s = 92 :: 120 :: h :: k :: l from e); omega

theorem bad_short {s : ByteArray} (h1 : s.size ≤ 1) (h2 : ∀ h : 0 < s.size, s[0].toNat = 92) : UBad s := by
  refine spl_bad ?_
  intro b m l hs e
  have hl := congrArg List.length e
  rw [intsOf_len] at hl
  cases hs with
  | plain g1 g2 g3 g4 => obtain ⟨h0, hx⟩ := head_at (show intsOf s = b :: l from e); have := h2 h0; omega
  | two c h => simp at hl; omega
  | hex h k hh hk => simp at hl; omega

/-- A backslash and one byte. -/
theorem ok_two {s : ByteArray} {v : Int} (h1 : 1 < s.size) (h0 : s[0].toNat = 92) (h : ∀ b, ((b = 34 ∧ (s[1].toNat : Int) = 34) ∨ (b = 92 ∧ (s[1].toNat : Int) = 92) ∨ (b = 10 ∧ (s[1].toNat : Int) = 110) ∨ (b = 9 ∧ (s[1].toNat : Int) = 116) ∨ (b = 13 ∧ (s[1].toNat : Int) = 114)) → v = b) (hx : (s[1].toNat : Int) ≠ 120) :
    UOk s v false (s.extract 2 s.size) := by
  refine spl_ok (by rw [ByteArray.size_extract]; omega) (fun h => by cases h) ?_
  intro b m l hs e
  cases hs with
  | plain g1 g2 g3 g4 => obtain ⟨_, hx⟩ := head_at (show intsOf s = b :: l from e); omega
  | two c hc =>
    obtain ⟨_, hy⟩ := at_of (i := 1) (x := c) (show intsOf s = 92 :: c :: l from e) rfl
    rw [← hy] at hc
    refine ⟨h b hc, rfl, ?_⟩
    rw [intsOf_extract, e]; rfl
  | hex h k hh hk => obtain ⟨_, hy⟩ := at_of (i := 1) (x := 120) (show intsOf s = 92 :: 120 :: h :: k :: l from e) rfl; omega

theorem bad_two {s : ByteArray} (h1 : 1 < s.size) (h0 : s[0].toNat = 92) (h : (s[1].toNat : Int) ≠ 34 ∧ (s[1].toNat : Int) ≠ 92 ∧ (s[1].toNat : Int) ≠ 110 ∧ (s[1].toNat : Int) ≠ 116 ∧ (s[1].toNat : Int) ≠ 114 ∧ (s[1].toNat : Int) ≠ 120) : UBad s := by
  refine spl_bad ?_
  intro b m l hs e
  cases hs with
  | plain g1 g2 g3 g4 => obtain ⟨_, hx⟩ := head_at (show intsOf s = b :: l from e); omega
  | two c hc =>
    obtain ⟨_, hy⟩ := at_of (i := 1) (x := c) (show intsOf s = 92 :: c :: l from e) rfl
    omega
  | hex h' k hh hk => obtain ⟨_, hy⟩ := at_of (i := 1) (x := 120) (show intsOf s = 92 :: 120 :: h' :: k :: l from e) rfl; omega

/-- A backslash, x and two digits. -/
theorem ok_hex {s : ByteArray} {v : Int} (h3 : 3 < s.size) (h0 : s[0].toNat = 92) (h1 : s[1].toNat = 120) (h : ∀ x y, hexV (s[2].toNat : Int) = some x → hexV (s[3].toNat : Int) = some y → v = 16 * x + y) :
    UOk s v false ((s.extract 2 s.size).extract 2 (s.extract 2 s.size).size) := by
  refine spl_ok (by simp only [ByteArray.size_extract]; omega) (fun h => by cases h) ?_
  intro b m l hs e
  cases hs with
  | plain g1 g2 g3 g4 => obtain ⟨_, hx⟩ := head_at (show intsOf s = b :: l from e); omega
  | two c hc =>
    obtain ⟨_, hy⟩ := at_of (i := 1) (x := c) (show intsOf s = 92 :: c :: l from e) rfl
    omega
  | hex p k hh hk =>
    obtain ⟨_, hy⟩ := at_of (i := 2) (x := p) (show intsOf s = 92 :: 120 :: p :: k :: l from e) rfl
    obtain ⟨_, hz⟩ := at_of (i := 3) (x := k) (show intsOf s = 92 :: 120 :: p :: k :: l from e) rfl
    refine ⟨?_, rfl, ?_⟩
    · rw [← hy] at hh
      rw [← hz] at hk
      rw [h _ _ hh hk]; omega
    · rw [intsOf_extract, intsOf_extract, e]; rfl

theorem bad_hex {s : ByteArray} (h1 : 1 < s.size) (h0 : s[0].toNat = 92) (h : s[1].toNat = 120) (h3 : s.size < 4 ∨ (∃ h2 : 3 < s.size, hexV (s[2].toNat : Int) = none ∨ hexV (s[3].toNat : Int) = none)) : UBad s := by
  refine spl_bad ?_
  intro b m l hs e
  cases hs with
  | plain g1 g2 g3 g4 => obtain ⟨_, hx⟩ := head_at (show intsOf s = b :: l from e); omega
  | two c hc =>
    obtain ⟨_, hy⟩ := at_of (i := 1) (x := c) (show intsOf s = 92 :: c :: l from e) rfl
    omega
  | hex p k hh hk =>
    obtain ⟨g2, hy⟩ := at_of (i := 2) (x := p) (show intsOf s = 92 :: 120 :: p :: k :: l from e) rfl
    obtain ⟨g3, hz⟩ := at_of (i := 3) (x := k) (show intsOf s = 92 :: 120 :: p :: k :: l from e) rfl
    rcases h3 with h3 | ⟨_, h3 | h3⟩
    · omega
    · rw [hy] at h3; rw [h3] at hh; cases hh
    · rw [hz] at h3; rw [h3] at hk; cases hk

/-- A value that no such spelling has: one that the escapes of more digits, or of three, tell. -/
theorem ok_other {s t : ByteArray} {v : Int} {mb : Bool} (ht : t.size < s.size) (hv : mb = true → -2147483648 ≤ v ∧ v ≤ 2147483647) (h1 : 1 < s.size) (h0 : s[0].toNat = 92) (h : (s[1].toNat : Int) ≠ 34 ∧ (s[1].toNat : Int) ≠ 92 ∧ (s[1].toNat : Int) ≠ 110 ∧ (s[1].toNat : Int) ≠ 116 ∧ (s[1].toNat : Int) ≠ 114 ∧ (s[1].toNat : Int) ≠ 120) : UOk s v mb t :=
  ⟨ht, hv, fun b l hb e => absurd e (bad_two h1 h0 h b l hb)⟩
end Go.Proofs.YtoppnjpajeipdaaGreatDoor
