/- The first place of a byte in a string; texts without escapes. -/
import Derived.Test.YtoppnjpajeipdaaGreatDoorProg
import Derived.Test.YtoppnjpajeipdaaGreatDoorUnqPure
import Derived.Lib.Bytealg
import Derived.WalkKit
namespace Go.Proofs.YtoppnjpajeipdaaGreatDoor
set_option linter.unusedSimpArgs false
set_option linter.unusedVariables false
open Go.RowKit

theorem idx_spec : ∀ (l : List UInt8) (c : UInt8), (∃ j : Nat, Lib.indexByte l c = j ∧ l[j]? = some c ∧ c ∉ l.take j) ∨ (Lib.indexByte l c = -1 ∧ c ∉ l)
  | [], c => .inr ⟨rfl, by simp⟩
  | b :: l, c => by
    unfold Lib.indexByte
    by_cases h : (b == c) = true
    · rw [if_pos h]
      obtain rfl : b = c := by simpa using h
      exact .inl ⟨0, rfl, rfl, by simp⟩
    · rw [if_neg h]
      have hbc : b ≠ c := by simpa using h
      rcases idx_spec l c with ⟨j, e, h1, h2⟩ | ⟨e, h1⟩
      · rw [e, if_neg (by simp <;> omega)]
        refine .inl ⟨j + 1, by omega, h1, ?_⟩
        rw [List.take_succ_cons, List.mem_cons]
        rintro (h' | h')
        · exact hbc h'.symm
        · exact h2 h'
      · rw [e, if_pos (by decide)]
        refine .inr ⟨rfl, ?_⟩
        rw [List.mem_cons]
        rintro (h' | h')
        · exact hbc h'.symm
        · exact h1 h'

/-- The place of the first byte c of t, or -1. -/
def idxZ (t : ByteArray) (c : Int) : Int := Lib.indexByte t.data.toList c.toNat.toUInt8

theorem mem_ints {c : Int} (hc : 0 ≤ c ∧ c ≤ 255) (l : List UInt8) : c ∈ l.map (fun b => (b.toNat : Int)) ↔ c.toNat.toUInt8 ∈ l := by
  constructor
  · intro h
    obtain ⟨b, hb, e⟩ := List.mem_map.1 h
    have : c.toNat.toUInt8 = b := by
      subst e
      simp
    rw [this]; exact hb
  · intro h
    refine List.mem_map.2 ⟨_, h, ?_⟩
    rw [Nat.toUInt8_eq, UInt8.toNat_ofNat']
    omega

theorem idx_ints (t : ByteArray) (c : Int) (hc : 0 ≤ c ∧ c ≤ 255) : (∃ j : Nat, idxZ t c = j ∧ (intsOf t)[j]? = some c ∧ c ∉ (intsOf t).take j) ∨ (idxZ t c = -1 ∧ c ∉ intsOf t) := by
  unfold idxZ intsOf
  rcases idx_spec t.data.toList c.toNat.toUInt8 with ⟨j, e, h1, h2⟩ | ⟨e, h1⟩
  · refine .inl ⟨j, e, ?_, ?_⟩
    · rw [List.getElem?_map, h1]
      simp only [Option.map_some, Option.some.injEq]
      rw [Nat.toUInt8_eq, UInt8.toNat_ofNat']
      omega
    · rw [← List.map_take]
      exact fun h => h2 ((mem_ints hc _).1 h)
  · exact .inr ⟨e, fun h => h1 ((mem_ints hc _).1 h)⟩

/-- s is the text T between quotes. -/
def Quo (T : List Int) (s : ByteArray) : Prop := intsOf s = 34 :: (T.flatMap escI ++ [34])

theorem fast_flat : ∀ (T : List Int), Byt T → ∀ j, (T.flatMap escI ++ [34])[j]? = some 34 → 34 ∉ (T.flatMap escI ++ [34]).take j → 92 ∉ (T.flatMap escI ++ [34]).take (j + 1) → T.flatMap escI = T ∧ j = T.length
  | [], _, j, h1, _, _ => by
    refine ⟨rfl, ?_⟩
    match j, h1 with
    | 0, _ => rfl
    | j + 1, h1 => simp at h1
  | b :: r, hT, j, h1, h2, h3 => by
    have hs := spl_esc (hT b (by simp))
    rw [List.flatMap_cons] at *
    generalize escI b = m at *
    cases hs with
    | plain g1 g2 g3 g4 =>
      match j, h1, h2, h3 with
      | 0, h1, h2, h3 => simp at h1; exact absurd h1 g3
      | j + 1, h1, h2, h3 =>
        have h1' : (r.flatMap escI ++ [34])[j]? = some 34 := h1
        have h2' : 34 ∉ (r.flatMap escI ++ [34]).take j := fun h => h2 (by show 34 ∈ List.take (j + 1) (b :: (r.flatMap escI ++ [34])); rw [List.take_succ_cons]; exact List.mem_cons_of_mem _ h)
        have h3' : 92 ∉ (r.flatMap escI ++ [34]).take (j + 1) := fun h => h3 (by show 92 ∈ List.take (j + 1 + 1) (b :: (r.flatMap escI ++ [34])); rw [List.take_succ_cons]; exact List.mem_cons_of_mem _ h)
        obtain ⟨e1, e2⟩ := fast_flat r (fun x hx => hT x (by simp [hx])) j h1' h2' h3'
        exact ⟨by rw [e1]; rfl, by rw [e2]; rfl⟩
    | two c h => exact absurd (by show (92 : Int) ∈ List.take (j + 1) (92 :: (c :: (r.flatMap escI ++ [34]))); rw [List.take_succ_cons]; simp) h3
    | hex p k hh hk => exact absurd (by show (92 : Int) ∈ List.take (j + 1) (92 :: (120 :: p :: k :: (r.flatMap escI ++ [34]))); rw [List.take_succ_cons]; simp) h3

/-- Such a text has two bytes at least, and its quote's place behind the first. -/
theorem Quo.len {T : List Int} {s : ByteArray} (h : Quo T s) : s.size = (T.flatMap escI).length + 2 := by
  have := congrArg List.length h
  rw [intsOf_len] at this
  simpa using this
theorem Quo.tail {T : List Int} {s : ByteArray} (h : Quo T s) : intsOf (s.extract 1 s.size) = T.flatMap escI ++ [34] := by
  rw [intsOf_extract, h]; rfl

/-- Without a backslash up to its first quote it is read as it stands. -/
theorem Quo.fast {T : List Int} {s : ByteArray} (h : Quo T s) (hT : Byt T) {j : Nat} (hj : idxZ (s.extract 1 s.size) 34 = j) (hn : idxZ (s.extract 0 (j + 2)) 92 = -1) :
    j + 2 = s.size ∧ intsOf (s.extract 1 (j + 1)) = T := by
  rcases idx_ints (s.extract 1 s.size) 34 (by decide) with ⟨k, e, h1, h2⟩ | ⟨e, _⟩
  · have : k = j := by omega
    subst this
    rcases idx_ints (s.extract 0 (k + 2)) 92 (by decide) with ⟨m, e', _⟩ | ⟨_, h3⟩
    · omega
    · rw [h.tail] at h1 h2
      rw [intsOf_slice, h] at h3
      have h3' : 92 ∉ (T.flatMap escI ++ [34]).take (k + 1) := fun hh => h3 (by
        rw [List.drop_zero, Nat.sub_zero, List.take_succ_cons]
        exact List.mem_cons_of_mem _ hh)
      obtain ⟨e1, e2⟩ := fast_flat T hT k h1 h2 h3'
      have hl := h.len
      rw [e1] at hl
      refine ⟨by omega, ?_⟩
      rw [intsOf_slice, h, e1, e2]
      show List.take (T.length + 1 - 1) (T ++ [34]) = T
      rw [Nat.add_sub_cancel, List.take_left']
      rfl
  · omega
end Go.Proofs.YtoppnjpajeipdaaGreatDoor
