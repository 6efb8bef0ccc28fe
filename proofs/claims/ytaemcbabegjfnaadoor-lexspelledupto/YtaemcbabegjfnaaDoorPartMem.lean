/- LexSpelled's parts in memory; how long a spelling is. -/
import Derived.Test.YtaemcbabegjfnaaDoorProg
import Derived.Test.YtaemcbabegjfnaaDoorPartAny
import Derived.Test.YtaemcbabegjfnaaDoorPartBetw
import Derived.Test.YtaemcbabegjfnaaDoorPartRun
import Derived.Test.YtaemcbabegjfnaaDoorLists
namespace Go.Proofs.YtaemcbabegjfnaaDoor
set_option linter.unusedSimpArgs false
set_option linter.unusedVariables false
open Go.RowKit
open Go.Lib (decDigits itoa)

def elPrt : El Prt where
  cells p := [.int .i64 p.k, .string p.w, .int .i64 p.n, .int .i64 p.op, .int .i64 p.g, .int .i64 p.st]
  size := 6
  pos := by decide
  len _ := rfl
  ok _ _ p := I64 p.n ∧ p.w.size ≤ 10000000
  one _ u hu := by simp only [List.mem_cons, List.not_mem_nil, or_false] at hu; rcases hu with rfl | rfl | rfl | rfl | rfl | rfl <;> rfl
  move h _ := h

theorem word_len {w : ByteArray} {name : Bool} (h : wordB w.data.toList name = true) : w.data.toList.length ≤ 2000 := by
  have hl : w.data.toList.length = w.size := rfl
  by_cases h1 : 64 < w.size
  · rw [wb_long name h1] at h; cases h
  · omega
theorem int_len {v z : Int} (hv : I64 v) : (intZ v z).length ≤ 2000 := by
  unfold I64 at hv
  have hz : zerosN z ≤ 20 := by unfold zerosN; omega
  unfold intZ
  split
  · have := dec_len64 v.natAbs (by omega)
    rw [List.length_cons, List.length_append, zeros_len]; omega
  · have := dec_len64 v.toNat (by omega)
    rw [List.length_append, zeros_len]; omega
theorem spell_len {p : Prt} (hn : I64 p.n) {s : List UInt8} {x : Tok} (h : spellP p = some (s, x)) : s.length ≤ 2000 := by
  unfold spellP at h
  by_cases k1 : p.k = 1
  · rw [if_pos k1] at h
    by_cases hw : wordB p.w.data.toList true = true
    · rw [if_pos hw] at h
      cases h
      exact word_len hw
    · rw [if_neg hw] at h
      cases h
  rw [if_neg k1] at h
  by_cases k2 : p.k = 2
  · rw [if_pos k2] at h
    by_cases hw : wordB p.w.data.toList false = true
    · rw [if_pos hw] at h
      cases h
      exact word_len hw
    · rw [if_neg hw] at h
      cases h
  rw [if_neg k2] at h
  by_cases k3 : p.k = 3
  · rw [if_pos k3] at h
    cases h
    exact int_len hn
  rw [if_neg k3] at h
  by_cases k4 : p.k = 4
  · rw [if_pos k4] at h
    by_cases hw : p.w.size ≤ 255
    · rw [if_pos hw] at h
      cases h
      have hl : p.w.data.toList.length = p.w.size := rfl
      have := chunks_len p.st p.w.data.toList
      unfold writL
      rw [List.length_cons, List.length_append, List.length_singleton]; omega
    · rw [if_neg hw] at h
      cases h
  rw [if_neg k4] at h
  by_cases k5 : p.k = 5
  · rw [if_pos k5] at h
    cases h
    decide
  rw [if_neg k5] at h
  by_cases k6 : p.k = 6
  · rw [if_pos k6] at h
    cases h
    decide
  rw [if_neg k6] at h
  by_cases k7 : p.k = 7
  · rw [if_pos k7] at h
    cases h
    decide
  rw [if_neg k7] at h
  by_cases k8 : p.k = 8
  · rw [if_pos k8] at h
    cases h
    decide
  rw [if_neg k8] at h
  by_cases k9 : p.k = 9
  · rw [if_pos k9] at h
    cases h
    decide
  rw [if_neg k9] at h
  by_cases k10 : p.k = 10
  · rw [if_pos k10] at h
    cases h
    decide
  rw [if_neg k10] at h
  by_cases k11 : p.k = 11
  · rw [if_pos k11] at h
    by_cases ho : 1 ≤ p.op ∧ p.op ≤ 6
    · rw [if_pos ho] at h
      cases h
      have ops : ∀ n : Int, (opS n).length ≤ 2 := fun n => by
        unfold opS
        by_cases o1 : n = 1
        · rw [if_pos o1]; decide
        rw [if_neg o1]
        by_cases o2 : n = 2
        · rw [if_pos o2]; decide
        rw [if_neg o2]
        by_cases o3 : n = 3
        · rw [if_pos o3]; decide
        rw [if_neg o3]
        by_cases o4 : n = 4
        · rw [if_pos o4]; decide
        rw [if_neg o4]
        by_cases o5 : n = 5
        · rw [if_pos o5]; decide
        rw [if_neg o5]
        decide
      have := ops p.op
      omega
    · rw [if_neg ho] at h
      cases h
  rw [if_neg k11] at h
  cases h
theorem betw_len (c b : UInt8) (g : Int) : (betwL c b g).length ≤ 17 := by
  unfold betwL
  by_cases g1 : g = 1
  · rw [if_pos g1]; decide
  rw [if_neg g1]
  by_cases g2 : g = 2
  · rw [if_pos g2]; decide
  rw [if_neg g2]
  by_cases g3 : g = 3
  · rw [if_pos g3]; decide
  rw [if_neg g3]
  by_cases g4 : g = 4
  · rw [if_pos g4]; decide
  rw [if_neg g4]
  by_cases h1 : (bWord (c.toNat : Int) && bWord (b.toNat : Int)) = true
  · rw [if_pos h1]; decide
  rw [if_neg h1]
  by_cases h2 : ((c == 60 || c == 62) && b == 61) = true
  · rw [if_pos h2]; decide
  rw [if_neg h2]; decide
end Go.Proofs.YtaemcbabegjfnaaDoor
