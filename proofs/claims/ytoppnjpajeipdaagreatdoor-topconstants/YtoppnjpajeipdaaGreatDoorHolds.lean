/- A list of constants in memory of one's own, read as a list. -/
import Derived.Test.YtoppnjpajeipdaaGreatDoorMergePure
import Derived.Test.YtoppnjpajeipdaaGreatDoorBlocks
namespace Go.Proofs.YtoppnjpajeipdaaGreatDoor
set_option linter.unusedSimpArgs false
set_option linter.unusedVariables false
open Go.RowKit

theorem flat3 : ∀ (ks : List Con) (i j : Nat) (k : Con), ks[i]? = some k → j < 3 → (ks.flatMap cells3)[i * 3 + j]? = (cells3 k)[j]?
  | [], i, j, k, h, _ => by simp at h
  | a :: r, 0, j, k, h, hj => by
    simp only [List.getElem?_cons_zero, Option.some.injEq] at h
    subst h
    rw [List.flatMap_cons, Nat.zero_mul, Nat.zero_add, List.getElem?_append_left (by show j < 3; exact hj)]
  | a :: r, i + 1, j, k, h, hj => by
    rw [List.getElem?_cons_succ] at h
    have hl : (cells3 a).length = 3 := rfl
    rw [List.flatMap_cons, List.getElem?_append_right (by rw [hl]; omega), hl, ← flat3 r i j k h hj]
    congr 1
    omega

theorem holds_cons {base : Nat} {w : World} {v : Value} {cs : List Con} (h : Holds3 base w v cs) (hok : ∀ c ∈ cs, c.ok) (hz : cs.length * 32 ≤ 140737488355328) : ∃ ao cap, v = .slice ao cs.length cap ∧ cs.length ≤ cap ∧ IsCons w ao cs.length cs ∧ (0 < cs.length → ∃ g, ao = some ⟨g, 0, none⟩ ∧ conRow w g 0 cs ∧ base ≤ g) := by
  rcases h.2 with ⟨rfl, hn⟩ | ⟨g, cap, cur, rfl, hb, hh, r1, r2, r3, r4⟩
  · refine ⟨none, 0, by rw [hn], by omega, ⟨rfl, hz, hok, fun h => by omega⟩, fun h => by omega⟩
  · have hrow : conRow w g 0 cs := by
      intro i c hi
      have key : ∀ j v, (cells3 c)[j]? = some v → w.cell? ⟨g, i * 3 + j, none⟩ = some v := by
        intro j v hv
        have hj : j < 3 := (List.getElem?_eq_some_iff.1 hv).1
        have hlt : i < cs.length := (List.getElem?_eq_some_iff.1 hi).1
        have e : cur[i * 3 + j]? = some v := by
          have e1 : (cs.flatMap cells3)[i * 3 + j]? = (cells3 c)[j]? := flat3 cs i j c hi hj
          have e2 : cur.toList[i * 3 + j]? = (cur.toList.take (cs.length * 3))[i * 3 + j]? := (List.getElem?_take_of_lt (by omega)).symm
          rw [← Array.getElem?_toList, e2, r4, e1, hv]
        simp [World.cell?, hh, e]
      refine ⟨?_, ?_, ?_⟩
      · have := key 0 _ rfl; simpa using this
      · have := key 1 _ rfl; simpa using this
      · have := key 2 _ rfl; simpa using this
    exact ⟨_, cap, rfl, r1, ⟨rfl, hz, hok, fun _ => ⟨g, 0, rfl, hrow⟩⟩, fun _ => ⟨g, rfl, hrow, hb⟩⟩

theorem holds_news {base : Nat} {w : World} {g n cap : Nat} {cs : List Con} (h : w.ownsRow base 26 3 (.slice (some ⟨g, 0, none⟩) n cap) cs.length (cs.flatMap cells3)) : ∀ (j : Nat) u, (cs.flatMap cells3)[j]? = some u → w.cell? ((⟨g, 0, none⟩ : Addr).add j) = some u := by
  intro j u hu
  rcases h.2 with ⟨e, _⟩ | ⟨g', cap', cur, e, hb, hh, r1, r2, r3, r4⟩
  · exact absurd e (by simp)
  · simp only [Value.slice.injEq, Option.some.injEq, Addr.mk.injEq, and_true] at e
    obtain ⟨rfl, _, _⟩ := e
    rw [addr_add]
    have hj : j < cs.length * 3 := by
      have := (List.getElem?_eq_some_iff.1 hu).1
      have hl := h.1
      rw [hl] at this; exact this
    have e2 : cur.toList[j]? = (cur.toList.take (cs.length * 3))[j]? := (List.getElem?_take_of_lt hj).symm
    have e3 : cur[j]? = some u := by rw [← Array.getElem?_toList, e2, r4, hu]
    simp [World.cell?, hh, e3]

theorem one3 (cs : List Con) : ∀ u ∈ cs.flatMap cells3, u.oneCell' = true := by
  intro u hu
  obtain ⟨c, _, hc⟩ := List.mem_flatMap.1 hu
  simp only [cells3, List.mem_cons, List.not_mem_nil, or_false] at hc
  rcases hc with rfl | rfl | rfl <;> rfl

theorem len3 (cs : List Con) : (cs.flatMap cells3).length = cs.length * 3 := by
  induction cs with
  | nil => rfl
  | cons a r ih => rw [List.flatMap_cons, List.length_append, ih, List.length_cons]; show 3 + _ = _; omega

theorem holds_append {base : Nat} {w : World} {v : Value} {a b : List Con} {n m : Nat} (hn : n = a.length) (hm : m = b.length) (h : w.ownsRow base 26 3 v (n + m) (a.flatMap cells3 ++ b.flatMap cells3)) : Holds3 base w v (a ++ b) := by
  subst hn hm
  unfold Holds3
  rw [List.flatMap_append, List.length_append]
  exact h

/-- A piece of a list that the call made, as a slice. -/
theorem piece {w : World} {g : Nat} {cs : List Con} (h : conRow w g 0 cs) (hok : ∀ c ∈ cs, c.ok) (i n : Nat) (hn : n = ((cs.drop i).take n).length) (hz : n * 32 ≤ 140737488355328) (ao : Option Addr) (ha : 0 < n → ao = some ⟨g, i * 3, none⟩) : IsCons w ao n ((cs.drop i).take n) := by
  refine ⟨hn.symm, hz, fun c hc => hok c (List.mem_of_mem_drop (List.mem_of_mem_take hc)), fun hp => ⟨g, i * 3, ha hp, fun k c hk => ?_⟩⟩
  have hkn : k < n := by
    have := (List.getElem?_eq_some_iff.1 hk).1
    rw [← hn] at this; exact this
  rw [List.getElem?_take_of_lt hkn, List.getElem?_drop] at hk
  have := h (i + k) c hk
  rw [Nat.zero_add, Nat.add_mul] at this
  exact this

theorem holds_mono {b b' : Nat} {w : World} {v : Value} {cs : List Con} (hb : b' ≤ b) (h : Holds3 b w v cs) : Holds3 b' w v cs := by
  refine ⟨h.1, ?_⟩
  rcases h.2 with h | ⟨g, cap, cur, e, hg, r⟩
  · exact .inl h
  · exact .inr ⟨g, cap, cur, e, by omega, r⟩
end Go.Proofs.YtoppnjpajeipdaaGreatDoor
