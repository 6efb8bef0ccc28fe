/- A table that takes constants of numbers: what its calls answer. -/
import Derived.Test.YtlghlkgdngoagaaProg
import Derived.Test.YtlghlkgdngoagaaTable
import Derived.Test.YtlghlkgdngoagaaConEq
import Derived.Test.YtlghlkgdngoagaaSilent
namespace Go.Proofs.Ytlghlkgdngoagaa
set_option linter.unusedSimpArgs false
set_option linter.unusedVariables false
open Go.RowKit Go.Maps

/-- The constant of a number. -/
def keyI (z : Int) : Con := ⟨1, z, ⟨#[]⟩⟩
def keyN (i : Nat) : Con := keyI (7 * (i : Int) - 100000)
def ksN (k : Nat) : List Con := (List.range k).map keyN

theorem keyI_valid (z : Int) : validC (keyI z) = true := by
  unfold validC keyI
  rw [if_pos rfl, ByteArray.toList_eq]
  rfl
theorem keyI_ok {z : Int} (h : I64 z) : (keyI z).ok := ⟨by unfold I64 keyI; simp, h, (show (⟨#[]⟩ : ByteArray).size ≤ 140737488351232 from by decide)⟩
theorem keyI_inj {a b : Int} (h : keyI a = keyI b) : a = b := congrArg Con.n h
theorem ksN_len (k : Nat) : (ksN k).length = k := by simp [ksN]
theorem ksN_succ (k : Nat) : ksN (k + 1) = ksN k ++ [keyN k] := by unfold ksN; rw [List.range_succ, List.map_append]; rfl
theorem ksN_at {k i : Nat} (h : i < k) : (ksN k)[i]? = some (keyN i) := by unfold ksN; rw [List.getElem?_map, List.getElem?_range h]; rfl
theorem ksN_take {k i : Nat} (h : i ≤ k) : (ksN k).take i = ksN i := by unfold ksN; rw [← List.map_take, List.take_range, Nat.min_eq_left h]
theorem ksN_mem {k : Nat} {z : Int} (h : keyI z ∈ ksN k) : ∃ i, i < k ∧ z = 7 * (i : Int) - 100000 := by
  unfold ksN at h
  obtain ⟨i, hi, he⟩ := List.mem_map.1 h
  exact ⟨i, List.mem_range.1 hi, (keyI_inj he).symm⟩
theorem ksN_ok {k : Nat} (hk : k ≤ 70000) : ∀ c ∈ ksN k, c.ok := by
  intro c hc
  unfold ksN at hc
  obtain ⟨i, hi, rfl⟩ := List.mem_map.1 hc
  have := List.mem_range.1 hi
  exact keyI_ok (by unfold I64; omega)
theorem ksN_nodup (k : Nat) : (ksN k).Nodup := by
  unfold ksN
  refine List.Pairwise.map _ ?_ List.nodup_range
  intro a b hab he
  have := keyI_inj he
  omega

/-- A table of the first k constants, all of it beyond what was there. -/
def Tab (w W : World) (p m n k : Nat) : Prop := ∃ ao cap, TableAt 0 W p m n ao cap (ksN k) ∧ Below w.heap.size w W ∧ (∀ a, ao = some a → w.heap.size ≤ a.block)

theorem Tab.grow {w W W' : World} {p m n k : Nat} (h : Tab w W p m n k) (hb : Below W.heap.size W W') : Tab w W' p m n k := by
  obtain ⟨ao, cap, h1, h2, h3⟩ := h
  exact ⟨ao, cap, h1.grow hb, h2.trans (hb.mono h2.size), h3⟩

theorem tab_next {w W : World} {p m n k : Nat} (hp : w.heap.size ≤ p) (hm : w.heap.size ≤ m) (h : Tab w W p m n k) (hn : n ≤ k) (hk : k < 65536) :
    Calls Try.prog 17 #[.pointer (some ⟨p, 0, none⟩), .agg #[.int .i64 1, .int .i64 (7 * (k : Int) - 100000), .string ⟨#[]⟩]] W fun e W' => e = .returned (.tuple #[.int .i64 (k : Int), .int .i64 0]) ∧ Tab w W' p m (n + 1) (k + 1) := by
  obtain ⟨ao, cap, h1, h2, h3⟩ := h
  have hnew : keyN k ∉ ksN k := fun hc => by obtain ⟨i, hi, he⟩ := ksN_mem hc; omega
  have := tableIntern_new h1 (Nat.zero_le _) (c := keyN k) (keyI_ok (by unfold I64; omega)) (ksN_ok (by omega)) (keyI_valid _) hnew (by omega) (by rw [ksN_len]; exact hk)
  rw [ksN_len] at this
  refine this.mono ?_
  rintro e W' ⟨he, ao', cap', a1, a2, a3⟩
  refine ⟨he, ao', cap', by rw [ksN_succ]; exact a1, ?_, ?_⟩
  · exact h2.trans (a2.below h2.size (by
      rintro j hj (rfl | rfl | ⟨a, ha, rfl⟩)
      · omega
      · omega
      · have := h3 a ha; omega))
  · intro a ha
    rcases a3 a ha with h | h
    · exact h3 a h
    · exact Nat.le_trans h2.size h

theorem tab_at {w W : World} {p m n k i : Nat} (h : Tab w W p m n k) (hk : k ≤ 65536) (hi : i < k) :
    Calls Try.prog 19 #[.pointer (some ⟨p, 0, none⟩), .int .i64 (i : Int)] W fun e W' => e = .returned (.tuple #[.agg #[.int .i64 1, .int .i64 (7 * (i : Int) - 100000), .string ⟨#[]⟩], .bool true]) ∧ Below W.heap.size W W' := by
  obtain ⟨ao, cap, h1, h2, h3⟩ := h
  exact atCon_in h1 (by rw [ksN_len]; omega) (ksN_at hi)

theorem tab_find {w W : World} {p m n k i : Nat} (h : Tab w W p m n k) (hk : k ≤ 65536) (hi : i < k) :
    Calls Try.prog 20 #[.pointer (some ⟨p, 0, none⟩), .agg #[.int .i64 1, .int .i64 (7 * (i : Int) - 100000), .string ⟨#[]⟩]] W fun e W' => e = .returned (.int .i64 (i : Int)) ∧ Below W.heap.size W W' := by
  obtain ⟨ao, cap, h1, h2, h3⟩ := h
  exact (findCon_some h1 (c := keyN i) (keyI_ok (by unfold I64; omega)) (ksN_at hi)).mono fun e W' hh => hh

theorem tab_full {w W : World} {p m n : Nat} (h : Tab w W p m n 65536) :
    Calls Try.prog 17 #[.pointer (some ⟨p, 0, none⟩), .agg #[.int .i64 1, .int .i64 3, .string ⟨#[]⟩]] W fun e W' => e = .returned (.tuple #[.int .i64 0, .int .i64 6]) ∧ Below W.heap.size W W' := by
  obtain ⟨ao, cap, h1, h2, h3⟩ := h
  exact tableIntern_full h1 (c := keyI 3) (keyI_ok (by unfold I64; omega)) (ksN_ok (by omega)) (keyI_valid _) (fun hc => by obtain ⟨i, hi, he⟩ := ksN_mem hc; omega) (ksN_len _)

theorem tab_none {w W : World} {p m n k : Nat} {z : Int} (h : Tab w W p m n k) (hk : k ≤ 65536) (hz : z = 3 ∨ (z = 358745 ∧ k ≤ 65535)) :
    Calls Try.prog 20 #[.pointer (some ⟨p, 0, none⟩), .agg #[.int .i64 1, .int .i64 z, .string ⟨#[]⟩]] W fun e W' => e = .returned (.int .i64 (-1)) ∧ Below W.heap.size W W' := by
  obtain ⟨ao, cap, h1, h2, h3⟩ := h
  exact findCon_none h1 (c := keyI z) (keyI_ok (by unfold I64; omega)) (ksN_ok (by omega)) (fun hc => by obtain ⟨i, hi, he⟩ := ksN_mem hc; omega)

theorem tab_len {w W : World} {p m n k : Nat} (h : Tab w W p m n k) :
    Calls Try.prog 21 #[.pointer (some ⟨p, 0, none⟩)] W fun e W' => e = .returned (.int .i64 (k : Int)) ∧ W' = W := by
  obtain ⟨ao, cap, h1, h2, h3⟩ := h
  have := lenCon_any h1
  rw [ksN_len] at this
  exact this

theorem tab_old {w W : World} {p m n k : Nat} (h : Tab w W p m n k) (hk : k ≤ 65536) (h9 : 9 < k) :
    Calls Try.prog 17 #[.pointer (some ⟨p, 0, none⟩), .agg #[.int .i64 1, .int .i64 (-99937), .string ⟨#[]⟩]] W fun e W' => e = .returned (.tuple #[.int .i64 9, .int .i64 0]) ∧ Below W.heap.size W W' := by
  obtain ⟨ao, cap, h1, h2, h3⟩ := h
  exact tableIntern_old h1 (c := keyN 9) (keyI_ok (by unfold I64; omega)) (keyI_valid _) (ksN_at h9)

theorem tab_bad {w W : World} {p m n k : Nat} (h : Tab w W p m n k) :
    Calls Try.prog 17 #[.pointer (some ⟨p, 0, none⟩), .agg #[.int .i64 0, .int .i64 0, .string ⟨#[]⟩]] W fun e W' => e = .returned (.tuple #[.int .i64 0, .int .i64 5]) ∧ Below W.heap.size W W' := by
  obtain ⟨ao, cap, h1, h2, h3⟩ := h
  exact tableIntern_bad h1 (c := ⟨0, 0, ⟨#[]⟩⟩) ⟨by unfold I64; simp, by unfold I64; simp, by decide⟩ rfl

theorem tab_cut {w W : World} {p m n k d : Nat} (hp : w.heap.size ≤ p) (hm : w.heap.size ≤ m) (h : Tab w W p m n k) (hk : k ≤ 65536) (hd : d < k) :
    Calls Try.prog 22 #[.pointer (some ⟨p, 0, none⟩), .int .i64 (d : Int)] W fun e W' => e = .returned (.tuple #[]) ∧ Tab w W' p m n d := by
  obtain ⟨ao, cap, h1, h2, h3⟩ := h
  refine (cutCon_some h1 (ksN_nodup k) (ksN_ok (by omega)) (by rw [ksN_len]; omega) (c := (d : Int)) (d := d) (.inl rfl) (by rw [ksN_len]; exact hd)).mono ?_
  rintro e W' ⟨he, a1, a2⟩
  rw [ksN_take (by omega)] at a1
  exact ⟨he, ao, cap, a1, h2.trans (a2.below h2.size (by
      rintro j hj (rfl | rfl | ⟨a, ha, rfl⟩)
      · omega
      · omega
      · have := h3 a ha; omega)), h3⟩

/-- The last constant, put where another one was forgotten. -/
theorem tab_last {w W : World} {p m n : Nat} (hp : w.heap.size ≤ p) (hm : w.heap.size ≤ m) (h : Tab w W p m n 65535) (hn : n ≤ 65536) :
    Calls Try.prog 17 #[.pointer (some ⟨p, 0, none⟩), .agg #[.int .i64 1, .int .i64 3, .string ⟨#[]⟩]] W fun e W' => e = .returned (.tuple #[.int .i64 65535, .int .i64 0]) ∧ Below w.heap.size w W' ∧
      ∀ W2, Below W'.heap.size W' W2 → Calls Try.prog 20 #[.pointer (some ⟨p, 0, none⟩), .agg #[.int .i64 1, .int .i64 358745, .string ⟨#[]⟩]] W2 fun e W3 => e = .returned (.int .i64 (-1)) ∧ Below W2.heap.size W2 W3 := by
  obtain ⟨ao, cap, h1, h2, h3⟩ := h
  have hno : ∀ z : Int, z = 3 ∨ z = 358745 → keyI z ∉ ksN 65535 := fun z hz hc => by obtain ⟨i, hi, he⟩ := ksN_mem hc; omega
  have := tableIntern_new h1 (Nat.zero_le _) (c := keyI 3) (keyI_ok (by unfold I64; omega)) (ksN_ok (by omega)) (keyI_valid _) (hno 3 (.inl rfl)) (by omega) (by rw [ksN_len]; omega)
  rw [ksN_len] at this
  refine this.mono ?_
  rintro e W' ⟨he, ao', cap', a1, a2, a3⟩
  refine ⟨he, ?_, ?_⟩
  · exact h2.trans (a2.below h2.size (by
      rintro j hj (rfl | rfl | ⟨a, ha, rfl⟩)
      · omega
      · omega
      · have := h3 a ha; omega))
  · intro W2 hW2
    refine findCon_none (a1.grow hW2) (c := keyI 358745) (keyI_ok (by unfold I64; omega)) ?_ ?_
    · intro c hc
      rcases List.mem_append.1 hc with hc | hc
      · exact ksN_ok (k := 65535) (by omega) c hc
      · obtain rfl := List.mem_singleton.1 hc
        exact keyI_ok (by unfold I64; omega)
    · intro hc
      rcases List.mem_append.1 hc with hc | hc
      · exact hno _ (.inr rfl) hc
      · have := keyI_inj (List.mem_singleton.1 hc)
        omega

end Go.Proofs.Ytlghlkgdngoagaa
