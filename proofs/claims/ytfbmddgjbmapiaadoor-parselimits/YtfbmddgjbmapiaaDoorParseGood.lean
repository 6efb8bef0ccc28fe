/- The tokens of a text: how many there are, and that their parts are small. -/
import Derived.Test.YtfbmddgjbmapiaaDoorParseReader
namespace Go.Proofs.YtfbmddgjbmapiaaDoor
set_option linter.unusedSimpArgs false
set_option linter.unusedVariables false
open Go.RowKit

theorem parse_i64 {l : List UInt8} {v : Int} (h : Lib.parseIntB 64 l = .ok v) : I64 v := by
  unfold Lib.parseIntB at h
  cases l with
  | nil => cases h
  | cons c r =>
    simp only at h
    cases hu : Lib.parseUintB 64 (if c.toNat = 43 ∨ c.toNat = 45 then r else c :: r) with
    | «syntax» => rw [hu] at h; cases h
    | range => rw [hu] at h; cases h
    | ok u =>
      rw [hu] at h
      simp only at h
      by_cases h1 : ¬ c.toNat = 45 ∧ 2 ^ (64 - 1) ≤ u
      · rw [if_pos h1] at h; cases h
      · rw [if_neg h1] at h
        by_cases h2 : c.toNat = 45 ∧ 2 ^ (64 - 1) < u
        · rw [if_pos h2] at h; cases h
        · rw [if_neg h2] at h
          injection h with h
          subst h
          unfold I64
          by_cases h3 : c.toNat = 45
          · rw [if_pos h3]; simp only [h3, true_and] at h2; omega
          · rw [if_neg h3]; simp only [h3, not_false_eq_true, true_and] at h1; omega

theorem push_size (vs : List Int) : ∀ b : ByteArray, (vs.foldl (fun r n => r.push (UInt8.ofNat n.toNat)) b).size = b.size + vs.length := by
  induction vs with
  | nil => intro b; simp
  | cons a r ih => intro b; rw [List.foldl_cons, ih, ByteArray.size_push, List.length_cons]; omega
theorem strOf_size (vs : List Int) : (strOf vs).size = vs.length := by unfold strOf; rw [push_size]; simp

theorem textF_good (s : ByteArray) (o : Nat) : ∀ (n i : Nat) (vs : List Int) (t : Tok), s.size - i = n → vs.length ≤ 255 → textF s o i vs = .tok t → t.k = 4 ∧ t.n = 0 ∧ t.op = 0 ∧ t.t.size ≤ 255 := by
  intro n
  induction n using Nat.strongRecOn with
  | ind n ih =>
    intro i vs t hn hv h
    rw [textF] at h
    by_cases h1 : i < s.size
    · rw [dif_pos h1] at h
      by_cases h2 : (s[i].toNat : Int) < 32
      · rw [if_pos h2] at h; cases h
      rw [if_neg h2] at h
      by_cases h3 : (s[i].toNat : Int) = 34
      · rw [if_pos h3] at h
        injection h with h
        subst h
        exact ⟨rfl, rfl, rfl, by show (strOf vs).size ≤ 255; rw [strOf_size]; exact hv⟩
      rw [if_neg h3] at h
      by_cases h4 : (s[i].toNat : Int) = 92
      · rw [if_pos h4] at h
        by_cases h5 : (escX (s.extract i s.size)).2.toNat = 0
        · rw [dif_pos h5] at h; cases h
        rw [dif_neg h5] at h
        by_cases h6 : vs.length = 255
        · rw [if_pos h6] at h; cases h
        rw [if_neg h6] at h
        exact ih (s.size - (i + (escX (s.extract i s.size)).2.toNat)) (by omega) _ _ t rfl (by simp; omega) h
      rw [if_neg h4] at h
      by_cases h6 : vs.length = 255
      · rw [if_pos h6] at h; cases h
      rw [if_neg h6] at h
      exact ih (s.size - (i + 1)) (by omega) _ _ t rfl (by simp; omega) h
    · rw [dif_neg h1] at h; cases h

theorem i64_small {x : Int} (h : -100 ≤ x ∧ x ≤ 100) : I64 x := by unfold I64; omega
theorem punctL_good {l : List UInt8} {n : Nat} {k op : Int} : ∀ {ms : List (List UInt8 × Int × Int)}, (∀ m ∈ ms, (0 ≤ m.2.1 ∧ m.2.1 ≤ 100) ∧ (0 ≤ m.2.2 ∧ m.2.2 ≤ 100)) → punctL ms l = some (n, k, op) → (0 ≤ k ∧ k ≤ 100) ∧ (0 ≤ op ∧ op ≤ 100)
  | [], _, h => by simp [punctL] at h
  | m :: r, hm, h => by
    unfold punctL at h
    by_cases h1 : Lib.hasPrefix l m.1 = true
    · rw [if_pos h1] at h
      simp only [Option.some.injEq, Prod.mk.injEq] at h
      obtain ⟨-, rfl, rfl⟩ := h
      exact hm m List.mem_cons_self
    · rw [if_neg h1] at h
      exact punctL_good (fun m' hm' => hm m' (List.mem_cons_of_mem _ hm')) h

theorem tokAt_good {s : ByteArray} {g : Nat} {t : Tok} (hs : s.size ≤ 65536) (hg : g ≤ s.size) (h : tokAt s g = .tok t) : t.good := by
  have ho := (tokAt_en hg h).1
  have key : t.t.size ≤ 65536 ∧ I64 t.k ∧ I64 t.n ∧ I64 t.op := by
    unfold tokAt at h
    by_cases h0 : g < s.size
    · rw [dif_pos h0] at h
      split at h
      · unfold wordX at h
        simp only at h
        split at h
        · cases h
        · next hm =>
          have hz : (s.extract g (g + runC (rest s g))).size ≤ 65536 := by rw [ByteArray.size_extract]; omega
          split at h
          · injection h with h; subst h; exact ⟨by show (0 : Nat) ≤ 65536; omega, i64_small (by simp), i64_small (by simp), i64_small (by simp)⟩
          · split at h
            · injection h with h; subst h; exact ⟨hz, i64_small (by simp), i64_small (by simp), i64_small (by simp)⟩
            · injection h with h; subst h; exact ⟨hz, i64_small (by simp), i64_small (by simp), i64_small (by simp)⟩
      · split at h
        · unfold intX at h
          split at h
          · next v hv => injection h with h; subst h; exact ⟨by show (0 : Nat) ≤ 65536; omega, i64_small (by simp), parse_i64 hv, i64_small (by simp)⟩
          · cases h
        · split at h
          · obtain ⟨h1, h2, h3, h4⟩ := textF_good s g _ _ _ _ rfl (by simp) h
            exact ⟨by omega, by rw [h1]; exact i64_small (by simp), by rw [h2]; exact i64_small (by simp), by rw [h3]; exact i64_small (by simp)⟩
          · unfold punctX at h
            cases hp : punctL marksT (rest s g) with
            | none => rw [hp] at h; cases h
            | some x =>
              obtain ⟨n, k, op⟩ := x
              rw [hp] at h
              injection h with h
              subst h
              have := punctL_good (by decide) hp
              exact ⟨by show (0 : Nat) ≤ 65536; omega, i64_small (by show -100 ≤ k ∧ k ≤ 100; omega), i64_small (by simp), i64_small (by show -100 ≤ op ∧ op ≤ 100; omega)⟩
    · rw [dif_neg h0] at h
      injection h with h; subst h; exact ⟨by show (0 : Nat) ≤ 65536; omega, i64_small (by simp), i64_small (by simp), i64_small (by simp)⟩
  exact ⟨key.1, key.2.1, key.2.2.1, key.2.2.2, by omega⟩
theorem next_good {s : ByteArray} {o : Nat} {t : Tok} (hs : s.size ≤ 65536) (ho : o ≤ s.size) (h : nextX s o = .tok t) : t.good := by
  have h1 := next_tok ho h
  unfold nextX at h
  rw [if_pos h1.1] at h
  exact tokAt_good hs (gapW_le s o ho).2 h
theorem toks_good {s : ByteArray} (hs : s.size ≤ 65536) {o : Nat} {L : List Tok} {c : Int} {f : Nat} (h : Toks s o L c f) : (∀ t ∈ L, t.good) ∧ L.length + o ≤ s.size + 1 := by
  induction h with
  | bad ho hx => exact ⟨by simp, by simp; omega⟩
  | last ho hx hk => exact ⟨fun t ht => by simp only [List.mem_singleton] at ht; subst ht; exact next_good hs ho hx, by simp; omega⟩
  | more ho hx hk T ih =>
    obtain ⟨-, -, h1, h2⟩ := next_tok ho hx
    obtain ⟨_, h3, h4⟩ := h2.resolve_left (fun h => hk h.1)
    refine ⟨fun t ht => ?_, by simp only [List.length_cons]; omega⟩
    rcases List.mem_cons.1 ht with rfl | ht
    · exact next_good hs ho hx
    · exact ih.1 t ht
theorem scan_good (s : ByteArray) : (∀ t ∈ (scanX s).1, t.good) ∧ (scanX s).1.length ≤ 65538 := by
  by_cases hs : s.size ≤ 65536
  · have := toks_good hs (scan_toks s hs)
    exact ⟨this.1, by omega⟩
  · have e : scanX s = ([], 1, 0) := if_pos (by omega)
    rw [e]
    exact ⟨by simp, by simp⟩
end Go.Proofs.YtfbmddgjbmapiaaDoor
