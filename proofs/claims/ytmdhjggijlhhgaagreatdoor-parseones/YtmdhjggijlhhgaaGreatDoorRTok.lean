/- Tokens as elements of lists; what every token of a text is like; the document's term, take and over. -/
import Derived.Test.YtmdhjggijlhhgaaGreatDoorProg
import Derived.Test.YtmdhjggijlhhgaaGreatDoorRTabPure
import Derived.Test.YtmdhjggijlhhgaaGreatDoorParseGood
import Derived.Test.YtmdhjggijlhhgaaGreatDoorParseCatch
import Derived.Test.YtmdhjggijlhhgaaGreatDoorForms
import Derived.Test.YtmdhjggijlhhgaaGreatDoorPush
namespace Go.Proofs.YtmdhjggijlhhgaaGreatDoor
set_option linter.unusedSimpArgs false
set_option linter.unusedVariables false
open Go.RowKit

/-- Only an integer has a number, and an integer has no text. -/
def Tok.plain (t : Tok) : Prop := (t.k = 3 → t.t = ⟨#[]⟩) ∧ (t.k ≠ 3 → t.n = 0)
theorem tokAt_plain {s : ByteArray} {g : Nat} {t : Tok} (h : tokAt s g = .tok t) : t.plain := by
  unfold tokAt at h
  by_cases h0 : g < s.size
  · rw [dif_pos h0] at h
    split at h
    · unfold wordX at h
      simp only at h
      split at h
      · cases h
      · split at h
        · injection h with h; subst h; exact ⟨fun _ => rfl, fun _ => rfl⟩
        · split at h
          · injection h with h; subst h; exact ⟨fun h => by simp at h, fun _ => rfl⟩
          · injection h with h; subst h; exact ⟨fun h => by simp at h, fun _ => rfl⟩
    · split at h
      · unfold intX at h
        split at h
        · injection h with h; subst h; exact ⟨fun _ => rfl, fun h => absurd rfl h⟩
        · cases h
      · split at h
        · obtain ⟨h1, h2, h3, h4⟩ := textF_good s g _ _ _ _ rfl (by simp) h
          exact ⟨fun e => by omega, fun _ => h2⟩
        · unfold punctX at h
          cases hp : punctL marksT (rest s g) with
          | none => rw [hp] at h; cases h
          | some x =>
            obtain ⟨n, k, op⟩ := x
            rw [hp] at h
            injection h with h
            subst h
            exact ⟨fun _ => rfl, fun _ => rfl⟩
  · rw [dif_neg h0] at h
    injection h with h; subst h; exact ⟨fun _ => rfl, fun _ => rfl⟩
theorem next_plain {s : ByteArray} {o : Nat} {t : Tok} (ho : o ≤ s.size) (h : nextX s o = .tok t) : t.plain := by
  have h1 := next_tok ho h
  unfold nextX at h
  rw [if_pos h1.1] at h
  exact tokAt_plain h
theorem toks_plain {s : ByteArray} {o : Nat} {L : List Tok} {c : Int} {f : Nat} (h : Toks s o L c f) : (∀ t ∈ L, t.plain) ∧ Wf c L := by
  induction h with
  | bad ho hx => exact ⟨by simp, by unfold Wf; have := next_bad hx; omega⟩
  | last ho hx hk => exact ⟨fun t ht => by simp only [List.mem_singleton] at ht; subst ht; exact next_plain ho hx, by unfold Wf; rw [if_pos hk]; exact ⟨rfl, rfl⟩⟩
  | more ho hx hk _ ih =>
    refine ⟨fun t ht => ?_, by unfold Wf; rw [if_neg hk]; exact ih.2⟩
    rcases List.mem_cons.1 ht with rfl | h
    · exact next_plain ho hx
    · exact ih.1 t h
theorem scan_plain (s : ByteArray) : (∀ t ∈ (scanX s).1, t.plain) ∧ Wf (scanX s).2.1 (scanX s).1 := by
  by_cases h : s.size ≤ 65536
  · exact toks_plain (scan_toks s h)
  · rw [show scanX s = ([], 1, 0) from if_pos (by omega)]
    exact ⟨by simp, by unfold Wf; decide⟩

def elTok : El Tok where
  cells := cells6
  size := 6
  pos := by decide
  len _ := rfl
  ok _ _ t := t.good ∧ t.plain
  one _ u hu := by simp only [cells6, List.mem_cons, List.not_mem_nil, or_false] at hu; rcases hu with rfl | rfl | rfl | rfl | rfl | rfl <;> rfl
  move h _ := h
/-- A list of tokens in a cell. -/
def elTL : El (Value × List Tok) where
  cells p := [p.1]
  size := 1
  pos := by decide
  len _ := rfl
  ok w F p := Lst elTok w F p.1 p.2
  one h u hu := by
    simp only [List.mem_singleton] at hu
    obtain ⟨ao, cap, e, _⟩ := h.shape
    rw [hu, e]; rfl
  move h hm := Lst.move h hm

set_option maxHeartbeats 1000000 in
theorem rterm_any (t : Tok) (ht : t.plain) (w : World) :
    Calls Tryz.prog 42 #[tokV t] w fun e w' => e = .returned (termP t).val ∧ Below w.heap.size w w' := by
  obtain ⟨tk, tt, tn, top, toff, ten⟩ := t
  unfold tokV termP Trm.val kindT
  simp only
  by_cases h3 : tk = 3
  · have e := ht.1 h3
    simp only at e
    subst h3 e
    go_enter Tryz.func42, Tryz.ntmps42
    go_wp2
    exact bodyPost_ret (v := .agg #[.int .i64 1, .int .i64 tn, .string ⟨#[]⟩, .int .i64 (toff : Int)]) (by simp [results, Tryz.results42, go_sem]) rfl ⟨by simp, belowt2 (belowA _ _) (belowA _ _)⟩
  · have e := ht.2 h3
    simp only at e
    subst e
    have e3 : (tk == 3) = false := by simpa using h3
    by_cases h1 : tk = 1
    · subst h1
      go_enter Tryz.func42, Tryz.ntmps42
      go_wp2
      exact bodyPost_ret (v := .agg #[.int .i64 2, .int .i64 0, .string tt, .int .i64 (toff : Int)]) (by simp [results, Tryz.results42, go_sem]) rfl ⟨by simp, belowt2 (belowA _ _) (belowA _ _)⟩
    · have e1 : (tk == 1) = false := by simpa using h1
      by_cases h4 : tk = 4
      · subst h4
        go_enter Tryz.func42, Tryz.ntmps42
        go_wp2
        exact bodyPost_ret (v := .agg #[.int .i64 3, .int .i64 0, .string tt, .int .i64 (toff : Int)]) (by simp [results, Tryz.results42, go_sem]) rfl ⟨by simp, belowt2 (belowA _ _) (belowA _ _)⟩
      · have e4 : (tk == 4) = false := by simpa using h4
        go_enter Tryz.func42, Tryz.ntmps42
        go_wp2
        exact bodyPost_ret (v := .agg #[.int .i64 4, .int .i64 0, .string tt, .int .i64 (toff : Int)]) (by simp [results, Tryz.results42, go_sem]) rfl ⟨by simp [h1, h3, h4], belowt2 (belowA _ _) (belowA _ _)⟩

def Cnt.val (c : Cnt) : Value := .agg #[.int .i64 c.c, .int .i64 c.l, .int .i64 c.t]
def Cnt.small (c : Cnt) (n : Int) : Prop := (0 ≤ c.c ∧ c.c ≤ n) ∧ (0 ≤ c.l ∧ c.l ≤ n) ∧ (0 ≤ c.t ∧ c.t ≤ n)
theorem take_small {c : Cnt} {n s k : Int} (h : c.small n) (hn : 0 ≤ n) : (takeC c s k).small (n + 1) := by
  obtain ⟨h1, h2, h3⟩ := h
  unfold takeC Cnt.small
  simp only
  split <;> split <;> (try split) <;> (try split) <;> (try split) <;> (try split) <;> simp_all <;> omega
end Go.Proofs.YtmdhjggijlhhgaaGreatDoor
