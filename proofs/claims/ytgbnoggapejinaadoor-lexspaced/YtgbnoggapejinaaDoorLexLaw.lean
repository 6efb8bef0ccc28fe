/- What the statements of lex have in common: the helpers head, begun, ended; the tokens' list in memory. -/
import Derived.Test.YtgbnoggapejinaaDoorProg
import Derived.Test.YtgbnoggapejinaaDoorLexToks
namespace Go.Proofs.YtgbnoggapejinaaDoor
set_option linter.unusedSimpArgs false
set_option linter.unusedVariables false
open Go.RowKit

theorem tok_self (t : Tok) (w : World) : (binOp .eql 36 (.agg #[.int .i64 t.k, .string t.t, .int .i64 t.n, .int .i64 t.op, .int .i64 (t.off : Int), .int .i64 (t.en : Int)]) (.agg #[.int .i64 t.k, .string t.t, .int .i64 t.n, .int .i64 t.op, .int .i64 (t.off : Int), .int .i64 (t.en : Int)])).run Tryd.prog w = .ok (.bool true) w := by
  have h1 := run_equalIn_struct (P := Tryd.prog) w 9999 36 #[.int .i64 t.k, .string t.t, .int .i64 t.n, .int .i64 t.op, .int .i64 (t.off : Int), .int .i64 (t.en : Int)] #[.int .i64 t.k, .string t.t, .int .i64 t.n, .int .i64 t.op, .int .i64 (t.off : Int), .int .i64 (t.en : Int)] (by kernel_rfl) (by kernel_rfl)
  simp only [binOp]
  simp only [Op.equal, Op.maxDepth, Sem.run_bind]
  go_simp

theorem fault_self (w : World) : (binOp .neq 31 (.agg #[.int .i64 0, .int .i64 0, .int .i64 0]) (.agg #[.int .i64 0, .int .i64 0, .int .i64 0])).run Tryd.prog w = .ok (.bool false) w := by
  have h1 := run_equalIn_struct (P := Tryd.prog) w 9999 31 #[.int .i64 0, .int .i64 0, .int .i64 0] #[.int .i64 0, .int .i64 0, .int .i64 0] (by kernel_rfl) (by kernel_rfl)
  simp only [binOp]
  simp only [Op.equal, Op.maxDepth, Sem.run_bind]
  go_simp

theorem head_any (s : ByteArray) (w : World) (hs : s.size ≤ 140737488351232) :
    Calls Tryd.prog 11 #[.string s] w fun e w' => e = .returned (.string (headS s)) ∧ w' = w := by
  by_cases h : (65534 : Int) < (s.size : Int)
  · rw [show headS s = ⟨#[97, 32]⟩ ++ s.extract 0 65534 from by unfold headS; rw [if_pos h]]
    have h2 : (65534 : Int) ≤ (s.size : Int) := by omega
    go_enter Tryd.func11, Tryd.ntmps11
    go_wp2
    go_ret
    exact ⟨rfl, rfl⟩
  · rw [show headS s = ⟨#[97, 32]⟩ ++ s from by unfold headS; rw [if_neg h]]
    go_enter Tryd.func11, Tryd.ntmps11
    go_wp2
    go_ret
    exact ⟨rfl, rfl⟩

/-- The token t lies in six cells. -/
structure TokAt (w : World) (g o : Nat) (t : Tok) : Prop where
  c0 : w.cell? ⟨g, o, none⟩ = some (.int .i64 t.k)
  c1 : w.cell? ⟨g, o + 1, none⟩ = some (.string t.t)
  c2 : w.cell? ⟨g, o + 2, none⟩ = some (.int .i64 t.n)
  c3 : w.cell? ⟨g, o + 3, none⟩ = some (.int .i64 t.op)
  c4 : w.cell? ⟨g, o + 4, none⟩ = some (.int .i64 (t.off : Int))
  c5 : w.cell? ⟨g, o + 5, none⟩ = some (.int .i64 (t.en : Int))

theorem TokAt.kept {w w' : World} {g o : Nat} {t : Tok} (h : TokAt w g o t) (hb : Below w.heap.size w w') : TokAt w' g o t :=
  ⟨kept_cell hb h.c0, kept_cell hb h.c1, kept_cell hb h.c2, kept_cell hb h.c3, kept_cell hb h.c4, kept_cell hb h.c5⟩

theorem flat6_at : ∀ (L : List Tok) (i : Nat) (t : Tok) (j : Nat), L[i]? = some t → j < 6 → (L.flatMap cells6)[i * 6 + j]? = (cells6 t)[j]?
  | [], i, t, j, h, _ => by simp at h
  | x :: r, 0, t, j, h, hj => by
    obtain rfl : x = t := by simpa using h
    rw [List.flatMap_cons, Nat.zero_mul, Nat.zero_add, List.getElem?_append_left (by show j < 6; exact hj)]
  | x :: r, i + 1, t, j, h, hj => by
    rw [List.flatMap_cons, List.getElem?_append_right (by show 6 ≤ _; omega)]
    have := flat6_at r i t j (by simpa using h) hj
    rw [← this]
    congr 1
    show (i + 1) * 6 + j - 6 = _
    omega

theorem own_toks {w : World} {base : Nat} {v : Value} {L : List Tok} (h : w.ownsRow base 36 6 v L.length (L.flatMap cells6)) (h0 : 0 < L.length) :
    ∃ g cap, v = .slice (some ⟨g, 0, none⟩) L.length cap ∧ base ≤ g ∧ g < w.heap.size ∧ ∀ i t, L[i]? = some t → TokAt w g (i * 6) t := by
  rcases h.2 with ⟨_, h1⟩ | ⟨g, cap, cur, hv, hbase, hb, h1, h2, h3, h4⟩
  · omega
  refine ⟨g, cap, hv, hbase, (Array.getElem?_eq_some_iff.1 hb).1, fun i t hi => ?_⟩
  have hlt : i < L.length := (List.getElem?_eq_some_iff.1 hi).1
  have key : ∀ j u, j < 6 → (cells6 t)[j]? = some u → w.cell? ⟨g, i * 6 + j, none⟩ = some u := fun j u hj hu => by
    have e := flat6_at L i t j hi hj
    rw [← h4, List.getElem?_take_of_lt (by omega), Array.getElem?_toList, hu] at e
    simp only [World.cell?, hb]
    simp only [Option.isSome_none, Bool.false_eq_true, if_false]
    exact e
  exact ⟨key 0 _ (by omega) rfl, key 1 _ (by omega) rfl, key 2 _ (by omega) rfl, key 3 _ (by omega) rfl, key 4 _ (by omega) rfl, key 5 _ (by omega) rfl⟩

theorem begun_any (g n cap : Nat) (w : World) (hn : 0 < n) (h : TokAt w g 0 aTok) :
    Calls Tryd.prog 13 #[.slice (some ⟨g, 0, none⟩) n cap] w fun e w' => e = .returned (.bool true) ∧ w' = w := by
  obtain ⟨c0, c1, c2, c3, c4, c5⟩ := h
  have hn' : (0 : Int) < (n : Int) := by omega
  have hq := tok_self aTok
  unfold aTok at c0 c1 c2 c3 c4 c5 hq
  simp only at c0 c1 c2 c3 c4 c5 hq
  go_enter Tryd.func13, Tryd.ntmps13
  go_wp2
  go_ret
  exact ⟨rfl, rfl⟩

def endTok (n : Nat) : Tok := ⟨0, ⟨#[]⟩, 0, 0, n, n⟩

set_option maxHeartbeats 1000000 in
theorem ended_any (g cap m : Nat) (L : List Tok) (w : World) (hL : 0 < L.length) (hl2 : L.length ≤ 65537) (h : ∀ i t, L[i]? = some t → TokAt w g (i * 6) t) (h1 : ∀ i t, L[i]? = some t → i + 1 < L.length → t.k ≠ 0) (h2 : L[L.length - 1]? = some (endTok m)) :
    Calls Tryd.prog 14 #[.slice (some ⟨g, 0, none⟩) L.length cap, .agg #[.int .i64 0, .int .i64 0, .int .i64 0], .int .i64 m] w fun e w' => e = .returned (.bool true) ∧ Below w.heap.size w w' := by
  have hf := fault_self
  have hq := tok_self (endTok m)
  unfold endTok at hq
  simp only at hq
  have HT : Hid (∀ i t, L[i]? = some t → TokAt (w.alloc (.cells #[.int .i64 0, .int .i64 0, .int .i64 0] 31)) g (i * 6) t) := fun i t hi => (h i t hi).kept ((Below.refl _ _).alloc (Nat.le_refl _) _)
  have H1 := hide h1
  have H2 := hide h2
  clear h h1 h2
  obtain ⟨n, hn⟩ : ∃ n, n = L.length := ⟨_, rfl⟩
  rw [← hn] at hL hl2 H1 H2 ⊢
  replace hn := hide hn
  have e0 : ((n : Int) == 0) = false := by simp; omega
  go_enter Tryd.func14, Tryd.ntmps14
  go_wp2
  go_loop [7] (fun i => ∃ k : Nat, k + 1 ≤ n ∧ i = .int .i64 k) (fun i => n - (intOf i).toNat)
  case atStart => exact ⟨0, by omega, rfl⟩
  case round =>
    obtain ⟨k, hk, rfl⟩ := hrel
    by_cases hlt : k + 1 < n
    · have hi : (k : Int) + 1 < (n : Int) := by omega
      have hi2 : (k : Int) < (n : Int) := by omega
      obtain ⟨t, ht⟩ : ∃ t, L[k]? = some t := ⟨_, List.getElem?_eq_getElem (by have := hn.out; omega)⟩
      have hc0 := (HT.out k t ht).c0
      have ek : (t.k == 0) = false := by simpa using H1.out k t ht hlt
      clear ht
      go_wp2
      go_round
      case rel => exact ⟨k + 1, by omega, by go_num⟩
      case measure => simp [intOf]; omega
    · obtain rfl : n = k + 1 := by omega
      have hi : ¬ (k : Int) + 1 < ((k + 1 : Nat) : Int) := by omega
      have H2' := H2.out
      rw [show k + 1 - 1 = k by omega] at H2'
      obtain ⟨c0, c1, c2, c3, c4, c5⟩ := HT.out k _ H2'
      unfold endTok at c0 c1 c2 c3 c4 c5
      simp only at c0 c1 c2 c3 c4 c5
      clear H2'
      go_wp2
      go_ret
      exact ⟨rfl, (Below.refl _ _).alloc (Nat.le_refl _) _⟩

end Go.Proofs.YtgbnoggapejinaaDoor
