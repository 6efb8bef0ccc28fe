/- Where parse's grammar gives up, the fault has a code. Faults held against none; boxes that stay. Chains of tokens: what stands where, how it ends: no program in sight. A gap that goes over a whole text goes on behind a line feed: no program in sight. A token hangs on its own bytes and on the one behind them: no program in sight. Gaps and chains of tokens in a text that agrees with another one up to a place: no program in sight. A program of facts without variables, and a facts text: the same over the same tokens. Tokens of a text that stands behind another: the same tokens, each as much further on; and the grammar over them. A text, and the same text with a line feed and a dot behind it: its tokens, and the grammar over them. The tokens of a text with a line feed and a dot behind it. A query against a program of one clause with that body. One fact against a facts text of one. The tokens and the fault of a text that stands behind another one and a line feed: the same, each as much further on. The grammar over tokens that stand further on, its faults too; and what a rule leaves of the tokens behind it. -/
import Derived.Test.YtfbmddgjbmapiaaDoorParseLen
import Derived.Test.YtfbmddgjbmapiaaDoorParseGood
import Derived.Test.YtfbmddgjbmapiaaDoorProg
import Derived.Test.YtfbmddgjbmapiaaDoorParseLit
import Derived.Test.YtfbmddgjbmapiaaDoorLexRow
import Derived.Test.YtfbmddgjbmapiaaDoorParsePure

namespace Go.Proofs.YtfbmddgjbmapiaaDoor
set_option linter.unusedSimpArgs false
set_option linter.unusedVariables false
open Go.RowKit

/-- No token follows for a reason, or the end is still ahead. -/
def NE (c : Int) (R : List Tok) : Prop := c ≠ 0 ∨ ∃ t ∈ R, t.k = 0
def Bd {α : Type} (c : Int) : PR α → Prop
  | .bad ec _ => ec ≠ 0
  | .ok _ r => NE c r
theorem misK_ne (k : Int) : misK k ≠ 0 := by unfold misK; split <;> decide
theorem NE.next {c : Int} {t : Tok} {r : List Tok} (h : NE c (t :: r)) (ht : t.k ≠ 0) : NE c r := by
  rcases h with h | ⟨x, hx, h0⟩
  · exact .inl h
  · rcases List.mem_cons.1 hx with rfl | hx
    · exact absurd h0 ht
    · exact .inr ⟨x, hx, h0⟩
theorem NE.nil {c : Int} (h : NE c []) : c ≠ 0 := by
  rcases h with h | ⟨x, hx, _⟩
  · exact h
  · cases hx
theorem take_bd {c f : Int} {ks : List Int} {R : List Tok} (h : NE c R) (h0 : (0 : Int) ∉ ks) : Bd c (takeP c f ks R) := by
  match R, h with
  | [], h => exact h.nil
  | t :: r, h =>
    simp only [takeP]
    by_cases hm : t.k ∈ ks
    · rw [if_pos hm]; exact h.next (fun e => h0 (e ▸ hm))
    · rw [if_neg hm]; exact misK_ne _
theorem take_bd0 {c f ec eo : Int} {ks : List Int} {R : List Tok} (h : NE c R) (hT : takeP c f ks R = .bad ec eo) : ec ≠ 0 := by
  match R, h, hT with
  | [], h, hT => simp only [takeP] at hT; injection hT with e1 e2; subst e1; exact h.nil
  | t :: r, h, hT =>
    simp only [takeP] at hT
    by_cases hm : t.k ∈ ks
    · rw [if_pos hm] at hT; cases hT
    · rw [if_neg hm] at hT; injection hT with e1 e2; subst e1; exact misK_ne _
theorem bd_bad {α : Type} {c ec eo : Int} {x : PR α} (h : Bd c x) (e : x = .bad ec eo) : ec ≠ 0 := by subst e; exact h
theorem bd_ok {α : Type} {c : Int} {x : PR α} {a : α} {r : List Tok} (h : Bd c x) (e : x = .ok a r) : NE c r := by subst e; exact h
theorem args_bd {c f : Int} {ks : List Int} (h0 : (0 : Int) ∉ ks) : ∀ (n : Nat) (acc : List Trm) (R : List Tok), R.length = n → NE c R → Bd c (argsP c f ks acc R) := by
  intro n
  induction n using Nat.strongRecOn with
  | ind n ih =>
    intro acc R hn h
    have b1 := take_bd (f := f) h h0
    cases hT : takeP c f ks R with
    | bad ec eo => rw [args_bad1 hT]; exact bd_bad b1 hT
    | ok t r1 =>
      have l1 := take_len hT
      by_cases h8 : acc.length = 8
      · rw [args_lim hT h8]; show (22 : Int) ≠ 0; decide
      · rw [args_next hT h8]
        have b2 := take_bd (f := f) (ks := [7, 6]) (bd_ok b1 hT) (by decide)
        cases hU : takeP c f [7, 6] r1 with
        | bad ec eo => exact bd_bad b2 hU
        | ok s r2 =>
          have l2 := take_len hU
          simp only
          by_cases h7 : s.k = 7
          · rw [if_pos h7]; exact ih r2.length (by omega) _ r2 rfl (bd_ok b2 hU)
          · rw [if_neg h7]; exact bd_ok b2 hU
theorem atom_bd {c f : Int} {ks : List Int} (h0 : (0 : Int) ∉ ks) {name : Tok} {R : List Tok} (h : NE c R) : Bd c (atomP c f ks name R) := by
  match R, h with
  | [], h => exact h.nil
  | t :: r1, h =>
    unfold atomP
    simp only
    by_cases h5 : t.k = 5
    · rw [if_pos h5]
      have b := args_bd (f := f) h0 _ [] r1 rfl (h.next (by omega))
      cases hA : argsP c f ks [] r1 with
      | bad ec eo => exact bd_bad b hA
      | ok ts r2 => exact bd_ok b hA
    · rw [if_neg h5]; exact h
theorem lit_bd {c f : Int} {first : Tok} {R : List Tok} (h : NE c R) : Bd c (litP c f first R) := by
  have test : Bd c (match takeP c f [11] R with
      | .bad c o => PR.bad c o
      | .ok o1 r' => match takeP c f termKs r' with
        | .bad c o => .bad c o
        | .ok t2 r'' => .ok (⟨3, zeroAtom, o1.op, termP first, termP t2, first.off⟩ : PLit) r'') := by
    have b1 := take_bd (f := f) (ks := [11]) h (by decide)
    cases hT : takeP c f [11] R with
    | bad ec eo => exact bd_bad b1 hT
    | ok o1 r1 =>
      simp only
      have b2 := take_bd (f := f) (ks := termKs) (bd_ok b1 hT) (by decide)
      cases hU : takeP c f termKs r1 with
      | bad ec eo => exact bd_bad b2 hU
      | ok t2 r2 => exact bd_ok b2 hU
  unfold litP
  by_cases h10 : first.k = 10
  · rw [if_pos h10]
    have b1 := take_bd (f := f) (ks := [1]) h (by decide)
    cases hT : takeP c f [1] R with
    | bad ec eo => exact bd_bad b1 hT
    | ok n r1 =>
      simp only
      have b2 := atom_bd (f := f) (ks := termKs) (by decide) (name := n) (bd_ok b1 hT)
      cases hA : atomP c f termKs n r1 with
      | bad ec eo => exact bd_bad b2 hA
      | ok a r2 => exact bd_ok b2 hA
  · rw [if_neg h10]
    simp only
    by_cases h1 : first.k = 1
    · rw [if_pos h1]
      cases R with
      | nil => exact h.nil
      | cons t r1 =>
        simp only
        by_cases h11 : t.k = 11
        · rw [if_pos h11]; exact test
        · rw [if_neg h11]
          have b2 := atom_bd (f := f) (ks := termKs) (by decide) (name := first) h
          cases hA : atomP c f termKs first (t :: r1) with
          | bad ec eo => exact bd_bad b2 hA
          | ok a r2 => exact bd_ok b2 hA
    · rw [if_neg h1]; exact test
theorem body_bd {c f : Int} : ∀ (n : Nat) (acc : List PLit) (R : List Tok), R.length < n → NE c R → Bd c (bodyF c f n acc R) := by
  intro n
  induction n with
  | zero => intro acc R hn; omega
  | succ n ih =>
    intro acc R hn h
    have b1 := take_bd (f := f) (ks := [1, 10, 2, 3, 4]) h (by decide)
    cases hT : takeP c f [1, 10, 2, 3, 4] R with
    | bad ec eo => rw [body_bad1 hT]; exact bd_bad b1 hT
    | ok t r1 =>
      have l1 := take_len hT
      by_cases h16 : acc.length = 16
      · rw [body_lim hT h16]; show (23 : Int) ≠ 0; decide
      · have b2 := lit_bd (f := f) (first := t) (bd_ok b1 hT)
        cases hL : litP c f t r1 with
        | bad ec eo => rw [body_lit hT h16 hL]; exact bd_bad b2 hL
        | ok x r2 =>
          have l2 := lit_len hL
          have b3 := take_bd (f := f) (ks := [7, 8]) (bd_ok b2 hL) (by decide)
          cases hU : takeP c f [7, 8] r2 with
          | bad ec eo => rw [body_sep hT h16 hL hU]; exact bd_bad b3 hU
          | ok s r3 =>
            have l3 := take_len hU
            by_cases h8 : s.k = 8
            · rw [body_end hT h16 hL hU h8]; exact bd_ok b3 hU
            · rw [body_more hT h16 hL hU h8]; exact ih _ _ (by omega) (bd_ok b3 hU)
theorem clause_bd {c f : Int} {name : Tok} {R : List Tok} (h : NE c R) : Bd c (clauseP c f name R) := by
  unfold clauseP
  have b1 := atom_bd (f := f) (ks := termKs) (by decide) (name := name) h
  cases hA : atomP c f termKs name R with
  | bad ec eo => exact bd_bad b1 hA
  | ok a r1 =>
    simp only
    have b2 := take_bd (f := f) (ks := [8, 9]) (bd_ok b1 hA) (by decide)
    cases hT : takeP c f [8, 9] r1 with
    | bad ec eo => exact bd_bad b2 hT
    | ok s r2 =>
      simp only
      by_cases h9 : s.k = 9
      · rw [if_pos h9]
        have b3 := body_bd (f := f) (r2.length + 1) [] r2 (by omega) (bd_ok b2 hT)
        cases hB : bodyP c f r2 with
        | bad ec eo => exact bd_bad b3 hB
        | ok b r3 => exact bd_ok b3 hB
      · rw [if_neg h9]; exact bd_ok b2 hT
theorem prog_ne {c f ec eo : Int} : ∀ (n : Nat) (acc : List PCls) (R : List Tok), R.length < n → NE c R → progF c f n acc R = .bad ec eo → ec ≠ 0 := by
  intro n
  induction n with
  | zero => intro acc R hn; omega
  | succ n ih =>
    intro acc R hn h he
    cases hT : takeP c f [1, 0] R with
    | bad e1 e2 => rw [prog_bad1 hT] at he; injection he with q1 q2; subst q1; exact take_bd0 h hT
    | ok t r1 =>
      have l1 := take_len hT
      by_cases h0 : t.k = 0
      · rw [prog_end hT h0] at he; cases he
      · have n1 : NE c r1 := by rw [(take_eq hT).1] at h; exact h.next h0
        by_cases h5 : acc.length = 512
        · rw [prog_lim hT h0 h5] at he; injection he with q1 q2; subst q1; decide
        · have b := clause_bd (f := f) (name := t) n1
          cases hC : clauseP c f t r1 with
          | bad e1 e2 => rw [prog_cls hT h0 h5 hC] at he; injection he with q1 q2; subst q1; exact bd_bad b hC
          | ok x r2 =>
            have l2 := clause_len hC
            rw [prog_more hT h0 h5 hC] at he
            exact ih _ _ (by omega) (bd_ok b hC) he
theorem facts_ne {c f ec eo : Int} : ∀ (n : Nat) (acc : List PAtom) (R : List Tok), R.length < n → NE c R → factsF c f n acc R = .bad ec eo → ec ≠ 0 := by
  intro n
  induction n with
  | zero => intro acc R hn; omega
  | succ n ih =>
    intro acc R hn h he
    cases hT : takeP c f [1, 0] R with
    | bad e1 e2 => rw [facts_bad1 hT] at he; injection he with q1 q2; subst q1; exact take_bd0 h hT
    | ok t r1 =>
      have l1 := take_len hT
      by_cases h0 : t.k = 0
      · rw [facts_end hT h0] at he; cases he
      · have n1 : NE c r1 := by rw [(take_eq hT).1] at h; exact h.next h0
        by_cases h5 : acc.length = 4096
        · rw [facts_lim hT h0 h5] at he; injection he with q1 q2; subst q1; decide
        · have b := atom_bd (f := f) (ks := valueKs) (by decide) (name := t) n1
          cases hC : atomP c f valueKs t r1 with
          | bad e1 e2 => rw [facts_atom hT h0 h5 hC] at he; injection he with q1 q2; subst q1; exact bd_bad b hC
          | ok x r2 =>
            have l2 := atom_len hC
            have b2 := take_bd (f := f) (ks := [8]) (bd_ok b hC) (by decide)
            cases hD : takeP c f [8] r2 with
            | bad e1 e2 => rw [facts_dot hT h0 h5 hC hD] at he; injection he with q1 q2; subst q1; exact bd_bad b2 hD
            | ok s r3 =>
              have l3 := take_len hD
              rw [facts_more hT h0 h5 hC hD] at he
              exact ih _ _ (by omega) (bd_ok b2 hD) he
theorem toks_ne {s : ByteArray} {o : Nat} {L : List Tok} {c : Int} {f : Nat} (h : Toks s o L c f) : NE c L := by
  induction h with
  | bad ho hx => rcases next_bad hx with h | h <;> exact .inl (by omega)
  | last ho hx hk => exact .inr ⟨_, List.mem_singleton.2 rfl, hk⟩
  | more ho hx hk T ih =>
    rcases ih with h | ⟨x, hx, h0⟩
    · exact .inl h
    · exact .inr ⟨x, List.mem_cons_of_mem _ hx, h0⟩
theorem scan_ne (s : ByteArray) : NE (scanX s).2.1 (scanX s).1 := by
  by_cases hs : s.size ≤ 65536
  · exact toks_ne (scan_toks s hs)
  · have e : scanX s = ([], 1, 0) := if_pos (by omega)
    rw [e]; exact .inl (by decide)
end Go.Proofs.YtfbmddgjbmapiaaDoor

namespace Go.Proofs.YtfbmddgjbmapiaaDoor
set_option linter.unusedSimpArgs false
set_option linter.unusedVariables false
open Go.RowKit

theorem fq_zero (w : World) : (binOp .eql 27 (.agg #[.int .i64 0, .int .i64 0, .int .i64 0]) (.agg #[.int .i64 0, .int .i64 0, .int .i64 0])).run Tryd.prog w = .ok (.bool true) w := by
  have h1 := run_equalIn_struct (P := Tryd.prog) w 9999 27 #[.int .i64 0, .int .i64 0, .int .i64 0] #[.int .i64 0, .int .i64 0, .int .i64 0] (by kernel_rfl) (by kernel_rfl)
  simp only [binOp]
  simp only [Op.equal, Op.maxDepth, Sem.run_bind]
  go_simp
theorem fq_bad (c o : Int) (h : c ≠ 0) (w : World) : (binOp .eql 27 (.agg #[.int .i64 c, .int .i64 0, .int .i64 o]) (.agg #[.int .i64 0, .int .i64 0, .int .i64 0])).run Tryd.prog w = .ok (.bool false) w := by
  have hc : (c == 0) = false := by simpa using h
  have h1 := run_equalIn_struct (P := Tryd.prog) w 9999 27 #[.int .i64 c, .int .i64 0, .int .i64 o] #[.int .i64 0, .int .i64 0, .int .i64 0] (by kernel_rfl) (by kernel_rfl)
  simp only [binOp]
  simp only [Op.equal, Op.maxDepth, Sem.run_bind]
  go_simp
theorem nx_first (w : World) (x y : Obj) : ((w.alloc x).alloc y).heap[w.heap.size]? = some x := by
  rw [(belowA (w.alloc x) y).block _ (by simp)]; exact heap_alloc_new w _
theorem nx_second (w : World) (x y : Obj) : ((w.alloc x).alloc y).heap[w.heap.size + 1]? = some y := by
  have := heap_alloc_new (w.alloc x) y
  simpa using this
theorem bx_kept {W W' : World} {b : Nat} {x : Obj} (h : W.heap[b]? = some x) (hb : Below W.heap.size W W') : W'.heap[b]? = some x := by
  rw [hb.block _ (Array.getElem?_eq_some_iff.1 h).1]; exact h
theorem fq_cells {V : World} {b : Nat} {u0 u1 u2 : Value} (h : V.heap[b]? = some (.cells #[u0, u1, u2] 27 (0, 0))) : V.cell? ⟨b, 0, none⟩ = some u0 ∧ V.cell? ⟨b, 1, none⟩ = some u1 ∧ V.cell? ⟨b, 2, none⟩ = some u2 := by
  refine ⟨?_, ?_, ?_⟩ <;> simp [World.cell?, h]
theorem query_ne {s : ByteArray} {x o : Int} (h : queryP (scanX s).2.1 ((scanX s).2.2 : Int) (scanX s).1 = .bad x o) : x ≠ 0 := by
  unfold queryP bodyP at h
  have hb := body_bd (c := (scanX s).2.1) (f := ((scanX s).2.2 : Int)) ((scanX s).1.length + 1) [] (scanX s).1 (by omega) (scan_ne s)
  cases hB : bodyF (scanX s).2.1 ((scanX s).2.2 : Int) ((scanX s).1.length + 1) [] (scanX s).1 with
  | bad a b => rw [hB] at h; cases h; exact bd_bad hb hB
  | ok b r =>
    rw [hB] at h
    simp only at h
    cases hT : takeP (scanX s).2.1 ((scanX s).2.2 : Int) [0] r with
    | bad a c => rw [hT] at h; cases h; exact take_bd0 (bd_ok hb hB) hT
    | ok t q => rw [hT] at h; cases h
theorem fact_ne {s : ByteArray} {x o : Int} (h : factP (scanX s).2.1 ((scanX s).2.2 : Int) (scanX s).1 = .bad x o) : x ≠ 0 := by
  unfold factP at h
  have hb := take_bd (c := (scanX s).2.1) (f := ((scanX s).2.2 : Int)) (ks := [1]) (scan_ne s) (by decide)
  cases hA : takeP (scanX s).2.1 ((scanX s).2.2 : Int) [1] (scanX s).1 with
  | bad a b => rw [hA] at h; cases h; exact bd_bad hb hA
  | ok t r =>
    rw [hA] at h
    simp only at h
    have hc := atom_bd (c := (scanX s).2.1) (f := ((scanX s).2.2 : Int)) (ks := valueKs) (by decide) (name := t) (bd_ok hb hA)
    cases hB : atomP (scanX s).2.1 ((scanX s).2.2 : Int) valueKs t r with
    | bad a b => rw [hB] at h; cases h; exact bd_bad hc hB
    | ok a r1 =>
      rw [hB] at h
      simp only at h
      cases hT : takeP (scanX s).2.1 ((scanX s).2.2 : Int) [0] r1 with
      | bad a c => rw [hT] at h; cases h; exact take_bd0 (bd_ok hc hB) hT
      | ok t q => rw [hT] at h; cases h
end Go.Proofs.YtfbmddgjbmapiaaDoor

namespace Go.Proofs.YtfbmddgjbmapiaaDoor
set_option linter.unusedSimpArgs false
set_option linter.unusedVariables false
open Go.RowKit

theorem endOf_snoc (t : Tok) : ∀ (l : List Tok) (o : Nat), endOf o (l ++ [t]) = t.en
  | [], _ => rfl
  | x :: r, _ => endOf_snoc t r x.en

theorem toks_at {s : ByteArray} {o : Nat} {L : List Tok} {c : Int} {f : Nat} (h : Toks s o L c f) : ∀ i t, L[i]? = some t → nextX s (endOf o (L.take i)) = .tok t ∧ endOf o (L.take i) ≤ s.size := by
  induction h with
  | bad _ _ => intro i t h; simp at h
  | last h1 h2 h3 =>
    intro i t h
    rcases i with _ | i
    · obtain rfl := Option.some.inj h; exact ⟨h2, h1⟩
    · simp at h
  | more h1 h2 h3 h4 ih =>
    intro i t h
    rcases i with _ | i
    · obtain rfl := Option.some.inj h; exact ⟨h2, h1⟩
    · exact ih i t h

theorem next_end {s : ByteArray} {o : Nat} {t : Tok} (ho : o ≤ s.size) (h : nextX s o = .tok t) (hk : t.k = 0) : t = endTok s.size := by
  have hg := gapW_le s o ho
  unfold nextX at h
  split at h
  · obtain ⟨_, h2⟩ := tokAt_en hg.2 h
    rcases h2 with ⟨_, h3, _⟩ | ⟨h3, _⟩
    · rw [h3] at h
      unfold tokAt at h
      rw [dif_neg (by omega)] at h
      injection h with h
      exact h.symm
    · omega
  · cases h

theorem toks_zero {s : ByteArray} {o : Nat} {L : List Tok} {c : Int} {f : Nat} (h : Toks s o L c f) (hc : c = 0) : f = 0 ∧ 0 < L.length ∧ L[L.length - 1]? = some (endTok s.size) ∧ ∀ i t, L[i]? = some t → i + 1 < L.length → t.k ≠ 0 := by
  induction h with
  | bad h1 h2 => have := next_bad h2; omega
  | last h1 h2 h3 =>
    refine ⟨rfl, by simp, by rw [← next_end h1 h2 h3]; rfl, ?_⟩
    intro i t h hi
    simp at hi
  | more h1 h2 h3 h4 ih =>
    obtain ⟨a, b, d, e⟩ := ih hc
    refine ⟨a, by simp, ?_, ?_⟩
    · rw [← d, List.length_cons, show ∀ n, 0 < n → n + 1 - 1 = (n - 1) + 1 from fun n hn => by omega]
      · rfl
      · exact b
    · intro i t h hi
      rcases i with _ | i
      · obtain rfl := Option.some.inj h; exact h3
      · exact e i t h (by simpa using hi)

theorem toks_bad {s : ByteArray} {o : Nat} {L : List Tok} {c : Int} {f : Nat} (h : Toks s o L c f) (hc : c ≠ 0) : nextX s (endOf o L) = .bad c f ∧ endOf o L ≤ s.size ∧ ∀ t ∈ L, t.k ≠ 0 := by
  induction h with
  | bad h1 h2 => exact ⟨h2, h1, by simp⟩
  | last h1 h2 h3 => exact absurd rfl hc
  | more h1 h2 h3 h4 ih =>
    obtain ⟨a, b, d⟩ := ih hc
    refine ⟨a, b, ?_⟩
    intro t ht
    rcases List.mem_cons.1 ht with rfl | ht
    · exact h3
    · exact d t ht

theorem toks_len {s : ByteArray} {o : Nat} {L : List Tok} {c : Int} {f : Nat} (h : Toks s o L c f) : L.length + o ≤ s.size + 1 := by
  induction h with
  | bad h1 h2 => simp; omega
  | last h1 h2 h3 => simp; omega
  | more h1 h2 h3 h4 ih =>
    obtain ⟨-, -, a, b⟩ := next_tok h1 h2
    obtain ⟨_, b1, b2⟩ := b.resolve_left (fun h => h3 h.1)
    simp
    omega

end Go.Proofs.YtfbmddgjbmapiaaDoor

namespace Go.Proofs.YtfbmddgjbmapiaaDoor
set_option linter.unusedSimpArgs false
set_option linter.unusedVariables false
open Go.RowKit

theorem lineC_append (r : List UInt8) : ∀ l : List UInt8, lineC (l ++ 10 :: r) = lineC l
  | [] => rfl
  | b :: l => by
    rw [List.cons_append]
    unfold lineC
    rw [lineC_append r l]

theorem opens_append {l r : List UInt8} (h : 2 ≤ l.length) : opens (l ++ r) = opens l := by
  match l, h with
  | a :: b :: l, _ => rfl
theorem closes_append {l r : List UInt8} (h : 2 ≤ l.length) : closes (l ++ r) = closes l := by
  match l, h with
  | a :: b :: l, _ => rfl

theorem blockC_append (r : List UInt8) : ∀ (n : Nat) (l : List UInt8) (d j : Nat), l.length = n → blockC d l = some j → blockC d (l ++ r) = some j := by
  intro n
  induction n using Nat.strongRecOn with
  | ind n ih =>
    intro l d j hl h
    have hj := blockC_le _ _ _ h
    have hdrop : ∀ k, k ≤ l.length → (l ++ r).drop k = l.drop k ++ r := fun k hk => List.drop_append_of_le_length hk
    cases ho : opens l with
    | true =>
      rw [blockC_open ho] at h
      obtain ⟨x, hx, rfl⟩ := Option.map_eq_some_iff.1 h
      rw [blockC_open (by rw [opens_append (by omega)]; exact ho), hdrop 2 (by omega), ih (l.drop 2).length (by simp; omega) (l.drop 2) (d + 1) x rfl hx]
      rfl
    | false =>
      cases hc : closes l with
      | true =>
        rw [blockC_close hc] at h
        rw [blockC_close (by rw [closes_append (by omega)]; exact hc)]
        split
        · next h1 => rw [if_pos h1] at h; exact h
        · next h1 =>
          rw [if_neg h1] at h
          obtain ⟨x, hx, rfl⟩ := Option.map_eq_some_iff.1 h
          rw [hdrop 2 (by omega), ih (l.drop 2).length (by simp; omega) (l.drop 2) (d - 1) x rfl hx]
          rfl
      | false =>
        rw [blockC_else ho hc] at h
        obtain ⟨x, hx, rfl⟩ := Option.map_eq_some_iff.1 h
        rw [blockC_else (by rw [opens_append (by omega)]; exact ho) (by rw [closes_append (by omega)]; exact hc), hdrop 1 (by omega), ih (l.drop 1).length (by simp; omega) (l.drop 1) d x rfl hx]
        rfl

theorem item_append {l r : List UInt8} {k : Nat} (h : item l = .go k) : item (l ++ 10 :: r) = .go k := by
  match l, h with
  | [], h => cases h
  | a :: l, h =>
    rw [List.cons_append, item_cons]
    rw [item_cons] at h
    split
    · next hb => rw [if_pos hb] at h; exact h
    · next hb =>
      rw [if_neg hb] at h
      split
      · next h37 =>
        rw [if_pos h37] at h
        rw [lineC_append]; exact h
      · next h37 =>
        rw [if_neg h37] at h
        split at h
        · next ho =>
          have h2 := opens_len ho
          have ho' : opens (a :: (l ++ 10 :: r)) = true := by
            have := opens_append (r := 10 :: r) h2
            rw [List.cons_append] at this
            rw [this]; exact ho
          rw [if_pos ho']
          cases hbc : blockC 1 (l.drop 1) with
          | none => rw [hbc] at h; cases h
          | some x =>
            rw [hbc] at h
            simp at h2
            rw [List.drop_append_of_le_length (by omega), blockC_append _ _ (l.drop 1) 1 x rfl hbc]
            exact h
        · cases h

theorem gap_append (r : List UInt8) : ∀ (N : Nat) (l : List UInt8), l.length = N → gapN l = (l.length, true) → gapN (l ++ 10 :: r) = (l.length + (gapN (10 :: r)).1, (gapN (10 :: r)).2) := by
  intro N
  induction N using Nat.strongRecOn with
  | ind N ih =>
    intro l hl h
    cases hi : item l with
    | stop =>
      rw [gapN_stop hi] at h
      have h0 : l.length = 0 := (congrArg Prod.fst h).symm
      obtain rfl := List.length_eq_zero_iff.1 h0
      exact Prod.ext (by simp) rfl
    | bad => rw [gapN_bad hi] at h; have := congrArg Prod.snd h; cases this
    | go k =>
      by_cases hk : 0 < k ∧ k ≤ l.length
      · rw [gapN_go hi hk.1 hk.2] at h
        have h1 : (gapN (l.drop k)).1 + k = l.length := congrArg Prod.fst h
        have h2 : (gapN (l.drop k)).2 = true := congrArg Prod.snd h
        have hd := ih (l.drop k).length (by simp; omega) (l.drop k) rfl (Prod.ext (by simp; omega) h2)
        rw [gapN_go (item_append hi) hk.1 (by simp; omega), List.drop_append_of_le_length hk.2, hd]
        exact Prod.ext (by simp; omega) rfl
      · rw [gapN, hi] at h
        simp only at h
        rw [dif_neg hk] at h
        have h0 : l.length = 0 := (congrArg Prod.fst h).symm
        obtain rfl := List.length_eq_zero_iff.1 h0
        exact Prod.ext (by simp) rfl

theorem gap_feed (l : List UInt8) : gapN (10 :: l) = ((gapN l).1 + 1, (gapN l).2) := gapN_go (l := 10 :: l) (k := 1) (by rfl) (by omega) (by simp)

/-- src, a line feed, the name a, a line feed, src. -/
def twice (s : ByteArray) : ByteArray := s ++ ⟨#[10, 97, 10]⟩ ++ s

theorem twice_rest (s : ByteArray) : rest (twice s) 0 = s.data.toList ++ 10 :: 97 :: 10 :: s.data.toList := by
  unfold rest twice
  rw [List.drop_zero, ByteArray.data_append, ByteArray.data_append]
  simp
theorem twice_size (s : ByteArray) : (twice s).size = 2 * s.size + 3 := by
  unfold twice
  rw [ByteArray.size_append, ByteArray.size_append]
  have : (⟨#[10, 97, 10]⟩ : ByteArray).size = 3 := rfl
  omega

theorem twice_from (s : ByteArray) (k : Nat) : rest (twice s) k = (s.data.toList ++ 10 :: 97 :: 10 :: s.data.toList).drop k := by
  rw [← twice_rest]
  unfold rest
  rw [List.drop_zero]

theorem twice_scan (s : ByteArray) (h : gapN s.data.toList = (s.size, true)) (hs : 2 * s.size + 3 ≤ 65536) :
    scanX (twice s) = ([⟨1, ⟨#[97]⟩, 0, 0, s.size + 1, s.size + 2⟩, endTok (2 * s.size + 3)], 0, 0) := by
  have hsz := twice_size s
  have hlen : s.data.toList.length = s.size := by simp
  have hg0 : gapW (twice s) 0 = (s.size + 1, true) := by
    unfold gapW
    rw [twice_rest, gap_append _ _ _ rfl (by rw [hlen]; exact h), gap_feed, hlen, gapN_stop (by rfl)]
    exact Prod.ext (by simp) rfl
  have r1 : rest (twice s) (s.size + 1) = 97 :: 10 :: s.data.toList := by
    rw [twice_from, List.drop_append, List.drop_of_length_le (by simp), hlen]
    simp
  have r2 : rest (twice s) (s.size + 2) = 10 :: s.data.toList := by
    rw [twice_from, List.drop_append, List.drop_of_length_le (by simp), hlen]
    simp
  have hlt : s.size + 1 < (twice s).size := by omega
  have b0 : (twice s)[s.size + 1] = 97 := by
    have := rest_cons (twice s) (s.size + 1) hlt
    rw [r1] at this
    injection this with this
    exact this.symm
  have hb : ((twice s)[s.size + 1].toNat : Int) = 97 := by rw [b0]; rfl
  have hrun : runC (rest (twice s) (s.size + 1)) = 1 := by
    rw [r1]
    unfold runC
    rw [if_pos (by rfl)]
    unfold runC
    rw [if_neg (by decide)]
  have hex : (twice s).extract (s.size + 1) (s.size + 1 + 1) = ⟨#[97]⟩ := by
    apply ByteArray.ext
    apply Array.ext'
    rw [ByteArray.data_extract, Array.toList_extract, List.extract_eq_take_drop]
    have : (twice s).data.toList.drop (s.size + 1) = 97 :: 10 :: s.data.toList := r1
    rw [this, show s.size + 1 + 1 - (s.size + 1) = 1 by omega]; rfl
  have n1 : nextX (twice s) 0 = .tok ⟨1, ⟨#[97]⟩, 0, 0, s.size + 1, s.size + 2⟩ := by
    unfold nextX
    rw [hg0]
    simp only [if_true]
    unfold tokAt
    rw [dif_pos hlt, if_pos (by rw [hb]; rfl)]
    unfold wordX
    simp only [hrun]
    rw [if_neg (by omega)]
    simp only [hex]
    rw [if_neg (by rw [ByteArray.toList_eq]; decide), if_pos (by rfl)]
  have hg1 : gapW (twice s) (s.size + 2) = (2 * s.size + 3, true) := by
    unfold gapW
    rw [r2, gap_feed, h]
    exact Prod.ext (by simp; omega) rfl
  have n2 : nextX (twice s) (s.size + 2) = .tok (endTok (2 * s.size + 3)) := by
    unfold nextX
    rw [hg1]
    simp only [if_true]
    unfold tokAt
    rw [dif_neg (by omega)]
    rfl
  unfold scanX eachX
  rw [if_neg (by omega), eachF_go n1 (by simp) (by simp) (by simp only; omega), eachF_stop n2 (.inr rfl)]
  rfl

/-- Nothing but a gap: the end is all that Scan lists. -/
theorem idle_iff (s : ByteArray) : ((scanX s).2.1 = 0 ∧ (scanX s).1.length = 1) ↔ blankW s 0 (s.size : Int) = true := by
  by_cases hs : 65536 < s.size
  · have e1 : scanX s = ([], 1, 0) := if_pos hs
    have e2 : blankW s 0 (s.size : Int) = false := if_neg (by omega)
    rw [e1, e2]
    simp
  · have e2 : blankW s 0 (s.size : Int) = ((gapN (pieceL s 0 s.size)).2 && decide (0 + (gapN (pieceL s 0 s.size)).1 = s.size)) := if_pos ⟨by omega, by omega, by omega, by omega⟩
    have hp : pieceL s 0 s.size = rest s 0 := by
      unfold pieceL rest
      rw [List.take_of_length_le (by simp)]
    rw [e2, hp]
    have T := scan_toks s (by omega)
    constructor
    · rintro ⟨h1, h2⟩
      match hL : (scanX s).1, h2 with
      | [t], _ =>
        rw [hL] at T
        obtain ⟨n1, h3⟩ := T.step
        rcases h3 with ⟨h4, _⟩ | ⟨h4, T2⟩
        · obtain ⟨a1, a2, _, a3⟩ := next_tok (Nat.zero_le _) n1
          have a4 : t.off = s.size := by rcases a3 with ⟨_, b, _⟩ | ⟨b, _⟩ <;> omega
          have a5 : (gapN (rest s 0)).2 = true := a1
          have a6 : (gapW s 0).1 = 0 + (gapN (rest s 0)).1 := rfl
          rw [a5]
          simp only [Bool.true_and, decide_eq_true_eq]
          omega
        · have := T2.stop
          have := next_bad this
          omega
    · intro h
      simp only [Bool.and_eq_true, decide_eq_true_eq] at h
      have hg : gapW s 0 = (s.size, true) := Prod.ext (by show 0 + _ = _; omega) h.1
      have n1 : nextX s 0 = .tok (endTok s.size) := by
        unfold nextX
        rw [hg]
        simp only [if_true]
        unfold tokAt
        rw [dif_neg (by omega)]
        rfl
      have : scanX s = ([endTok s.size], 0, 0) := by
        unfold scanX eachX
        rw [if_neg hs, eachF_stop n1 (.inr rfl)]
        rfl
      rw [this]
      exact ⟨rfl, rfl⟩

theorem blank_gapN (s : ByteArray) (h : blankW s 0 (s.size : Int) = true) : gapN s.data.toList = (s.size, true) := by
  unfold blankW at h
  split at h
  · have hp : pieceL s (0 : Int).toNat (s.size : Int).toNat = s.data.toList := by
      unfold pieceL
      simp
      exact List.take_of_length_le (by simp)
    rw [hp] at h
    simp only [Bool.and_eq_true, decide_eq_true_eq] at h
    exact Prod.ext (by have := h.2; simp at this; exact this) h.1
  · cases h

end Go.Proofs.YtfbmddgjbmapiaaDoor

namespace Go.Proofs.YtfbmddgjbmapiaaDoor
set_option linter.unusedSimpArgs false
set_option linter.unusedVariables false
open Go.RowKit

/-- Two lists have the same first n bytes. -/
def Agree (l l' : List UInt8) (n : Nat) : Prop := ∀ i, i < n → l'[i]? = l[i]?
/-- What stands behind the first n bytes of l' stands there in l too, or is a blank. -/
def Safe (l l' : List UInt8) (n : Nat) : Prop := ∀ b, l'[n]? = some b → l[n]? = some b ∨ b = 10 ∨ b = 32

theorem Agree.mono {l l' : List UInt8} {n m : Nat} (h : Agree l l' n) (hm : m ≤ n) : Agree l l' m := fun i hi => h i (by omega)
theorem Agree.drop {l l' : List UInt8} {n : Nat} (h : Agree l l' n) (k : Nat) : Agree (l.drop k) (l'.drop k) (n - k) := fun i hi => by
  rw [List.getElem?_drop, List.getElem?_drop]; exact h _ (by omega)
theorem Agree.take {l l' : List UInt8} {n : Nat} (h : Agree l l' n) : l'.take n = l.take n := by
  apply List.ext_getElem?
  intro i
  rw [List.getElem?_take, List.getElem?_take]
  split
  · exact h i (by assumption)
  · rfl
theorem Agree.len {l l' : List UInt8} {n : Nat} (h : Agree l l' n) (hn : n ≤ l.length) : n ≤ l'.length := by
  rcases n with _ | n
  · omega
  · have e := h n (by omega)
    rw [List.getElem?_eq_getElem (l := l) (by omega)] at e
    have := (List.getElem?_eq_some_iff.1 e).1
    omega
theorem Safe.drop {l l' : List UInt8} {n : Nat} (h : Safe l l' n) {k : Nat} (hk : k ≤ n) : Safe (l.drop k) (l'.drop k) (n - k) := fun b hb => by
  rw [List.getElem?_drop] at hb ⊢
  rw [show k + (n - k) = n by omega] at hb ⊢
  exact h b hb

theorem runC_iff : ∀ (l : List UInt8) (m : Nat), runC l = m ↔ m ≤ l.length ∧ (∀ i b, i < m → l[i]? = some b → bWord b.toNat = true) ∧ (∀ b, l[m]? = some b → bWord b.toNat = false)
  | [], m => by
    constructor
    · intro h
      have h0 : m = 0 := h.symm
      subst h0
      exact ⟨by simp, fun i b h => by omega, fun b h => by simp at h⟩
    · intro h
      have := h.1
      simp at this
      exact this.symm
  | a :: r, 0 => by
    unfold runC
    constructor
    · intro h
      split at h
      · omega
      · next hw => exact ⟨by simp, fun i b h => by omega, fun b hb => by simp at hb; subst hb; simpa using hw⟩
    · intro h
      have := h.2.2 a (by simp)
      rw [if_neg (by rw [this]; simp)]
  | a :: r, m + 1 => by
    have ih := runC_iff r m
    unfold runC
    constructor
    · intro h
      split at h
      · next hw =>
        obtain ⟨h1, h2, h3⟩ := ih.1 (by omega)
        refine ⟨by simp; omega, ?_, ?_⟩
        · intro i b hi hb
          rcases i with _ | i
          · simp at hb; subst hb; exact hw
          · exact h2 i b (by omega) (by simpa using hb)
        · intro b hb
          exact h3 b (by simpa using hb)
      · omega
    · rintro ⟨h1, h2, h3⟩
      rw [if_pos (h2 0 a (by omega) (by simp))]
      have := ih.2 ⟨by simp at h1; omega, fun i b hi hb => h2 (i + 1) b (by omega) (by simpa using hb), fun b hb => h3 b (by simpa using hb)⟩
      omega

theorem runC_pre {l l' : List UInt8} (ha : Agree l l' (runC l)) (hs : Safe l l' (runC l)) : runC l' = runC l := by
  obtain ⟨h1, h2, h3⟩ := (runC_iff l _).1 rfl
  refine (runC_iff l' _).2 ⟨ha.len h1, fun i b hi hb => h2 i b hi (by rw [← ha i hi]; exact hb), fun b hb => ?_⟩
  rcases hs b hb with h | h | h
  · exact h3 b h
  · subst h; rfl
  · subst h; rfl

theorem extract_list (s : ByteArray) (a n : Nat) : (s.extract a (a + n)).data.toList = (rest s a).take n := by
  rw [ByteArray.data_extract, Array.toList_extract, List.extract_eq_take_drop]
  unfold rest
  rw [show a + n - a = n by omega]

theorem extract_pre {s s' : ByteArray} {g g' n : Nat} (ha : Agree (rest s g) (rest s' g') n) : s'.extract g' (g' + n) = s.extract g (g + n) := by
  apply ByteArray.ext
  apply Array.ext'
  rw [extract_list, extract_list, ha.take]

theorem first_byte (s : ByteArray) (g : Nat) (h : g < s.size) : (rest s g)[0]? = some s[g] := by rw [rest_cons s g h]; rfl
theorem nth_byte (s : ByteArray) (g j : Nat) (h : g + j < s.size) : (rest s g)[j]? = some s[g + j] := by
  have := first_byte s (g + j) h
  rw [← rest_drop, List.getElem?_drop] at this
  exact this
theorem lt_of_byte {s : ByteArray} {g j : Nat} {b : UInt8} (h : (rest s g)[j]? = some b) : g + j < s.size := by
  have := (List.getElem?_eq_some_iff.1 h).1
  rw [rest_len] at this
  omega
theorem byte_pre {s s' : ByteArray} {g g' n j : Nat} (ha : Agree (rest s g) (rest s' g') n) (hj : j < n) (h : g + j < s.size) : ∃ h' : g' + j < s'.size, s'[g' + j] = s[g + j] := by
  have e := ha j hj
  rw [nth_byte s g j h] at e
  have h' := lt_of_byte e
  rw [nth_byte s' g' j h'] at e
  exact ⟨h', Option.some.inj e⟩

theorem wordX_len {s : ByteArray} {o : Nat} {t : Tok} (h : wordX s o = .tok t) : t.en = o + runC (rest s o) := by
  unfold wordX at h
  simp only at h
  repeat' split at h
  all_goals first | (injection h with h; subst h; rfl) | cases h

theorem wordX_pre {s s' : ByteArray} {g g' : Nat} {t : Tok} (h : wordX s g = .tok t) (ha : Agree (rest s g) (rest s' g') (t.en - g)) (hs : Safe (rest s g) (rest s' g') (t.en - g)) :
    wordX s' g' = .tok ⟨t.k, t.t, t.n, t.op, g', g' + (t.en - g)⟩ := by
  have he := wordX_len h
  rw [show t.en - g = runC (rest s g) by omega] at ha hs ⊢
  have hr := runC_pre ha hs
  have hx := extract_pre ha
  unfold wordX at h ⊢
  simp only at h ⊢
  rw [hr, hx]
  generalize runC (rest s g) = m at *
  split
  · next h64 => rw [if_pos h64] at h; cases h
  · next h64 =>
    rw [if_neg h64] at h
    split
    · next hn => rw [if_pos hn] at h; injection h with h; subst h; rfl
    · next hn =>
      rw [if_neg hn] at h
      split
      · next hl => rw [if_pos hl] at h; injection h with h; subst h; rfl
      · next hl => rw [if_neg hl] at h; injection h with h; subst h; rfl

theorem intX_len {s : ByteArray} {o : Nat} {t : Tok} (h : intX s o = .tok t) : t.en = o + (1 + runC (rest s (o + 1))) := by
  unfold intX at h
  split at h
  · injection h with h; subst h; show o + 1 + _ = _; omega
  · cases h

theorem intX_pre {s s' : ByteArray} {g g' : Nat} {t : Tok} (h : intX s g = .tok t) (ha : Agree (rest s g) (rest s' g') (t.en - g)) (hs : Safe (rest s g) (rest s' g') (t.en - g)) :
    intX s' g' = .tok ⟨t.k, t.t, t.n, t.op, g', g' + (t.en - g)⟩ := by
  have he := intX_len h
  have e1 : t.en - g = 1 + runC (rest s (g + 1)) := by omega
  rw [e1] at ha hs ⊢
  have hr : runC (rest s' (g' + 1)) = runC (rest s (g + 1)) := by
    rw [← rest_drop, ← rest_drop]
    rw [← rest_drop] at ha hs
    have h1 := ha.drop 1
    have h2 := hs.drop (k := 1) (by omega)
    rw [show 1 + runC ((rest s g).drop 1) - 1 = runC ((rest s g).drop 1) by omega] at h1 h2
    exact runC_pre h1 h2
  have hx := extract_pre ha
  unfold intX at h ⊢
  rw [hr, show g' + 1 + runC (rest s (g + 1)) = g' + (1 + runC (rest s (g + 1))) by omega, hx]
  rw [show g + 1 + runC (rest s (g + 1)) = g + (1 + runC (rest s (g + 1))) by omega] at h
  split
  · next v hv => rw [hv] at h; injection h with h; subst h; rfl
  · next hv =>
    split at h
    · next v hv' => exact absurd hv' (hv v)
    · cases h

def begL (l : List UInt8) : Bool := bDig (((l[0]?).getD 0).toNat : Int) || ((((l[0]?).getD 0).toNat : Int) == 45 && (decide (1 < l.length) && bDig (((l[1]?).getD 0).toNat : Int)))
theorem begB_list (r : ByteArray) : begB r = begL r.data.toList := by
  have h : ∀ i : Nat, r.data[i]! = (r.data.toList[i]?).getD 0 := fun i => by
    rw [Array.getElem?_toList, getElem!_def]
    cases r.data[i]? <;> rfl
  unfold begB begL
  rw [h 0, h 1]
  simp
theorem beg_rest (s : ByteArray) (g : Nat) : begB (s.extract g s.size) = begL (rest s g) := by rw [begB_list, extract_rest]

theorem escX_two (r : ByteArray) (h : (escX r).2 ≠ 0) : 2 ≤ (escX r).2 := by
  have hx := hexX_bounds r
  revert h
  unfold escX
  split
  · unfold escOf
    repeat' split
    all_goals first | (intro; decide) | (intro h; rcases hx.1 with h1 | h1 <;> omega) | (intro h; exact absurd rfl h)
  · intro h; exact absurd rfl h

theorem at_two {r r' : ByteArray} {i : Nat} (h : i < r.size) (e : r'.data.toList[i]? = r.data.toList[i]?) : ∃ h' : i < r'.size, r'[i] = r[i] := by
  rw [List.getElem?_eq_getElem (l := r.data.toList) (by simpa using h)] at e
  have h1 := (List.getElem?_eq_some_iff.1 e)
  obtain ⟨h2, h3⟩ := h1
  exact ⟨by simpa using h2, h3⟩

theorem escX_pre {r r' : ByteArray} (h : (escX r).2 ≠ 0) (ha : Agree r.data.toList r'.data.toList (escX r).2.toNat) : escX r' = escX r := by
  have h2 := escX_two r h
  have h1 : 1 < r.size := by
    unfold escX at h
    split at h
    · assumption
    · exact absurd rfl h
  obtain ⟨h1', e1⟩ := at_two h1 (ha 1 (by omega))
  have e : escX r = escOf r (r[1].toNat : Int) := dif_pos h1
  have e' : escX r' = escOf r' (r[1].toNat : Int) := by rw [← e1]; exact dif_pos h1'
  rw [e] at h ha ⊢
  rw [e']
  unfold escOf at h ha ⊢
  split; · rfl
  split; · rfl
  split; · rfl
  split; · rfl
  split; · rfl
  split
  · next a1 a2 a3 a4 a5 a6 =>
    rw [if_neg a1, if_neg a2, if_neg a3, if_neg a4, if_neg a5, if_pos a6] at h ha
    have h4 : (hexX r).2 = 4 ∧ 4 ≤ r.size := by
      rcases (hexX_bounds r).1 with hh | hh
      · exact absurd hh h
      · exact ⟨hh.1, hh.2⟩
    rw [h4.1] at ha
    have hl := ha.len (n := 4) (by simp; omega)
    have hl' : 4 ≤ r'.size := by simpa using hl
    have hx : r'.extract 2 4 = r.extract 2 4 := by
      apply ByteArray.ext
      apply Array.ext'
      rw [ByteArray.data_extract, ByteArray.data_extract, Array.toList_extract, Array.toList_extract, List.extract_eq_take_drop, List.extract_eq_take_drop]
      have := (ha.drop 2).take
      exact this
    unfold hexX
    rw [if_neg (by omega), if_neg (by omega), hx]
  · rfl

theorem textF_lt (s : ByteArray) (o : Nat) : ∀ (n i : Nat) (vs : List Int) (t : Tok), s.size - i = n → textF s o i vs = .tok t → i < t.en ∧ t.off = o := by
  intro n
  induction n using Nat.strongRecOn with
  | ind n ih =>
    intro i vs t hn h
    rw [textF] at h
    split at h
    · next hlt =>
      split at h
      · cases h
      · split at h
        · injection h with h; subst h; exact ⟨Nat.lt_succ_self _, rfl⟩
        · split at h
          · split at h
            · cases h
            · split at h
              · cases h
              · have := ih _ (by omega) _ _ t rfl h
                exact ⟨by omega, this.2⟩
          · split at h
            · cases h
            · have := ih _ (by omega) _ _ t rfl h
              exact ⟨by omega, this.2⟩
    · cases h

theorem textF_pre {s s' : ByteArray} {g g' : Nat} : ∀ (N j : Nat) (vs : List Int) (t : Tok), s.size - (g + j) = N → textF s g (g + j) vs = .tok t → Agree (rest s g) (rest s' g') (t.en - g) →
    textF s' g' (g' + j) vs = .tok ⟨t.k, t.t, t.n, t.op, g', g' + (t.en - g)⟩ := by
  intro N
  induction N using Nat.strongRecOn with
  | ind N ih =>
    intro j vs t hN h ha
    have hlt1 := (textF_lt s g _ _ _ _ rfl h).1
    rw [textF] at h
    split at h
    · next hlt =>
      obtain ⟨hlt', hb⟩ := byte_pre ha (j := j) (by omega) hlt
      rw [textF, dif_pos hlt', hb]
      split at h
      · cases h
      · next h32 =>
        rw [if_neg h32]
        split at h
        · next h34 =>
          rw [if_pos h34]
          injection h with h
          subst h
          show Nx.tok _ = Nx.tok _
          congr 2
          show g' + j + 1 = g' + (g + j + 1 - g)
          omega
        · next h34 =>
          rw [if_neg h34]
          split at h
          · next h92 =>
            rw [if_pos h92]
            split at h
            · cases h
            · next hn0 =>
              split at h
              · cases h
              · next h255 =>
                have hlt2 := (textF_lt s g _ _ _ _ rfl h).1
                have hesc : escX (s'.extract (g' + j) s'.size) = escX (s.extract (g + j) s.size) := by
                  refine escX_pre (fun e => hn0 (by rw [e]; rfl)) ?_
                  rw [extract_rest, extract_rest, ← rest_drop, ← rest_drop]
                  exact (ha.drop j).mono (by omega)
                rw [hesc, dif_neg hn0, if_neg h255]
                have := ih (s.size - (g + (j + (escX (s.extract (g + j) s.size)).2.toNat))) (by omega) (j + (escX (s.extract (g + j) s.size)).2.toNat) _ t rfl (by rw [← Nat.add_assoc]; exact h) ha
                rw [← Nat.add_assoc] at this
                exact this
          · next h92 =>
            rw [if_neg h92]
            split at h
            · cases h
            · next h255 =>
              rw [if_neg h255]
              have := ih (s.size - (g + (j + 1))) (by omega) (j + 1) _ t rfl (by rw [← Nat.add_assoc]; exact h) ha
              rw [← Nat.add_assoc] at this
              exact this
    · cases h

/-- What the marks' table says of a byte alone, and of a byte and the one behind it. -/
def P1 (a : UInt8) : Option (Nat × Int × Int) :=
  if a == 60 then some (1, 11, 3)
  else if a == 62 then some (1, 11, 5)
  else if a == 61 then some (1, 11, 1)
  else if a == 40 then some (1, 5, 0)
  else if a == 41 then some (1, 6, 0)
  else if a == 44 then some (1, 7, 0)
  else if a == 46 then some (1, 8, 0)
  else none
def P2 (a : UInt8) (b : Option UInt8) : Option (Nat × Int × Int) :=
  if a == 58 && b == some 45 then some (2, 9, 0)
  else if a == 33 && b == some 61 then some (2, 11, 2)
  else if a == 60 && b == some 61 then some (2, 11, 4)
  else if a == 62 && b == some 61 then some (2, 11, 6)
  else P1 a

theorem beq_swap (x a : UInt8) : (x == a) = (a == x) := by
  rw [Bool.eq_iff_iff]; simp only [beq_iff_eq]; exact eq_comm
theorem nil_pre (r : List UInt8) : List.isPrefixOf [] r = true := by cases r <;> rfl
theorem pre_one (x a : UInt8) (r : List UInt8) : Lib.hasPrefix (a :: r) [x] = (a == x) := by
  show ((x == a) && List.isPrefixOf [] r) = (a == x)
  rw [nil_pre, Bool.and_true, beq_swap]
theorem pre_two (x y a : UInt8) (r : List UInt8) : Lib.hasPrefix (a :: r) [x, y] = (a == x && r[0]? == some y) := by
  cases r with
  | nil =>
    show ((x == a) && false) = ((a == x) && false)
    rw [Bool.and_false, Bool.and_false]
  | cons b r =>
    show ((x == a) && ((y == b) && List.isPrefixOf [] r)) = ((a == x) && (b == y))
    rw [nil_pre, Bool.and_true, beq_swap x a, beq_swap y b]
theorem punctL_one (x a : UInt8) (k op : Int) (ms : List (List UInt8 × Int × Int)) (r : List UInt8) : punctL (([x], k, op) :: ms) (a :: r) = if a == x then some (1, k, op) else punctL ms (a :: r) := by
  show (if Lib.hasPrefix (a :: r) [x] = true then some (1, k, op) else punctL ms (a :: r)) = _
  rw [pre_one]
theorem punctL_two (x y a : UInt8) (k op : Int) (ms : List (List UInt8 × Int × Int)) (r : List UInt8) : punctL (([x, y], k, op) :: ms) (a :: r) = if a == x && r[0]? == some y then some (2, k, op) else punctL ms (a :: r) := by
  show (if Lib.hasPrefix (a :: r) [x, y] = true then some (2, k, op) else punctL ms (a :: r)) = _
  rw [pre_two]

theorem punct_two (a : UInt8) (r : List UInt8) : punctL marksT (a :: r) = P2 a r[0]? := by
  unfold marksT P2 P1
  rw [punctL_two, punctL_two, punctL_two, punctL_two, punctL_one, punctL_one, punctL_one, punctL_one, punctL_one, punctL_one, punctL_one]
  rfl

theorem P1_one {a : UInt8} {n : Nat} {k op : Int} (h : P1 a = some (n, k, op)) : n = 1 ∧ a ∈ ([58, 33, 60, 62, 61, 40, 41, 44, 46] : List UInt8) := by
  unfold P1 at h
  repeat' split at h
  all_goals first | (cases h; done) | skip
  all_goals
    injection h with h
    injection h with h _
    refine ⟨h.symm, ?_⟩
    have e := eq_of_beq (by assumption)
    subst e
    decide

theorem P2_blank {a : UInt8} {b : Option UInt8} (h1 : (b == some 45) = false) (h2 : (b == some 61) = false) : P2 a b = P1 a := by
  unfold P2
  rw [h1, h2, Bool.and_false, Bool.and_false, Bool.and_false, Bool.and_false]
  rfl

theorem P2_cases {a : UInt8} {b : Option UInt8} {n : Nat} {k op : Int} (h : P2 a b = some (n, k, op)) : (n = 2 ∧ a ∈ ([58, 33, 60, 62, 61, 40, 41, 44, 46] : List UInt8)) ∨ (n = 1 ∧ P1 a = some (n, k, op)) := by
  unfold P2 at h
  split at h
  · next hh => injection h with h; injection h with h _; simp only [Bool.and_eq_true, beq_iff_eq] at hh; rw [hh.1]; exact .inl ⟨h.symm, by decide⟩
  · split at h
    · next hh => injection h with h; injection h with h _; simp only [Bool.and_eq_true, beq_iff_eq] at hh; rw [hh.1]; exact .inl ⟨h.symm, by decide⟩
    · split at h
      · next hh => injection h with h; injection h with h _; simp only [Bool.and_eq_true, beq_iff_eq] at hh; rw [hh.1]; exact .inl ⟨h.symm, by decide⟩
      · split at h
        · next hh => injection h with h; injection h with h _; simp only [Bool.and_eq_true, beq_iff_eq] at hh; rw [hh.1]; exact .inl ⟨h.symm, by decide⟩
        · exact .inr ⟨(P1_one h).1, h⟩

theorem P2_pre {a : UInt8} {b b' : Option UInt8} {n : Nat} {k op : Int} (h : P2 a b = some (n, k, op)) (h2 : n = 2 → b' = b) (h1 : n = 1 → b' = none ∨ b' = b ∨ b' = some 10 ∨ b' = some 32) : P2 a b' = some (n, k, op) := by
  rcases P2_cases h with ⟨hn, _⟩ | ⟨hn, hp⟩
  · rw [h2 hn]; exact h
  · rcases h1 hn with rfl | rfl | rfl | rfl
    · rw [P2_blank rfl rfl]; exact hp
    · exact h
    · rw [P2_blank (by decide) (by decide)]; exact hp
    · rw [P2_blank (by decide) (by decide)]; exact hp

theorem P2_first {a : UInt8} {b : Option UInt8} {x : Nat × Int × Int} (h : P2 a b = some x) : a ∈ ([58, 33, 60, 62, 61, 40, 41, 44, 46] : List UInt8) := by
  obtain ⟨n, k, op⟩ := x
  rcases P2_cases h with ⟨_, h⟩ | ⟨_, h⟩
  · exact h
  · exact (P1_one h).2

theorem punctX_pre {s s' : ByteArray} {g g' : Nat} {t : Tok} (hg : g < s.size) (hg' : g' < s'.size) (hb : s'[g'] = s[g]) (h : punctX s g = .tok t) (ha : Agree (rest s g) (rest s' g') (t.en - g)) (hs : Safe (rest s g) (rest s' g') (t.en - g)) :
    punctX s' g' = .tok ⟨t.k, t.t, t.n, t.op, g', g' + (t.en - g)⟩ ∧ s[g] ∈ ([58, 33, 60, 62, 61, 40, 41, 44, 46] : List UInt8) := by
  unfold punctX at h ⊢
  rw [rest_cons s g hg] at h
  rw [rest_cons s' g' hg', hb]
  rw [punct_two] at h ⊢
  cases hp : P2 s[g] (rest s (g + 1))[0]? with
  | none => rw [hp] at h; cases h
  | some x =>
    obtain ⟨n, k, op⟩ := x
    refine ⟨?_, P2_first hp⟩
    rw [hp] at h
    unfold punctOf at h
    injection h with h
    subst h
    have en : g + n - g = n := by omega
    simp only [en] at ha hs ⊢
    have d0 : (rest s (g + 1))[0]? = (rest s g)[1]? := by rw [← rest_drop, List.getElem?_drop]
    have d1 : (rest s' (g' + 1))[0]? = (rest s' g')[1]? := by rw [← rest_drop, List.getElem?_drop]
    rw [P2_pre hp (b' := (rest s' (g' + 1))[0]?)]
    · rfl
    · intro e
      rw [d0, d1]
      exact ha 1 (by omega)
    · intro e
      rw [d0, d1]
      subst e
      cases hh : (rest s' g')[1]? with
      | none => exact .inl rfl
      | some b =>
        rcases hs b hh with h | h | h
        · exact .inr (.inl h.symm)
        · subst h; exact .inr (.inr (.inl rfl))
        · subst h; exact .inr (.inr (.inr rfl))

/-- A byte at which no gap goes on. -/
def Start (a : UInt8) : Prop := blankN a.toNat = false ∧ a.toNat ≠ 37 ∧ a ≠ 47

theorem start_word : ∀ n : Fin 256, (bLow (n.val : Int) || (bUp (n.val : Int) || (n.val : Int) == 95)) = true → blankN (n.val : Int) = false ∧ n.val ≠ 37 ∧ n.val ≠ 47 := by decide +kernel
theorem start_beg : ∀ n : Fin 256, (bDig (n.val : Int) = true ∨ (n.val : Int) = 45 ∨ (n.val : Int) = 34) → blankN (n.val : Int) = false ∧ n.val ≠ 37 ∧ n.val ≠ 47 := by decide +kernel
theorem start_of {a : UInt8} (h : blankN (a.toNat : Int) = false ∧ a.toNat ≠ 37 ∧ a.toNat ≠ 47) : Start a := ⟨h.1, h.2.1, fun e => h.2.2 (by rw [e]; rfl)⟩

/-- A token hangs on its own bytes and on the one behind them; and no gap goes on where it begins. -/
theorem tokAt_pre {s s' : ByteArray} {g g' : Nat} {t : Tok} (hg : g ≤ s.size) (h : tokAt s g = .tok t) (hk : t.k ≠ 0) (ha : Agree (rest s g) (rest s' g') (t.en - g)) (hs : Safe (rest s g) (rest s' g') (t.en - g)) :
    tokAt s' g' = .tok ⟨t.k, t.t, t.n, t.op, g', g' + (t.en - g)⟩ ∧ ∃ hlt : g < s.size, Start s[g] := by
  obtain ⟨ho, hc⟩ := tokAt_en hg h
  obtain ⟨h1, h2, h3⟩ := hc.resolve_left (fun h => hk h.1)
  have hlt : g < s.size := by omega
  obtain ⟨hlt', hb⟩ := byte_pre ha (j := 0) (by omega) (by omega)
  simp only [Nat.add_zero] at hlt' hb
  have e0 : (rest s g)[0]? = some s[g] := first_byte s g hlt
  have e0' : (rest s' g')[0]? = some s[g] := by rw [first_byte s' g' hlt', hb]
  unfold tokAt at h ⊢
  rw [dif_pos hlt] at h
  rw [dif_pos hlt', hb]
  rw [beg_rest] at h ⊢
  have hn256 := s[g].toNat_lt
  split at h
  · next hw =>
    rw [if_pos hw]
    exact ⟨wordX_pre h ha hs, hlt, start_of (start_word ⟨_, hn256⟩ hw)⟩
  · next hw =>
    rw [if_neg hw]
    split at h
    · next hbeg =>
      have hbeg' : begL (rest s' g') = true := by
        unfold begL at hbeg ⊢
        rw [e0] at hbeg
        rw [e0']
        simp only [Option.getD_some] at hbeg ⊢
        cases hd : bDig (s[g].toNat : Int) with
        | true => rfl
        | false =>
          rw [hd] at hbeg
          simp only [Bool.false_or, Bool.and_eq_true, decide_eq_true_eq] at hbeg ⊢
          obtain ⟨q1, q2, q3⟩ := hbeg
          have hl1 : (rest s (g + 1))[0]? = (rest s g)[1]? := by rw [← rest_drop, List.getElem?_drop]
          have hrun : 1 ≤ runC (rest s (g + 1)) := by
            rw [rest_len] at q2
            rw [rest_cons s (g + 1) (by omega)] at hl1 ⊢
            rw [← hl1] at q3
            unfold runC
            have q3' : bDig (s[g + 1].toNat : Int) = true := q3
            rw [if_pos (by unfold bWord; rw [q3']; simp)]
            omega
          have hlen := intX_len h
          have ea := ha 1 (by omega)
          have := ha.len (n := t.en - g) (by rw [rest_len]; omega)
          exact ⟨q1, by omega, by rw [ea]; exact q3⟩
      rw [if_pos hbeg']
      refine ⟨intX_pre h ha hs, hlt, start_of (start_beg ⟨_, hn256⟩ ?_)⟩
      unfold begL at hbeg
      rw [e0] at hbeg
      simp only [Option.getD_some] at hbeg
      cases hd : bDig (s[g].toNat : Int) with
      | true => exact .inl rfl
      | false =>
        rw [hd] at hbeg
        simp only [Bool.false_or, Bool.and_eq_true, beq_iff_eq] at hbeg
        exact .inr (.inl hbeg.1)
    · next hbeg =>
      have hnd : bDig (s[g].toNat : Int) = false := by
        cases hd : bDig (s[g].toNat : Int) with
        | false => rfl
        | true =>
          unfold begL at hbeg
          rw [e0] at hbeg
          simp only [Option.getD_some, hd, Bool.true_or, not_true_eq_false] at hbeg
      have hnb : (s[g].toNat : Int) ≠ 45 → begL (rest s' g') = false := fun h45 => by
        unfold begL
        rw [e0']
        simp only [Option.getD_some, hnd, Bool.false_or]
        rw [show ((s[g].toNat : Int) == 45) = false by simpa using h45]
        rfl
      split at h
      · next h34 =>
        rw [if_neg (by rw [hnb (by omega)]; simp), if_pos h34]
        exact ⟨textF_pre _ 1 [] t rfl h ha, hlt, start_of (start_beg ⟨_, hn256⟩ (.inr (.inr h34)))⟩
      · next h34 =>
        obtain ⟨hp, hm⟩ := punctX_pre hlt hlt' hb h ha hs
        have hm' : (s[g].toNat : Int) ≠ 45 ∧ blankN (s[g].toNat : Int) = false ∧ s[g].toNat ≠ 37 ∧ s[g].toNat ≠ 47 := by
          generalize s[g] = a at hm
          simp only [List.mem_cons, List.not_mem_nil, or_false] at hm
          rcases hm with rfl | rfl | rfl | rfl | rfl | rfl | rfl | rfl | rfl <;> decide
        rw [if_neg (by rw [hnb hm'.1]; simp), if_neg h34]
        exact ⟨hp, hlt, start_of hm'.2⟩

end Go.Proofs.YtfbmddgjbmapiaaDoor

namespace Go.Proofs.YtfbmddgjbmapiaaDoor
set_option linter.unusedSimpArgs false
set_option linter.unusedVariables false
open Go.RowKit

theorem blockC_pre {l l' : List UInt8} {d j m : Nat} (h : blockC d l = some j) (hj : j ≤ m) (ha : Agree l l' m) : blockC d l' = some j := by
  have h1 := blockC_take _ l d j m rfl h hj
  have h2 := blockC_append (l'.drop m) _ (l.take m) d j rfl h1
  rw [← ha.take, List.take_append_drop] at h2
  exact h2

theorem agree_cons {a : UInt8} {r l' : List UInt8} {n : Nat} (ha : Agree (a :: r) l' (n + 1)) : ∃ r', l' = a :: r' ∧ Agree r r' n := by
  have e := ha 0 (by omega)
  match l', e with
  | [], e => simp at e
  | b :: r', e =>
    have : b = a := by simpa using e
    subst this
    exact ⟨r', rfl, fun i hi => by simpa using ha (i + 1) (by omega)⟩

theorem lineC_pre : ∀ (l l' : List UInt8), lineC l < l.length → Agree l l' (lineC l + 1) → lineC l' = lineC l
  | [], _, h, _ => by simp at h
  | b :: r, l', h, ha => by
    obtain ⟨r', rfl, ha'⟩ := agree_cons ha
    unfold lineC at h ha' ⊢
    split
    · rfl
    · next hb =>
      rw [if_neg hb] at h ha'
      rw [lineC_pre r r' (by simp at h; omega) ha']

theorem item_pre {l l' : List UInt8} {k : Nat} (h : item l = .go k) (hk : k < l.length) (ha : Agree l l' (k + 1)) : item l' = .go k := by
  match l, h, hk, ha with
  | a :: r, h, hk, ha =>
    obtain ⟨r', rfl, ha'⟩ := agree_cons ha
    rw [item_cons] at h ⊢
    split
    · next hb => rw [if_pos hb] at h; exact h
    · next hb =>
      rw [if_neg hb] at h
      split
      · next h37 =>
        rw [if_pos h37] at h
        injection h with h
        subst h
        simp at hk
        rw [lineC_pre r r' hk ha']
      · next h37 =>
        rw [if_neg h37] at h
        split at h
        · next ho =>
          cases hbc : blockC 1 (r.drop 1) with
          | none => rw [hbc] at h; cases h
          | some x =>
            rw [hbc] at h
            injection h with h
            subst h
            have ho' : opens (a :: r') = true := by
              rw [← opens_take (m := 2) (Nat.le_refl _), (ha.mono (m := 2) (by omega)).take, opens_take (Nat.le_refl _)]; exact ho
            rw [if_pos ho', blockC_pre hbc (m := x + 2 - 1) (by omega) (ha'.drop 1)]
        · cases h

theorem item_start {a : UInt8} (h : Start a) (r : List UInt8) : item (a :: r) = .stop := by
  obtain ⟨h1, h2, h3⟩ := h
  rw [item_cons, if_neg (by rw [h1]; simp), if_neg h2, if_neg]
  intro ho
  match r, ho with
  | b :: r, ho =>
    have : (a == 47 && b == 42) = true := ho
    simp at this
    exact h3 this.1

theorem gap_pre : ∀ (N : Nat) (l l' : List UInt8) (n : Nat), l.length = N → gapN l = (n, true) → n < l.length → (∀ a, l[n]? = some a → Start a) → Agree l l' (n + 1) → gapN l' = (n, true) := by
  intro N
  induction N using Nat.strongRecOn with
  | ind N ih =>
    intro l l' n hl h hn hst ha
    have hzero : n = 0 → item l = .stop ∧ gapN l' = (0, true) := by
      rintro rfl
      match l, hn, hst, ha with
      | a :: r, _, hst, ha =>
        obtain ⟨r', rfl, _⟩ := agree_cons ha
        have := hst a (by simp)
        exact ⟨item_start this r, gapN_stop (item_start this r')⟩
    cases hi : item l with
    | stop =>
      rw [gapN_stop hi] at h
      cases h
      exact (hzero rfl).2
    | bad => rw [gapN_bad hi] at h; cases h
    | go k =>
      by_cases hk : 0 < k ∧ k ≤ l.length
      · rw [gapN_go hi hk.1 hk.2] at h
        have h1 : (gapN (l.drop k)).1 + k = n := congrArg Prod.fst h
        have h2 : (gapN (l.drop k)).2 = true := congrArg Prod.snd h
        have hd := ih (l.drop k).length (by simp; omega) (l.drop k) (l'.drop k) (gapN (l.drop k)).1 rfl (Prod.ext rfl h2) (by simp; omega)
          (fun a e => hst a (by rw [List.getElem?_drop] at e; rw [← e]; congr 1; omega)) ((ha.drop k).mono (by omega))
        have hlen := ha.len (by omega)
        rw [gapN_go (item_pre hi (by omega) (ha.mono (by omega))) hk.1 (by omega), hd]
        exact Prod.ext h1 rfl
      · rw [gapN, hi] at h
        simp only at h
        rw [dif_neg hk] at h
        cases h
        exact (hzero rfl).2

theorem gap_take_bad : ∀ (N : Nat) (l : List UInt8) (n : Nat), l.length = N → gapN l = (n, false) → gapN (l.take n) = (n, true) := by
  intro N
  induction N using Nat.strongRecOn with
  | ind N ih =>
    intro l n hl h
    cases hi : item l with
    | stop => rw [gapN_stop hi] at h; cases h
    | bad => rw [gapN_bad hi] at h; cases h; rw [List.take_zero]; exact gapN_stop rfl
    | go k =>
      by_cases hk : 0 < k ∧ k ≤ l.length
      · rw [gapN_go hi hk.1 hk.2] at h
        have h1 : (gapN (l.drop k)).1 + k = n := congrArg Prod.fst h
        have h2 : (gapN (l.drop k)).2 = false := congrArg Prod.snd h
        have hd := ih (l.drop k).length (by simp; omega) (l.drop k) (gapN (l.drop k)).1 rfl (Prod.ext rfl h2)
        have hle : n ≤ l.length := by
          have := gapN_len (l.drop k)
          simp at this
          omega
        rw [gapN_go (item_take hi (by omega) hk.1) hk.1 (by rw [List.length_take]; omega), List.drop_take, show n - k = (gapN (l.drop k)).1 by omega, hd]
        exact Prod.ext h1 rfl
      · rw [gapN, hi] at h
        simp only at h
        rw [dif_neg hk] at h
        cases h

theorem next_pre {s s' : ByteArray} {o o' : Nat} {t : Tok} (ho : o ≤ s.size) (h : nextX s o = .tok t) (hk : t.k ≠ 0) (ha : Agree (rest s o) (rest s' o') (t.en - o)) (hs : Safe (rest s o) (rest s' o') (t.en - o)) :
    nextX s' o' = .tok ⟨t.k, t.t, t.n, t.op, o' + (t.off - o), o' + (t.en - o)⟩ := by
  obtain ⟨h1, h2, h3, h4⟩ := next_tok ho h
  obtain ⟨_, h5, h6⟩ := h4.resolve_left (fun h => hk h.1)
  have hg : t.off = o + (gapN (rest s o)).1 := h2
  obtain ⟨n, hn⟩ : ∃ n, n = (gapN (rest s o)).1 := ⟨_, rfl⟩
  have hgn : gapN (rest s o) = (n, true) := Prod.ext hn.symm h1
  rw [← hn] at hg
  have hgw : gapW s o = (o + n, true) := by unfold gapW; rw [hgn]
  unfold nextX at h
  rw [hgw] at h
  simp only [if_true] at h
  have hA : Agree (rest s (o + n)) (rest s' (o' + n)) (t.en - (o + n)) := by
    rw [← rest_drop, ← rest_drop]
    have := ha.drop n
    rw [show t.en - o - n = t.en - (o + n) by omega] at this
    exact this
  have hS : Safe (rest s (o + n)) (rest s' (o' + n)) (t.en - (o + n)) := by
    rw [← rest_drop, ← rest_drop]
    have := hs.drop (k := n) (by omega)
    rw [show t.en - o - n = t.en - (o + n) by omega] at this
    exact this
  obtain ⟨ht, hlt, hst⟩ := tokAt_pre (by omega) h hk hA hS
  have hg' : gapN (rest s' o') = (n, true) := by
    refine gap_pre _ (rest s o) _ n rfl hgn (by rw [rest_len]; omega) (fun a e => ?_) (ha.mono (by omega))
    rw [nth_byte s o n hlt] at e
    have : s[o + n] = a := Option.some.inj e
    rw [← this]; exact hst
  unfold nextX gapW
  rw [hg']
  simp only [if_true]
  rw [ht, show o' + n + (t.en - (o + n)) = o' + (t.en - o) by omega, show o' + (t.off - o) = o' + n by omega]

theorem toks_det {s : ByteArray} {o : Nat} {L : List Tok} {c : Int} {f : Nat} (h : Toks s o L c f) : ∀ {L' c' f'}, Toks s o L' c' f' → L' = L ∧ c' = c ∧ f' = f := by
  induction h with
  | bad h1 h2 =>
    intro L' c' f' h'
    cases h' with
    | bad _ k2 => rw [h2] at k2; injection k2 with a b; exact ⟨rfl, a.symm, b.symm⟩
    | last _ k2 _ => rw [h2] at k2; cases k2
    | more _ k2 _ _ => rw [h2] at k2; cases k2
  | last h1 h2 h3 =>
    intro L' c' f' h'
    cases h' with
    | bad _ k2 => rw [h2] at k2; cases k2
    | last _ k2 _ => rw [h2] at k2; injection k2 with a; subst a; exact ⟨rfl, rfl, rfl⟩
    | more _ k2 k3 _ => rw [h2] at k2; injection k2 with a; subst a; exact absurd h3 k3
  | more h1 h2 h3 h4 ih =>
    intro L' c' f' h'
    cases h' with
    | bad _ k2 => rw [h2] at k2; cases k2
    | last _ k2 k3 => rw [h2] at k2; injection k2 with a; subst a; exact absurd k3 h3
    | more _ k2 k3 k4 =>
      rw [h2] at k2
      injection k2 with a
      subst a
      obtain ⟨e1, e2, e3⟩ := ih k4
      exact ⟨by rw [e1], e2, e3⟩

theorem scan_eq {s : ByteArray} {L : List Tok} {c : Int} {f : Nat} (hs : s.size ≤ 65536) (h : Toks s 0 L c f) : scanX s = (L, c, f) := by
  obtain ⟨e1, e2, e3⟩ := toks_det h (scan_toks s hs)
  exact Prod.ext e1 (Prod.ext e2 e3)

/-- s' begins as s does, up to m; behind that stands nothing, or a blank, or what stands in s too. -/
structure Pre (s s' : ByteArray) (m : Nat) : Prop where
  le : m ≤ s.size
  le' : m ≤ s'.size
  same : ∀ i, i < m → s'.data.toList[i]? = s.data.toList[i]?
  behind : ∀ b, s'.data.toList[m]? = some b → s.data.toList[m]? = some b ∨ b = 10 ∨ b = 32

theorem Pre.agree {s s' : ByteArray} {m : Nat} (h : Pre s s' m) {o e : Nat} (he : e ≤ m) : Agree (rest s o) (rest s' o) (e - o) := fun i hi => by
  unfold rest
  rw [List.getElem?_drop, List.getElem?_drop]
  exact h.same _ (by omega)
theorem Pre.safe {s s' : ByteArray} {m : Nat} (h : Pre s s' m) {o e : Nat} (ho : o ≤ e) (he : e ≤ m) : Safe (rest s o) (rest s' o) (e - o) := fun b hb => by
  unfold rest at hb ⊢
  rw [List.getElem?_drop, show o + (e - o) = e by omega] at hb ⊢
  by_cases h1 : e = m
  · subst h1; exact h.behind b hb
  · exact .inl (by rw [← h.same e (by omega)]; exact hb)

theorem Pre.next {s s' : ByteArray} {m o : Nat} {t : Tok} (hp : Pre s s' m) (ho : o ≤ s.size) (h : nextX s o = .tok t) (hk : t.k ≠ 0) (he : t.en ≤ m) : nextX s' o = .tok t ∧ o ≤ t.off ∧ t.off < t.en := by
  obtain ⟨_, _, h3, h4⟩ := next_tok ho h
  obtain ⟨_, h5, _⟩ := h4.resolve_left (fun h => hk h.1)
  refine ⟨?_, h3, h5⟩
  rw [next_pre ho h hk (hp.agree he) (hp.safe (by omega) he), show o + (t.off - o) = t.off by omega, show o + (t.en - o) = t.en by omega]

theorem toks_more {s s' : ByteArray} (hp : Pre s s' s.size) {o : Nat} {L : List Tok} {c : Int} {f : Nat} (h : Toks s o L c f) : c = 0 → ∃ r c' f', Toks s' o (L.dropLast ++ r) c' f' := by
  induction h with
  | bad h1 h2 => intro hc; have := next_bad h2; omega
  | last h1 h2 h3 =>
    intro _
    obtain ⟨r, c, f, _, T⟩ := each_toks s' _ _ [] rfl (Nat.le_trans h1 hp.le')
    exact ⟨r, c, f, T⟩
  | more h1 h2 h3 h4 ih =>
    intro hc
    obtain ⟨r, c', f', T⟩ := ih hc
    have h0 := (toks_zero h4 hc).2.1
    refine ⟨r, c', f', ?_⟩
    rw [List.dropLast_cons_of_ne_nil (List.ne_nil_of_length_pos h0), List.cons_append]
    exact .more (Nat.le_trans h1 hp.le') (hp.next h1 h2 h3 h4.le).1 h3 T

theorem pre_append (s m : ByteArray) : Pre s (s ++ ⟨#[10]⟩ ++ m) s.size where
  le := Nat.le_refl _
  le' := by rw [ByteArray.size_append, ByteArray.size_append]; omega
  same i hi := by
    rw [ByteArray.data_append, ByteArray.data_append, Array.toList_append, Array.toList_append, List.append_assoc, List.getElem?_append_left (by simpa using hi)]
  behind b hb := by
    rw [ByteArray.data_append, ByteArray.data_append, Array.toList_append, Array.toList_append, List.append_assoc, List.getElem?_append_right (by simp)] at hb
    simp at hb
    exact .inr (.inl hb.symm)

theorem pre_extract (s : ByteArray) (m : Nat) (h : m ≤ s.size) : Pre s (s.extract 0 m) m := by
  have e : (s.extract 0 m).data.toList = s.data.toList.take m := by
    rw [ByteArray.data_extract, Array.toList_extract, List.extract_eq_take_drop, List.drop_zero, Nat.sub_zero]
  have hz : (s.extract 0 m).size = m := by rw [ByteArray.size_extract]; omega
  exact ⟨h, by omega, fun i hi => by rw [e, List.getElem?_take_of_lt hi], fun b hb => by rw [e, List.getElem?_take_eq_none (Nat.le_refl _)] at hb; cases hb⟩

theorem toks_ends {s : ByteArray} {o : Nat} {L : List Tok} {c : Int} {f : Nat} (h : Toks s o L c f) : o ≤ endOf o L := by
  induction h with
  | bad _ _ => exact Nat.le_refl _
  | last h1 h2 h3 =>
    rename_i o t
    have := next_tok h1 h2
    show o ≤ t.en
    omega
  | more h1 h2 h3 h4 ih =>
    rename_i o t r c f
    obtain ⟨_, _, a, b⟩ := next_tok h1 h2
    show o ≤ endOf t.en r
    omega

theorem rest_cut (s : ByteArray) (o m : Nat) : rest (s.extract 0 m) o = (rest s o).take (m - o) := by
  unfold rest
  rw [ByteArray.data_extract, Array.toList_extract, List.extract_eq_take_drop, List.drop_zero, Nat.sub_zero, List.drop_take]

theorem next_last (s : ByteArray) (o : Nat) (ho : o ≤ s.size) (h : gapW s o = (s.size, true)) : nextX s o = .tok (endTok s.size) := by
  unfold nextX
  rw [h]
  simp only [if_true]
  unfold tokAt
  rw [dif_neg (by omega)]
  rfl

theorem gap_cut (s : ByteArray) (o : Nat) (ho : o ≤ s.size) : gapW (s.extract 0 (gapW s o).1) o = ((gapW s o).1, true) := by
  have e : (gapW s o).1 = o + (gapN (rest s o)).1 := rfl
  unfold gapW at e ⊢
  simp only at e ⊢
  rw [rest_cut, show o + (gapN (rest s o)).1 - o = (gapN (rest s o)).1 by omega]
  have : gapN ((rest s o).take (gapN (rest s o)).1) = ((gapN (rest s o)).1, true) := by
    cases hb : (gapN (rest s o)).2 with
    | true => exact gap_take _ (rest s o) _ rfl (Prod.ext rfl hb)
    | false => exact gap_take_bad _ (rest s o) _ rfl (Prod.ext rfl hb)
  rw [this]

/-- Cut off ahead of its fault a text has the same tokens, and then its end. -/
theorem toks_first {s : ByteArray} {o : Nat} {L : List Tok} {c : Int} {f : Nat} (h : Toks s o L c f) : c ≠ 0 → Toks (s.extract 0 (gapW s (endOf o L)).1) o (L ++ [endTok (gapW s (endOf o L)).1]) 0 0 := by
  induction h with
  | bad h1 h2 =>
    rename_i o c f
    intro _
    have hg := gapW_le s o h1
    have hz : (s.extract 0 (gapW s o).1).size = (gapW s o).1 := by rw [ByteArray.size_extract]; omega
    have hc := gap_cut s o h1
    show Toks (s.extract 0 (gapW s o).1) o [endTok (gapW s o).1] 0 0
    have := next_last (s.extract 0 (gapW s o).1) o (by omega) (by rw [hz]; exact hc)
    rw [hz] at this
    exact .last (by omega) this rfl
  | last h1 h2 h3 => intro hc; exact absurd rfl hc
  | more h1 h2 h3 h4 ih =>
    rename_i o t r c f
    intro hc
    have T := ih hc
    have hb := toks_bad h4 hc
    have hg := gapW_le s _ hb.2.1
    have he := toks_ends h4
    have hp := pre_extract s (gapW s (endOf t.en r)).1 hg.2
    have hn := hp.next h1 h2 h3 (by omega)
    refine .more ?_ hn.1 h3 T
    have := hp.le'
    show o ≤ (s.extract 0 (gapW s (endOf t.en r)).1).size
    omega

theorem textF_cut {s : ByteArray} {g f : Nat} (hf : f ≤ s.size) : ∀ (N j : Nat) (vs : List Int), s.size - (g + j) = N → textF s g (g + j) vs = .bad 12 f → textF (s.extract 0 f) g (g + j) vs = .bad 11 g ∧ g + j ≤ f ∧ f < s.size := by
  have hp := pre_extract s f hf
  have hz : (s.extract 0 f).size = f := by rw [ByteArray.size_extract]; omega
  intro N
  induction N using Nat.strongRecOn with
  | ind N ih =>
    intro j vs hN h
    rw [textF] at h
    split at h
    · next hlt =>
      split at h
      · injection h with h _; cases h
      · next h32 =>
        split at h
        · cases h
        · next h34 =>
          split at h
          · next h92 =>
            split at h
            · injection h with _ h
              refine ⟨?_, by omega, by omega⟩
              rw [textF, dif_neg (by omega)]
            · next hn0 =>
              split at h
              · injection h with h _; cases h
              · next h255 =>
                obtain ⟨r1, r2, r3⟩ := ih (s.size - (g + (j + (escX (s.extract (g + j) s.size)).2.toNat))) (by omega) (j + (escX (s.extract (g + j) s.size)).2.toNat) _ rfl (by rw [← Nat.add_assoc]; exact h)
                have ha : Agree (rest s g) (rest (s.extract 0 f) g) (f - g) := hp.agree (Nat.le_refl _)
                obtain ⟨hlt', hb⟩ := byte_pre ha (j := j) (by omega) hlt
                refine ⟨?_, by omega, r3⟩
                rw [textF, dif_pos hlt', hb, if_neg h32, if_neg h34, if_pos h92]
                have hesc : escX ((s.extract 0 f).extract (g + j) (s.extract 0 f).size) = escX (s.extract (g + j) s.size) := by
                  refine escX_pre (fun e => hn0 (by rw [e]; rfl)) ?_
                  rw [extract_rest, extract_rest, ← rest_drop, ← rest_drop]
                  exact (ha.drop j).mono (by omega)
                rw [hesc, dif_neg hn0, if_neg h255, Nat.add_assoc]
                exact r1
          · next h92 =>
            split at h
            · injection h with h _; cases h
            · next h255 =>
              obtain ⟨r1, r2, r3⟩ := ih (s.size - (g + (j + 1))) (by omega) (j + 1) _ rfl (by rw [← Nat.add_assoc]; exact h)
              have ha : Agree (rest s g) (rest (s.extract 0 f) g) (f - g) := hp.agree (Nat.le_refl _)
              obtain ⟨hlt', hb⟩ := byte_pre ha (j := j) (by omega) hlt
              refine ⟨?_, by omega, r3⟩
              rw [textF, dif_pos hlt', hb, if_neg h32, if_neg h34, if_neg h92, if_neg h255, Nat.add_assoc]
              exact r1
    · injection h with h _; cases h

theorem tokAt_cut {s : ByteArray} {g f : Nat} (h : tokAt s g = .bad 12 f) : tokAt (s.extract 0 f) g = .bad 11 g ∧ g < f ∧ ∃ hlt : g < s.size, Start s[g] := by
  have hbd := tokAt_bad h
  have hlt : g < s.size := hbd.1
  have hn256 := s[g].toNat_lt
  unfold tokAt at h
  rw [dif_pos hlt] at h
  split at h
  · unfold wordX at h
    simp only at h
    repeat' split at h
    all_goals first | (injection h with h1 h2; cases h1; done) | (cases h; done)
  · next hw =>
    split at h
    · unfold intX at h
      split at h
      · cases h
      · injection h with h _; cases h
    · split at h
      · next h34 =>
        obtain ⟨r1, r2, r3⟩ := textF_cut (g := g) (by omega) _ 1 [] rfl h
        have hp := pre_extract s f (by omega)
        have ha : Agree (rest s g) (rest (s.extract 0 f) g) (f - g) := hp.agree (Nat.le_refl _)
        obtain ⟨hlt', hb⟩ := byte_pre ha (j := 0) (by omega) hlt
        simp only [Nat.add_zero] at hlt' hb
        refine ⟨?_, by omega, hlt, start_of (start_beg ⟨_, hn256⟩ (.inr (.inr h34)))⟩
        unfold tokAt
        rw [dif_pos hlt', hb, if_neg hw, beg_rest, if_neg, if_pos h34]
        · exact r1
        · unfold begL
          rw [first_byte _ g hlt', hb]
          simp only [Option.getD_some]
          rw [h34]
          simp [bDig]
      · unfold punctX at h
        cases hq : punctL marksT (rest s g) with
        | none => rw [hq] at h; injection h with h _; cases h
        | some x => obtain ⟨n, k, op⟩ := x; rw [hq] at h; cases h

theorem next_cut {s : ByteArray} {o f : Nat} (ho : o ≤ s.size) (h : nextX s o = .bad 12 f) : nextX (s.extract 0 f) o = .bad 11 (gapW s o).1 ∧ (gapW s o).1 < f ∧ f < s.size := by
  have hb := next_bad h
  obtain ⟨h1, _, _, _, h5, _⟩ := hb.resolve_left (fun h => by omega)
  obtain ⟨n, hn⟩ : ∃ n, n = (gapN (rest s o)).1 := ⟨_, rfl⟩
  have hgn : gapN (rest s o) = (n, true) := Prod.ext hn.symm h1
  have hgw : gapW s o = (o + n, true) := by unfold gapW; rw [hgn]
  unfold nextX at h
  rw [hgw] at h ⊢
  simp only [if_true] at h
  obtain ⟨r1, r2, hlt, hst⟩ := tokAt_cut h
  have hp := pre_extract s f (by omega)
  have ha : Agree (rest s o) (rest (s.extract 0 f) o) (f - o) := hp.agree (Nat.le_refl _)
  have hg' : gapN (rest (s.extract 0 f) o) = (n, true) := by
    refine gap_pre _ (rest s o) _ n rfl hgn (by rw [rest_len]; omega) (fun a e => ?_) (ha.mono (by omega))
    rw [nth_byte s o n hlt] at e
    have : s[o + n] = a := Option.some.inj e
    rw [← this]; exact hst
  refine ⟨?_, r2, h5⟩
  unfold nextX gapW
  rw [hg']
  simp only [if_true]
  exact r1

/-- Cut off at an escape that is none a text has the same tokens, and a text that is not closed. -/
theorem toks_escape {s : ByteArray} {o : Nat} {L : List Tok} {c : Int} {f : Nat} (h : Toks s o L c f) : c = 12 → Toks (s.extract 0 f) o L 11 (gapW s (endOf o L)).1 ∧ (gapW s (endOf o L)).1 < f ∧ f < s.size := by
  induction h with
  | bad h1 h2 =>
    rename_i o c f
    rintro rfl
    obtain ⟨r1, r2, r3⟩ := next_cut h1 h2
    have hg := gapW_le s o h1
    have hz : (s.extract 0 f).size = f := by rw [ByteArray.size_extract]; omega
    exact ⟨.bad (by omega) r1, r2, r3⟩
  | last h1 h2 h3 => intro hc; cases hc
  | more h1 h2 h3 h4 ih =>
    rename_i o t r c f
    intro hc
    obtain ⟨T, r2, r3⟩ := ih hc
    have hb := toks_bad h4 (by omega)
    have hg := gapW_le s _ hb.2.1
    have he := toks_ends h4
    have hp := pre_extract s f (by omega)
    have hn := hp.next h1 h2 h3 (by omega)
    have hz := hp.le'
    exact ⟨.more (by omega) hn.1 h3 T, r2, r3⟩

/-- The fault's place, but for escapes, is where the gap ends. -/
theorem toks_place {s : ByteArray} {o : Nat} {L : List Tok} {c : Int} {f : Nat} (h : Toks s o L c f) (hc : c ≠ 0) : f < s.size ∧ (c ≠ 12 → f = (gapW s (endOf o L)).1) := by
  obtain ⟨h1, h2, _⟩ := toks_bad h hc
  rcases next_bad h1 with ⟨a, b, d⟩ | ⟨a, _, _, _, d, e⟩
  · have := gap_bad_lt s _ h2 a
    exact ⟨by omega, fun _ => d⟩
  · exact ⟨d, e⟩

/-- A token's spelling, alone, is that token. -/
theorem alone_scan {s : ByteArray} {o : Nat} {t : Tok} (hs : s.size ≤ 65536) (ho : o ≤ s.size) (h : nextX s o = .tok t) (hk : t.k ≠ 0) :
    scanX (s.extract t.off t.en) = ([⟨t.k, t.t, t.n, t.op, 0, t.en - t.off⟩, endTok (t.en - t.off)], 0, 0) := by
  obtain ⟨h1, h2, h3, h4⟩ := next_tok ho h
  obtain ⟨_, h5, h6⟩ := h4.resolve_left (fun h => hk h.1)
  have hg : nextX s o = tokAt s t.off := by unfold nextX; rw [h1, ← h2]; rfl
  rw [hg] at h
  have hz : (s.extract t.off t.en).size = t.en - t.off := by rw [ByteArray.size_extract]; omega
  have hr : rest (s.extract t.off t.en) 0 = (rest s t.off).take (t.en - t.off) := by
    have := extract_list s t.off (t.en - t.off)
    rw [show t.off + (t.en - t.off) = t.en by omega] at this
    unfold rest at this ⊢
    rw [List.drop_zero]; exact this
  have ha : Agree (rest s t.off) (rest (s.extract t.off t.en) 0) (t.en - t.off) := fun i hi => by rw [hr, List.getElem?_take_of_lt hi]
  have hsf : Safe (rest s t.off) (rest (s.extract t.off t.en) 0) (t.en - t.off) := fun b hb => by rw [hr, List.getElem?_take_eq_none (Nat.le_refl _)] at hb; cases hb
  obtain ⟨r1, hlt, hst⟩ := tokAt_pre (by omega) h hk ha hsf
  rw [Nat.zero_add] at r1
  generalize hS : s.extract t.off t.en = S at *
  have hg0 : gapW S 0 = (0, true) := by
    obtain ⟨hlt', hb⟩ := byte_pre ha (j := 0) (by omega) hlt
    simp only [Nat.add_zero] at hlt' hb
    unfold gapW
    rw [rest_cons S 0 hlt', hb, gapN_stop (item_start hst _)]
    rfl
  have n0 : nextX S 0 = .tok ⟨t.k, t.t, t.n, t.op, 0, t.en - t.off⟩ := by
    unfold nextX
    rw [hg0]
    simp only [if_true]
    exact r1
  have n1 : nextX S (t.en - t.off) = .tok (endTok (t.en - t.off)) := by
    have := next_last S (t.en - t.off) (by omega) (by rw [hz]; exact gapW_end S _ (by omega))
    rw [hz] at this
    exact this
  exact scan_eq (by omega) (.more (Nat.zero_le _) n0 hk (.last (by show t.en - t.off ≤ _; omega) n1 rfl))

end Go.Proofs.YtfbmddgjbmapiaaDoor

namespace Go.Proofs.YtfbmddgjbmapiaaDoor
set_option linter.unusedSimpArgs false
set_option linter.unusedVariables false
open Go.RowKit

def mkC (a : PAtom) : PCls := ⟨a, []⟩
def gAtom (a : PAtom) : Bool := a.ts.all fun t => t.k != 4
def gCls (x : PCls) : Bool := x.b.isEmpty && gAtom x.h
theorem value_term {k : Int} (h : k ∈ valueKs) : k ∈ termKs ∧ kindT k ≠ 4 := by
  simp only [valueKs, List.mem_cons, List.not_mem_nil, or_false] at h
  rcases h with rfl | rfl | rfl <;> exact ⟨by decide, by decide⟩
theorem term_value {k : Int} (h : k ∈ termKs) (h4 : kindT k ≠ 4) : k ∈ valueKs := by
  simp only [termKs, List.mem_cons, List.not_mem_nil, or_false] at h
  rcases h with rfl | rfl | rfl | rfl
  · exact absurd rfl h4
  all_goals decide
theorem take_sub {c f : Int} {ks ls : List Int} {R r : List Tok} {t : Tok} (h : takeP c f ks R = .ok t r) (hl : t.k ∈ ls) : takeP c f ls R = .ok t r := by
  obtain ⟨rfl, _⟩ := take_eq h
  simp only [takeP]
  rw [if_pos hl]
theorem args_val {c f : Int} : ∀ (n : Nat) (acc : List Trm) (R r : List Tok) (ts : List Trm), R.length = n → argsP c f valueKs acc R = .ok ts r → argsP c f termKs acc R = .ok ts r ∧ ∃ us, ts = acc ++ us ∧ ∀ u ∈ us, u.k ≠ 4 := by
  intro n
  induction n using Nat.strongRecOn with
  | ind n ih =>
    intro acc R r ts hn h
    cases hT : takeP c f valueKs R with
    | bad ec eo => rw [args_bad1 hT] at h; cases h
    | ok t r1 =>
      have l1 := take_len hT
      have hv := value_term (take_eq hT).2
      have hT2 := take_sub hT hv.1
      by_cases h8 : acc.length = 8
      · rw [args_lim hT h8] at h; cases h
      · rw [args_next hT h8] at h
        rw [args_next hT2 h8]
        cases hU : takeP c f [7, 6] r1 with
        | bad ec eo => rw [hU] at h; cases h
        | ok s r2 =>
          have l2 := take_len hU
          rw [hU] at h
          simp only at h ⊢
          by_cases h7 : s.k = 7
          · rw [if_pos h7] at h ⊢
            obtain ⟨q1, us, q2, q3⟩ := ih r2.length (by omega) _ r2 r ts rfl h
            refine ⟨q1, termP t :: us, by rw [q2, List.append_assoc]; rfl, fun u hu => ?_⟩
            rcases List.mem_cons.1 hu with rfl | hu
            · exact hv.2
            · exact q3 u hu
          · rw [if_neg h7] at h ⊢
            injection h with e1 e2
            subst e1 e2
            exact ⟨rfl, [termP t], rfl, fun u hu => by simp only [List.mem_singleton] at hu; subst hu; exact hv.2⟩
theorem args_term {c f : Int} : ∀ (n : Nat) (acc : List Trm) (R r : List Tok) (ts : List Trm), R.length = n → argsP c f termKs acc R = .ok ts r → (∃ us, ts = acc ++ us) ∧ ((∀ u ∈ ts, u.k ≠ 4) → argsP c f valueKs acc R = .ok ts r) := by
  intro n
  induction n using Nat.strongRecOn with
  | ind n ih =>
    intro acc R r ts hn h
    cases hT : takeP c f termKs R with
    | bad ec eo => rw [args_bad1 hT] at h; cases h
    | ok t r1 =>
      have l1 := take_len hT
      have ht := (take_eq hT).2
      by_cases h8 : acc.length = 8
      · rw [args_lim hT h8] at h; cases h
      · rw [args_next hT h8] at h
        cases hU : takeP c f [7, 6] r1 with
        | bad ec eo => rw [hU] at h; cases h
        | ok s r2 =>
          have l2 := take_len hU
          rw [hU] at h
          simp only at h
          by_cases h7 : s.k = 7
          · rw [if_pos h7] at h
            obtain ⟨⟨us, q2⟩, q1⟩ := ih r2.length (by omega) _ r2 r ts rfl h
            refine ⟨⟨termP t :: us, by rw [q2, List.append_assoc]; rfl⟩, fun hg => ?_⟩
            have hv := term_value ht (hg (termP t) (by rw [q2]; simp))
            rw [args_next (take_sub hT hv) h8, hU]
            simp only
            rw [if_pos h7]
            exact q1 hg
          · rw [if_neg h7] at h
            injection h with e1 e2
            subst e1 e2
            refine ⟨⟨_, rfl⟩, fun hg => ?_⟩
            have hv := term_value ht (hg (termP t) (by simp))
            rw [args_next (take_sub hT hv) h8, hU]
            simp only
            rw [if_neg h7]
theorem atom_val {c f : Int} {name : Tok} {R r : List Tok} {a : PAtom} (h : atomP c f valueKs name R = .ok a r) : atomP c f termKs name R = .ok a r ∧ gAtom a = true := by
  match R, h with
  | [], h => simp [atomP] at h
  | t :: r1, h =>
    unfold atomP at h ⊢
    simp only at h ⊢
    by_cases h5 : t.k = 5
    · rw [if_pos h5] at h ⊢
      cases hA : argsP c f valueKs [] r1 with
      | bad ec eo => rw [hA] at h; cases h
      | ok ts r2 =>
        rw [hA] at h
        injection h with e1 e2
        subst e1 e2
        obtain ⟨q1, us, q2, q3⟩ := args_val _ _ _ _ _ rfl hA
        rw [q1]
        refine ⟨rfl, ?_⟩
        unfold gAtom
        rw [List.all_eq_true]
        intro u hu
        have := q3 u (by rw [q2] at hu; simpa using hu)
        simpa using this
    · rw [if_neg h5] at h ⊢
      injection h with e1 e2
      subst e1 e2
      exact ⟨rfl, rfl⟩
theorem atom_term {c f : Int} {name : Tok} {R r : List Tok} {a : PAtom} (h : atomP c f termKs name R = .ok a r) (hg : gAtom a = true) : atomP c f valueKs name R = .ok a r := by
  match R, h with
  | [], h => simp [atomP] at h
  | t :: r1, h =>
    unfold atomP at h ⊢
    simp only at h ⊢
    by_cases h5 : t.k = 5
    · rw [if_pos h5] at h ⊢
      cases hA : argsP c f termKs [] r1 with
      | bad ec eo => rw [hA] at h; cases h
      | ok ts r2 =>
        rw [hA] at h
        injection h with e1 e2
        subst e1 e2
        rw [(args_term _ _ _ _ _ rfl hA).2 (fun u hu => by unfold gAtom at hg; have := List.all_eq_true.1 hg u hu; simpa using this)]
    · rw [if_neg h5] at h ⊢
      exact h
theorem body_nonempty {c f : Int} : ∀ (n : Nat) (acc : List PLit) (R r : List Tok) (b : List PLit), bodyF c f n acc R = .ok b r → b ≠ [] := by
  intro n
  induction n with
  | zero => intro acc R r b h; cases h
  | succ n ih =>
    intro acc R r b h
    cases hT : takeP c f [1, 10, 2, 3, 4] R with
    | bad ec eo => rw [body_bad1 hT] at h; cases h
    | ok t r1 =>
      by_cases h16 : acc.length = 16
      · rw [body_lim hT h16] at h; cases h
      · cases hL : litP c f t r1 with
        | bad ec eo => rw [body_lit hT h16 hL] at h; cases h
        | ok x r2 =>
          cases hU : takeP c f [7, 8] r2 with
          | bad ec eo => rw [body_sep hT h16 hL hU] at h; cases h
          | ok s r3 =>
            by_cases h8 : s.k = 8
            · rw [body_end hT h16 hL hU h8] at h; injection h with e1 e2; subst e1; simp
            · rw [body_more hT h16 hL hU h8] at h; exact ih _ _ _ _ h
theorem clause_fact {c f : Int} {name s : Tok} {R r2 r3 : List Tok} {a : PAtom} (hA : atomP c f valueKs name R = .ok a r2) (hD : takeP c f [8] r2 = .ok s r3) : clauseP c f name R = .ok (mkC a) r3 := by
  have h8 : s.k = 8 := by simpa using (take_eq hD).2
  unfold clauseP
  rw [(atom_val hA).1]
  simp only
  rw [take_sub hD (ls := [8, 9]) (by rw [h8]; decide)]
  simp only
  rw [if_neg (by omega)]
  rfl
theorem fact_clause {c f : Int} {name : Tok} {R r : List Tok} {x : PCls} (h : clauseP c f name R = .ok x r) (hg : gCls x = true) : ∃ s r2, atomP c f valueKs name R = .ok x.h r2 ∧ takeP c f [8] r2 = .ok s r ∧ x = mkC x.h := by
  unfold gCls at hg
  simp only [Bool.and_eq_true, List.isEmpty_iff] at hg
  unfold clauseP at h
  cases hA : atomP c f termKs name R with
  | bad ec eo => rw [hA] at h; cases h
  | ok a r1 =>
    rw [hA] at h
    simp only at h
    cases hT : takeP c f [8, 9] r1 with
    | bad ec eo => rw [hT] at h; cases h
    | ok s r2 =>
      rw [hT] at h
      simp only at h
      by_cases h9 : s.k = 9
      · rw [if_pos h9] at h
        cases hB : bodyP c f r2 with
        | bad ec eo => rw [hB] at h; cases h
        | ok b r3 =>
          rw [hB] at h
          injection h with e1 e2
          subst e1
          exact absurd hg.1 (body_nonempty _ _ _ _ _ hB)
      · rw [if_neg h9] at h
        injection h with e1 e2
        subst e1 e2
        have h8 : s.k = 8 := by have := (take_eq hT).2; simp at this; omega
        exact ⟨s, r1, atom_term hA hg.2, take_sub hT (by rw [h8]; decide), rfl⟩
theorem facts_more_len {c f : Int} : ∀ (n : Nat) (fs : List PAtom) (R r : List Tok) (out : List PAtom), factsF c f n fs R = .ok out r → ∃ us, out = fs ++ us := by
  intro n
  induction n with
  | zero => intro fs R r out h; cases h
  | succ n ih =>
    intro fs R r out h
    cases hT : takeP c f [1, 0] R with
    | bad e1 e2 => rw [facts_bad1 hT] at h; cases h
    | ok t r1 =>
      by_cases h0 : t.k = 0
      · rw [facts_end hT h0] at h; injection h with e1 e2; subst e1; exact ⟨[], by simp⟩
      · by_cases h5 : fs.length = 4096
        · rw [facts_lim hT h0 h5] at h; cases h
        · cases hC : atomP c f valueKs t r1 with
          | bad e1 e2 => rw [facts_atom hT h0 h5 hC] at h; cases h
          | ok x r2 =>
            cases hD : takeP c f [8] r2 with
            | bad e1 e2 => rw [facts_dot hT h0 h5 hC hD] at h; cases h
            | ok s r3 =>
              rw [facts_more hT h0 h5 hC hD] at h
              obtain ⟨us, e⟩ := ih _ _ _ _ h
              exact ⟨x :: us, by rw [e, List.append_assoc]; rfl⟩
/-- A facts text of up to 512 facts is a program of just these. -/
theorem facts_prog {c f : Int} : ∀ (n : Nat) (fs : List PAtom) (R r : List Tok) (out : List PAtom), factsF c f n fs R = .ok out r → out.length ≤ 512 → progF c f n (fs.map mkC) R = .ok (out.map mkC) r ∧ ((∀ a ∈ fs, gAtom a = true) → ∀ a ∈ out, gAtom a = true) := by
  intro n
  induction n with
  | zero => intro fs R r out h; cases h
  | succ n ih =>
    intro fs R r out h hl
    cases hT : takeP c f [1, 0] R with
    | bad e1 e2 => rw [facts_bad1 hT] at h; cases h
    | ok t r1 =>
      by_cases h0 : t.k = 0
      · rw [facts_end hT h0] at h; injection h with e1 e2; subst e1 e2; exact ⟨prog_end hT h0, fun h => h⟩
      · by_cases h5 : fs.length = 4096
        · rw [facts_lim hT h0 h5] at h; cases h
        · cases hC : atomP c f valueKs t r1 with
          | bad e1 e2 => rw [facts_atom hT h0 h5 hC] at h; cases h
          | ok x r2 =>
            cases hD : takeP c f [8] r2 with
            | bad e1 e2 => rw [facts_dot hT h0 h5 hC hD] at h; cases h
            | ok s r3 =>
              rw [facts_more hT h0 h5 hC hD] at h
              obtain ⟨us, e⟩ := facts_more_len _ _ _ _ _ h
              obtain ⟨q1, q2⟩ := ih _ _ _ _ h hl
              have hne : (fs.map mkC).length ≠ 512 := by
                have := congrArg List.length e
                simp only [List.length_append, List.length_singleton] at this
                rw [List.length_map]; omega
              rw [prog_more hT h0 hne (clause_fact hC hD)]
              rw [List.map_append, List.map_singleton] at q1
              exact ⟨q1, fun hg => q2 (fun a ha => (List.mem_append.1 ha).elim (hg a) (fun e => by simp only [List.mem_singleton] at e; subst e; exact (atom_val hC).2))⟩
theorem prog_len {c f : Int} : ∀ (n : Nat) (acc : List PCls) (R r : List Tok) (out : List PCls), progF c f n acc R = .ok out r → ∃ us, out = acc ++ us := by
  intro n
  induction n with
  | zero => intro acc R r out h; cases h
  | succ n ih =>
    intro acc R r out h
    cases hT : takeP c f [1, 0] R with
    | bad e1 e2 => rw [prog_bad1 hT] at h; cases h
    | ok t r1 =>
      by_cases h0 : t.k = 0
      · rw [prog_end hT h0] at h; injection h with e1 e2; subst e1; exact ⟨[], by simp⟩
      · by_cases h5 : acc.length = 512
        · rw [prog_lim hT h0 h5] at h; cases h
        · cases hC : clauseP c f t r1 with
          | bad e1 e2 => rw [prog_cls hT h0 h5 hC] at h; cases h
          | ok x r2 =>
            rw [prog_more hT h0 h5 hC] at h
            obtain ⟨us, e⟩ := ih _ _ _ _ h
            exact ⟨x :: us, by rw [e, List.append_assoc]; rfl⟩
theorem prog_most {c f : Int} : ∀ (n : Nat) (acc : List PCls) (R r : List Tok) (out : List PCls), acc.length ≤ 512 → progF c f n acc R = .ok out r → out.length ≤ 512 := by
  intro n
  induction n with
  | zero => intro acc R r out _ h; cases h
  | succ n ih =>
    intro acc R r out hl h
    cases hT : takeP c f [1, 0] R with
    | bad e1 e2 => rw [prog_bad1 hT] at h; cases h
    | ok t r1 =>
      by_cases h0 : t.k = 0
      · rw [prog_end hT h0] at h; injection h with e1 e2; subst e1; exact hl
      · by_cases h5 : acc.length = 512
        · rw [prog_lim hT h0 h5] at h; cases h
        · cases hC : clauseP c f t r1 with
          | bad e1 e2 => rw [prog_cls hT h0 h5 hC] at h; cases h
          | ok x r2 =>
            rw [prog_more hT h0 h5 hC] at h
            exact ih _ _ _ _ (by simp; omega) h
/-- A program of nothing but facts without variables is a facts text. -/
theorem prog_facts {c f : Int} : ∀ (n : Nat) (acc : List PCls) (R r : List Tok) (out : List PCls), acc.length ≤ 512 → progF c f n acc R = .ok out r → (∀ x ∈ out, gCls x = true) → factsF c f n (acc.map (·.h)) R = .ok (out.map (·.h)) r := by
  intro n
  induction n with
  | zero => intro acc R r out _ h; cases h
  | succ n ih =>
    intro acc R r out hl h hg
    cases hT : takeP c f [1, 0] R with
    | bad e1 e2 => rw [prog_bad1 hT] at h; cases h
    | ok t r1 =>
      by_cases h0 : t.k = 0
      · rw [prog_end hT h0] at h; injection h with e1 e2; subst e1 e2; exact facts_end hT h0
      · by_cases h5 : acc.length = 512
        · rw [prog_lim hT h0 h5] at h; cases h
        · cases hC : clauseP c f t r1 with
          | bad e1 e2 => rw [prog_cls hT h0 h5 hC] at h; cases h
          | ok x r2 =>
            rw [prog_more hT h0 h5 hC] at h
            obtain ⟨us, e⟩ := prog_len _ _ _ _ _ h
            obtain ⟨s, r4, q1, q2, q3⟩ := fact_clause hC (hg x (by rw [e]; simp))
            have := ih _ _ _ _ (by simp; omega) h hg
            rw [List.map_append, List.map_singleton] at this
            rw [facts_more hT h0 (by rw [List.length_map]; omega) q1 q2]
            exact this
end Go.Proofs.YtfbmddgjbmapiaaDoor

namespace Go.Proofs.YtfbmddgjbmapiaaDoor
set_option linter.unusedSimpArgs false
set_option linter.unusedVariables false
open Go.RowKit

def shT (d : Nat) (t : Tok) : Tok := ⟨t.k, t.t, t.n, t.op, d + t.off, d + t.en⟩
theorem end_tok {s : ByteArray} {o : Nat} {t : Tok} (ho : o ≤ s.size) (h : nextX s o = .tok t) (hk : t.k = 0) : t = endTok s.size ∧ gapW s o = (s.size, true) := by
  obtain ⟨h1, h2, -, h4⟩ := next_tok ho h
  have h5 : t.off = s.size := by rcases h4 with h | h <;> omega
  have hg : gapW s o = (s.size, true) := Prod.ext (by rw [← h2, h5]) h1
  rw [next_last s o ho hg] at h
  injection h with h
  exact ⟨h.symm, hg⟩
theorem gap_same {s s' : ByteArray} {o o' : Nat} (h : rest s' o' = rest s o) (hs : s'.size - o' = s.size - o) (ho : o ≤ s.size) (ho' : o' ≤ s'.size) (hg : gapW s o = (s.size, true)) : gapW s' o' = (s'.size, true) := by
  unfold gapW at hg ⊢
  rw [h]
  have e1 := congrArg Prod.fst hg
  have e2 := congrArg Prod.snd hg
  simp only at e1 e2
  exact Prod.ext (by simp only; omega) e2
theorem toks_shift {s s' : ByteArray} {d : Nat} (hr : ∀ o, rest s' (d + o) = rest s o) (hsz : s'.size = d + s.size) {o : Nat} {L : List Tok} {c : Int} {f : Nat} (h : Toks s o L c f) : ∃ c' f', Toks s' (d + o) (L.map (shT d)) c' f' ∧ (c = 0 → c' = 0) ∧ (c ≠ 0 → c' ≠ 0) := by
  induction h with
  | bad ho hx =>
    rename_i o c f
    cases hx' : nextX s' (d + o) with
    | bad c' f' => exact ⟨c', f', .bad (by omega) hx', fun h => by have := next_bad hx; omega, fun _ => by have := next_bad hx'; omega⟩
    | tok t =>
      exfalso
      by_cases hk : t.k = 0
      · obtain ⟨-, hg⟩ := end_tok (by omega) hx' hk
        have := gap_same (hr o).symm (by omega) (by omega) ho hg
        rw [next_last s o ho this] at hx
        cases hx
      · have := next_pre (s' := s) (o' := o) (by omega) hx' hk (fun i hi => by rw [hr]) (fun b hb => .inl (by rw [hr]; exact hb))
        rw [this] at hx
        cases hx
  | last ho hx hk =>
    rename_i o t
    obtain ⟨rfl, hg⟩ := end_tok ho hx hk
    have hg' := gap_same (hr o) (by omega) ho (by omega) hg
    refine ⟨0, 0, ?_, fun _ => rfl, fun h => absurd rfl h⟩
    have h2 := next_last s' (d + o) (by omega) hg'
    have e : shT d (endTok s.size) = endTok s'.size := by unfold shT endTok; rw [hsz]
    rw [List.map_singleton, e]
    exact .last (by omega) h2 rfl
  | more ho hx hk hT ih =>
    rename_i o t r c f
    obtain ⟨c', f', T, h1, h2⟩ := ih
    obtain ⟨-, -, h3, h4⟩ := next_tok ho hx
    have h5 : t.off < t.en := by rcases h4 with h | h <;> omega
    have := next_pre (s' := s') (o' := d + o) ho hx hk (fun i hi => by rw [hr]) (fun b hb => .inl (by rw [← hr]; exact hb))
    refine ⟨c', f', ?_, h1, h2⟩
    rw [List.map_cons]
    refine .more (by omega) (this.trans ?_) hk T
    unfold shT
    rw [show d + o + (t.off - o) = d + t.off by omega, show d + o + (t.en - o) = d + t.en by omega]
theorem toks_skip {s : ByteArray} {o : Nat} {L : List Tok} {c : Int} {f : Nat} (ho : o + 1 ≤ s.size) (hg : gapW s o = gapW s (o + 1)) (h : Toks s (o + 1) L c f) : Toks s o L c f := by
  have hn : nextX s o = nextX s (o + 1) := by unfold nextX; rw [hg]
  cases h with
  | bad h1 h2 => exact .bad (by omega) (hn.trans h2)
  | last h1 h2 h3 => exact .last (by omega) (hn.trans h2) h3
  | more h1 h2 h3 h4 => exact .more (by omega) (hn.trans h2) h3 h4

/-- The answers of a rule over tokens and over the same tokens further on. -/
def shTrm (d : Nat) (t : Trm) : Trm := ⟨t.k, t.n, t.s, t.off + d⟩
def shAt (d : Nat) (a : PAtom) : PAtom := ⟨a.p, a.ts.map (shTrm d), a.off + d⟩
def shLi (d : Nat) (x : PLit) : PLit := if x.k = 3 then ⟨x.k, x.a, x.op, shTrm d x.l, shTrm d x.r, x.off + d⟩ else ⟨x.k, shAt d x.a, x.op, x.l, x.r, x.off + d⟩
def RelP {α β : Type} (d : Nat) (g : α → β) : PR α → PR β → Prop
  | .bad _ _, .bad _ _ => True
  | .ok x r, .ok y q => y = g x ∧ q = r.map (shT d)
  | _, _ => False
theorem relP_bad {α β : Type} {d : Nat} {g : α → β} {c o : Int} {y : PR β} (h : RelP d g (.bad c o) y) : ∃ c' o', y = .bad c' o' := by
  cases y with
  | bad c' o' => exact ⟨_, _, rfl⟩
  | ok => exact h.elim
theorem relP_ok {α β : Type} {d : Nat} {g : α → β} {x : α} {r : List Tok} {y : PR β} (h : RelP d g (.ok x r) y) : y = .ok (g x) (r.map (shT d)) := by
  cases y with
  | bad => exact h.elim
  | ok z q => obtain ⟨rfl, rfl⟩ := h; rfl
theorem termP_sh (d : Nat) (t : Tok) : termP (shT d t) = shTrm d (termP t) := by unfold termP shT shTrm; simp; omega
section
variable {d : Nat} {c f c' f' : Int}
theorem take_sh (ks : List Int) (R : List Tok) : RelP d (shT d) (takeP c f ks R) (takeP c' f' ks (R.map (shT d))) := by
  cases R with
  | nil => trivial
  | cons t r =>
    rw [List.map_cons]
    unfold takeP
    show RelP d _ (if t.k ∈ ks then _ else _) (if t.k ∈ ks then _ else _)
    split
    · exact ⟨rfl, rfl⟩
    · trivial
theorem args_sh (ks : List Int) : ∀ (n : Nat) (acc : List Trm) (R : List Tok), R.length = n → RelP d (List.map (shTrm d)) (argsP c f ks acc R) (argsP c' f' ks (acc.map (shTrm d)) (R.map (shT d))) := by
  intro n
  induction n using Nat.strongRecOn with
  | ind n ih =>
    intro acc R hn
    match R, hn with
    | [], _ => trivial
    | [t], _ =>
      rw [List.map_singleton]
      unfold argsP
      show RelP d _ (if t.k ∈ ks then _ else _) (if t.k ∈ ks then _ else _)
      split
      · rw [List.length_map]
        split <;> trivial
      · trivial
    | t :: s :: r, hn =>
      rw [List.map_cons, List.map_cons]
      unfold argsP
      show RelP d _ (if t.k ∈ ks then _ else _) (if t.k ∈ ks then _ else _)
      split
      · rw [List.length_map]
        split
        · trivial
        · show RelP d _ (if s.k = 7 then _ else _) (if s.k = 7 then _ else _)
          split
          · have := ih r.length (by simp at hn; omega) (acc ++ [termP t]) r rfl
            rw [List.map_append, List.map_singleton, ← termP_sh] at this
            exact this
          · show RelP d _ (if s.k = 6 then _ else _) (if s.k = 6 then _ else _)
            split
            · exact ⟨by rw [List.map_append, List.map_singleton, ← termP_sh], rfl⟩
            · trivial
      · trivial
theorem atom_sh (ks : List Int) (name : Tok) (R : List Tok) : RelP d (shAt d) (atomP c f ks name R) (atomP c' f' ks (shT d name) (R.map (shT d))) := by
  cases R with
  | nil => trivial
  | cons t r =>
    rw [List.map_cons]
    unfold atomP
    show RelP d _ (if t.k = 5 then _ else _) (if t.k = 5 then _ else _)
    split
    · have h := args_sh (d := d) (c := c) (f := f) (c' := c') (f' := f') ks _ [] r rfl
      rw [List.map_nil] at h
      cases hA : argsP c f ks [] r with
      | bad x o =>
        rw [hA] at h
        obtain ⟨x', o', e⟩ := relP_bad h
        rw [e]; trivial
      | ok ts r' =>
        rw [hA] at h
        rw [relP_ok h]
        exact ⟨by unfold shAt shT; simp; omega, rfl⟩
    · exact ⟨by unfold shAt shT; simp; omega, rfl⟩
theorem lit_sh (first : Tok) (R : List Tok) : RelP d (shLi d) (litP c f first R) (litP c' f' (shT d first) (R.map (shT d))) := by
  have tst : RelP d (shLi d) (match takeP c f [11] R with
      | .bad c o => PR.bad c o
      | .ok o1 r' => match takeP c f termKs r' with
        | .bad c o => .bad c o
        | .ok t2 r'' => .ok (⟨3, zeroAtom, o1.op, termP first, termP t2, first.off⟩ : PLit) r'') (match takeP c' f' [11] (R.map (shT d)) with
      | .bad c o => PR.bad c o
      | .ok o1 r' => match takeP c' f' termKs r' with
        | .bad c o => .bad c o
        | .ok t2 r'' => .ok (⟨3, zeroAtom, o1.op, termP (shT d first), termP t2, (shT d first).off⟩ : PLit) r'') := by
    have h := take_sh (d := d) (c := c) (f := f) (c' := c') (f' := f') [11] R
    cases hA : takeP c f [11] R with
    | bad x o =>
      rw [hA] at h
      obtain ⟨x', o', e⟩ := relP_bad h
      rw [e]; trivial
    | ok o1 r' =>
      rw [hA] at h
      rw [relP_ok h]
      simp only
      have h2 := take_sh (d := d) (c := c) (f := f) (c' := c') (f' := f') termKs r'
      cases hB : takeP c f termKs r' with
      | bad x o =>
        rw [hB] at h2
        obtain ⟨x', o', e⟩ := relP_bad h2
        rw [e]; trivial
      | ok t2 r'' =>
        rw [hB] at h2
        rw [relP_ok h2]
        refine ⟨?_, rfl⟩
        rw [termP_sh, termP_sh]
        unfold shLi
        rw [if_pos rfl]
        unfold shT
        simp; omega
  unfold litP
  show RelP d _ (if first.k = 10 then _ else _) (if first.k = 10 then _ else _)
  split
  · have h := take_sh (d := d) (c := c) (f := f) (c' := c') (f' := f') [1] R
    cases hA : takeP c f [1] R with
    | bad x o =>
      rw [hA] at h
      obtain ⟨x', o', e⟩ := relP_bad h
      rw [e]; trivial
    | ok n r' =>
      rw [hA] at h
      rw [relP_ok h]
      simp only
      have h2 := atom_sh (d := d) (c := c) (f := f) (c' := c') (f' := f') termKs n r'
      cases hB : atomP c f termKs n r' with
      | bad x o =>
        rw [hB] at h2
        obtain ⟨x', o', e⟩ := relP_bad h2
        rw [e]; trivial
      | ok a r'' =>
        rw [hB] at h2
        rw [relP_ok h2]
        refine ⟨?_, rfl⟩
        unfold shLi
        rw [if_neg (show ¬ ((2 : Int) = 3) by decide)]
        unfold shT
        simp; omega
  · show RelP d _ (if first.k = 1 then _ else _) (if first.k = 1 then _ else _)
    split
    · cases R with
      | nil => trivial
      | cons t r =>
        rw [List.map_cons]
        show RelP d _ (if t.k = 11 then _ else _) (if t.k = 11 then _ else _)
        split
        · rw [List.map_cons] at tst
          exact tst
        · have h2 := atom_sh (d := d) (c := c) (f := f) (c' := c') (f' := f') termKs first (t :: r)
          rw [List.map_cons] at h2
          cases hB : atomP c f termKs first (t :: r) with
          | bad x o =>
            rw [hB] at h2
            obtain ⟨x', o', e⟩ := relP_bad h2
            rw [e]; trivial
          | ok a r'' =>
            rw [hB] at h2
            rw [relP_ok h2]
            refine ⟨?_, rfl⟩
            unfold shLi
            rw [if_neg (show ¬ ((1 : Int) = 3) by decide)]
            unfold shT
            simp; omega
    · exact tst
theorem body_sh : ∀ (n : Nat) (acc : List PLit) (R : List Tok), RelP d (List.map (shLi d)) (bodyF c f n acc R) (bodyF c' f' n (acc.map (shLi d)) (R.map (shT d)))
  | 0, acc, R => trivial
  | n + 1, acc, R => by
    unfold bodyF
    have h := take_sh (d := d) (c := c) (f := f) (c' := c') (f' := f') [1, 10, 2, 3, 4] R
    cases hA : takeP c f [1, 10, 2, 3, 4] R with
    | bad x o =>
      rw [hA] at h
      obtain ⟨x', o', e⟩ := relP_bad h
      rw [e]; trivial
    | ok t r =>
      rw [hA] at h
      rw [relP_ok h]
      simp only
      rw [List.length_map]
      split
      · trivial
      · have h2 := lit_sh (d := d) (c := c) (f := f) (c' := c') (f' := f') t r
        cases hB : litP c f t r with
        | bad x o =>
          rw [hB] at h2
          obtain ⟨x', o', e⟩ := relP_bad h2
          rw [e]; trivial
        | ok x r' =>
          rw [hB] at h2
          rw [relP_ok h2]
          simp only
          have h3 := take_sh (d := d) (c := c) (f := f) (c' := c') (f' := f') [7, 8] r'
          cases hC : takeP c f [7, 8] r' with
          | bad x o =>
            rw [hC] at h3
            obtain ⟨x', o', e⟩ := relP_bad h3
            rw [e]; trivial
          | ok s r'' =>
            rw [hC] at h3
            rw [relP_ok h3]
            simp only
            show RelP d _ (if s.k = 8 then _ else _) (if s.k = 8 then _ else _)
            split
            · exact ⟨by rw [List.map_append, List.map_singleton], rfl⟩
            · have := body_sh n (acc ++ [x]) r''
              rw [List.map_append, List.map_singleton] at this
              exact this
end
end Go.Proofs.YtfbmddgjbmapiaaDoor

namespace Go.Proofs.YtfbmddgjbmapiaaDoor
set_option linter.unusedSimpArgs false
set_option linter.unusedVariables false
open Go.RowKit

def dotL : List UInt8 := [10, 46]
theorem block_two (d : Nat) : blockC d [10, 46] = none := by
  rw [blockC_else (by rfl) (by rfl)]
  rfl
theorem block_dot : ∀ (n : Nat) (l : List UInt8) (d : Nat), l.length = n → blockC d l = none → blockC d (l ++ [10, 46]) = none := by
  intro n
  induction n using Nat.strongRecOn with
  | ind n ih =>
    intro l d hn h
    match l, hn, h with
    | [], _, _ => exact block_two d
    | [a], _, _ =>
      rw [show [a] ++ [10, 46] = [a, 10, 46] from rfl, blockC_else (by unfold opens; simp) (by unfold closes; simp)]
      show (blockC d [10, 46]).map _ = none
      rw [block_two]; rfl
    | a :: b :: r, hn, h =>
      have ho : opens (a :: b :: r ++ [10, 46]) = opens (a :: b :: r) := opens_append (by simp)
      have hc : closes (a :: b :: r ++ [10, 46]) = closes (a :: b :: r) := closes_append (by simp)
      cases hO : opens (a :: b :: r) with
      | true =>
        rw [blockC_open hO, Option.map_eq_none_iff] at h
        rw [blockC_open (ho.trans hO), Option.map_eq_none_iff]
        exact ih r.length (by simp at hn; omega) r (d + 1) rfl h
      | false =>
        cases hC : closes (a :: b :: r) with
        | true =>
          rw [blockC_close hC] at h
          rw [blockC_close (hc.trans hC)]
          split at h
          · cases h
          · rw [if_neg (by assumption), Option.map_eq_none_iff]
            rw [Option.map_eq_none_iff] at h
            exact ih r.length (by simp at hn; omega) r (d - 1) rfl h
        | false =>
          rw [blockC_else hO hC, Option.map_eq_none_iff] at h
          rw [blockC_else (ho.trans hO) (hc.trans hC), Option.map_eq_none_iff]
          exact ih (b :: r).length (by simp at hn ⊢; omega) (b :: r) d rfl h
theorem item_dot_stop {a : UInt8} {r : List UInt8} (h : item (a :: r) = .stop) : item (a :: r ++ [10, 46]) = .stop := by
  rw [List.cons_append, item_cons]
  rw [item_cons] at h
  split at h
  · cases h
  · rename_i h1
    split at h
    · cases h
    · rename_i h2
      split at h
      · split at h <;> cases h
      · rename_i h3
        rw [if_neg h1, if_neg h2, if_neg]
        cases r with
        | nil =>
          show ¬ opens [a, 10, 46] = true
          unfold opens; simp
        | cons b r =>
          rw [← List.cons_append, opens_append (by simp)]
          exact h3
theorem item_dot_bad {l : List UInt8} (h : item l = .bad) : item (l ++ [10, 46]) = .bad := by
  cases l with
  | nil => cases h
  | cons a r =>
    rw [List.cons_append, item_cons]
    rw [item_cons] at h
    split at h
    · cases h
    · rename_i h1
      split at h
      · cases h
      · rename_i h2
        split at h
        · rename_i h3
          have hl := opens_len h3
          rw [if_neg h1, if_neg h2, ← List.cons_append, opens_append hl, if_pos h3]
          cases hb : blockC 1 (r.drop 1) with
          | some k => rw [hb] at h; cases h
          | none =>
            have : (r ++ [10, 46]).drop 1 = r.drop 1 ++ [10, 46] := List.drop_append_of_le_length (by simp at hl; omega)
            rw [this, block_dot _ _ _ rfl hb]
        · cases h
theorem gap_dot_full {l : List UInt8} (h : gapN l = (l.length, true)) : gapN (l ++ [10, 46]) = (l.length + 1, true) := by
  have := gap_append [46] _ l rfl h
  rw [this]
  have e : gapN [10, 46] = (1, true) := by rw [gap_feed]; rw [gapN_stop (by rfl)]
  rw [e]
theorem gap_dot_part : ∀ (n : Nat) (l : List UInt8), l.length = n → gapN l ≠ (l.length, true) → gapN (l ++ [10, 46]) = gapN l := by
  intro n
  induction n using Nat.strongRecOn with
  | ind n ih =>
    intro l hn h
    cases hi : item l with
    | stop =>
      cases l with
      | nil => exact absurd (gapN_stop hi) h
      | cons a r => rw [gapN_stop hi, gapN_stop (item_dot_stop hi)]
    | bad => rw [gapN_bad hi, gapN_bad (item_dot_bad hi)]
    | go k =>
      by_cases hk : 0 < k ∧ k ≤ l.length
      · rw [gapN_go hi hk.1 hk.2]
        have hi2 : item (l ++ [10, 46]) = .go k := item_append hi
        rw [gapN_go hi2 hk.1 (by simp; omega), List.drop_append_of_le_length hk.2]
        have := ih (l.drop k).length (by simp; omega) (l.drop k) rfl (fun e => h ?_)
        · rw [this]
        · rw [gapN_go hi hk.1 hk.2, e]
          exact Prod.ext (by simp; omega) rfl
      · exfalso
        cases l with
        | nil => cases hi
        | cons a r =>
          apply hk
          rw [item_cons] at hi
          split at hi
          · injection hi with hi; subst hi; simp
          · split at hi
            · injection hi with hi
              have := lineC_le r
              simp only [List.length_cons]
              omega
            · split at hi
              · rename_i h3
                have hl := opens_len h3
                cases hb : blockC 1 (r.drop 1) with
                | none => rw [hb] at hi; cases hi
                | some j =>
                  rw [hb] at hi
                  injection hi with hi
                  have := blockC_le _ _ _ hb
                  simp only [List.length_drop, List.length_cons] at *
                  omega
              · cases hi
end Go.Proofs.YtfbmddgjbmapiaaDoor

namespace Go.Proofs.YtfbmddgjbmapiaaDoor
set_option linter.unusedSimpArgs false
set_option linter.unusedVariables false
open Go.RowKit

theorem byte_rest (s : ByteArray) (g i : Nat) : (rest s g)[i]? = s.data.toList[g + i]? := by unfold rest; rw [List.getElem?_drop]
theorem run_last {l : List UInt8} {m : Nat} (h : runC l = m) (hm : 0 < m) : l[m - 1]? ≠ some 10 := fun e => by
  have := ((runC_iff l m).1 h).2.1 (m - 1) 10 (by omega) e
  exact absurd this (by decide)
theorem textF_last (s : ByteArray) (o : Nat) : ∀ (n i : Nat) (vs : List Int) (t : Tok), s.size - i = n → textF s o i vs = .tok t → s.data.toList[t.en - 1]? ≠ some 10 := by
  intro n
  induction n using Nat.strongRecOn with
  | ind n ih =>
    intro i vs t hn h
    rw [textF] at h
    split at h
    · next hlt =>
      split at h
      · cases h
      · split at h
        · next h34 =>
          injection h with h; subst h
          intro e
          have h1 := first_byte s i hlt
          rw [byte_rest, Nat.add_zero] at h1
          simp only [Nat.add_sub_cancel] at e
          rw [h1] at e
          injection e with e
          rw [e] at h34
          exact absurd h34 (by decide)
        · split at h
          · split at h
            · cases h
            · split at h
              · cases h
              · exact ih _ (by omega) _ _ t rfl h
          · split at h
            · cases h
            · exact ih _ (by omega) _ _ t rfl h
    · cases h
theorem punct_last {s : ByteArray} {g : Nat} {t : Tok} (hg : g < s.size) (h : punctX s g = .tok t) : s.data.toList[t.en - 1]? ≠ some 10 ∧ (t.k = 8 → t.en = g + 1 ∧ s.data.toList[g]? = some 46) := by
  unfold punctX at h
  have hb := first_byte s g hg
  rw [byte_rest, Nat.add_zero] at hb
  have hb1 := byte_rest s (g + 1) 0
  rw [rest_cons s g hg, punct_two] at h
  cases hp : P2 s[g] (rest s (g + 1))[0]? with
  | none => rw [hp] at h; cases h
  | some x =>
    obtain ⟨n, k, op⟩ := x
    rw [hp] at h
    unfold punctOf at h
    injection h with h
    subst h
    have hf := P2_first hp
    simp only
    constructor
    · rcases P2_cases hp with ⟨rfl, -⟩ | ⟨rfl, -⟩
      · intro e
        rw [show g + 2 - 1 = g + 1 + 0 by omega, ← hb1] at e
        rw [e, P2_blank (by rfl) (by rfl)] at hp
        exact absurd (P1_one hp).1 (by decide)
      · intro e
        rw [show g + 1 - 1 = g by omega, hb] at e
        injection e with e
        rw [e] at hf
        exact absurd hf (by decide)
    · rintro rfl
      rcases P2_cases hp with ⟨rfl, -⟩ | ⟨rfl, h1⟩
      · exfalso
        unfold P2 at hp
        repeat' split at hp
        all_goals first | (cases hp; done) | skip
        exact absurd (P1_one hp).1 (by decide)
      · refine ⟨rfl, ?_⟩
        rw [hb]
        unfold P1 at h1
        repeat' split at h1
        all_goals first | (cases h1; done) | skip
        rename_i h46
        simp only [beq_iff_eq] at h46
        rw [h46]
theorem tok_last {s : ByteArray} {g : Nat} {t : Tok} (h : tokAt s g = .tok t) (hk : t.k ≠ 0) (hlt : g < t.en) : s.data.toList[t.en - 1]? ≠ some 10 ∧ (t.k = 8 → t.en = g + 1 ∧ s.data.toList[g]? = some 46) := by
  unfold tokAt at h
  by_cases h0 : g < s.size
  · rw [dif_pos h0] at h
    split at h
    · have he := wordX_len h
      have hr := run_last (l := rest s g) rfl (by omega)
      rw [byte_rest] at hr
      refine ⟨by rw [he, show g + runC (rest s g) - 1 = g + (runC (rest s g) - 1) by omega]; exact hr, fun h8 => ?_⟩
      exfalso
      unfold wordX at h
      simp only at h
      split at h
      · cases h
      · split at h
        · injection h with h; subst h; exact absurd h8 (by simp)
        · split at h <;> (injection h with h; subst h; exact absurd h8 (by simp))
    · split at h
      · next hbeg =>
        have he := intX_len h
        refine ⟨?_, fun h8 => ?_⟩
        · by_cases hm : 0 < runC (rest s (g + 1))
          · have hr := run_last (l := rest s (g + 1)) rfl hm
            rw [byte_rest] at hr
            rw [he, show g + (1 + runC (rest s (g + 1))) - 1 = g + 1 + (runC (rest s (g + 1)) - 1) by omega]
            exact hr
          · rw [he, show g + (1 + runC (rest s (g + 1))) - 1 = g by omega]
            intro e
            rw [beg_rest] at hbeg
            have h1 : (rest s g)[0]? = some 10 := by rw [byte_rest, Nat.add_zero]; exact e
            unfold begL at hbeg
            rw [h1] at hbeg
            exact absurd hbeg (by simp [bDig])
        · exfalso
          unfold intX at h
          split at h
          · injection h with h; subst h; exact absurd h8 (by simp)
          · cases h
      · split at h
        · refine ⟨textF_last s g _ _ _ _ rfl h, fun h8 => ?_⟩
          exfalso
          have := (textF_good s g _ _ _ _ rfl (by simp) h).1
          omega
        · exact punct_last h0 h
  · rw [dif_neg h0] at h
    injection h with h; subst h; exact absurd rfl hk
theorem next_at {s : ByteArray} {o : Nat} {t : Tok} (ho : o ≤ s.size) (h : nextX s o = .tok t) (hk : t.k ≠ 0) : tokAt s t.off = .tok t ∧ t.off < t.en ∧ t.en ≤ s.size := by
  obtain ⟨h1, h2, h3, h4⟩ := next_tok ho h
  have h5 : t.off < t.en ∧ t.en ≤ s.size := by rcases h4 with h | h <;> omega
  unfold nextX at h
  rw [if_pos h1, ← h2] at h
  exact ⟨h, h5⟩

def dotB : ByteArray := ⟨#[10, 46]⟩
theorem dot_size (s : ByteArray) : (s ++ dotB).size = s.size + 2 := by rw [ByteArray.size_append]; rfl
theorem dot_list (s : ByteArray) : (s ++ dotB).data.toList = s.data.toList ++ [10, 46] := by rw [ByteArray.data_append, Array.toList_append]; rfl
theorem len_list (s : ByteArray) : s.data.toList.length = s.size := rfl
theorem dot_rest (s : ByteArray) (o : Nat) (ho : o ≤ s.size) : rest (s ++ dotB) o = rest s o ++ [10, 46] := by
  unfold rest
  rw [dot_list, List.drop_append_of_le_length (by rw [len_list]; exact ho)]
theorem dot_pre (s : ByteArray) : Pre s (s ++ dotB) s.size where
  le := Nat.le_refl _
  le' := by rw [dot_size]; omega
  same i hi := by rw [dot_list, List.getElem?_append_left (by rw [len_list]; exact hi)]
  behind b hb := by
    rw [dot_list, List.getElem?_append_right (by rw [len_list]; exact Nat.le_refl _), len_list, Nat.sub_self] at hb
    exact .inr (.inl (Option.some.inj hb).symm)
theorem dot_pre' (s : ByteArray) : Pre (s ++ dotB) s s.size where
  le := by rw [dot_size]; omega
  le' := Nat.le_refl _
  same i hi := by rw [dot_list, List.getElem?_append_left (by rw [len_list]; exact hi)]
  behind b hb := by rw [List.getElem?_eq_none (by rw [len_list]; exact Nat.le_refl _)] at hb; cases hb
theorem gapN_le (s : ByteArray) (o : Nat) (ho : o ≤ s.size) : (gapN (rest s o)).1 ≤ s.size - o := by
  have := gapW_le s o ho
  unfold gapW at this
  simp only at this
  omega
theorem dot_at (s : ByteArray) : tokAt (s ++ dotB) (s.size + 1) = .tok ⟨8, ⟨#[]⟩, 0, 0, s.size + 1, s.size + 2⟩ := by
  have hlt : s.size + 1 < (s ++ dotB).size := by rw [dot_size]; omega
  have hr : rest (s ++ dotB) (s.size + 1) = [46] := by
    unfold rest
    rw [dot_list, ← len_list, List.drop_append]
    simp
  have hb : (s ++ dotB)[s.size + 1] = 46 := by
    have := first_byte (s ++ dotB) (s.size + 1) hlt
    rw [hr] at this
    exact (Option.some.inj this).symm
  unfold tokAt
  rw [dif_pos hlt, hb, beg_rest, hr]
  unfold punctX
  rw [hr]
  rfl
/-- The tokens stay, and the dot is one more. -/
theorem toks_dot {s : ByteArray} {o : Nat} {L : List Tok} {c : Int} {f : Nat} (h : Toks s o L c f) : ∀ X e, L = X ++ [e] → c = 0 → e.k = 0 → Toks (s ++ dotB) o (X ++ [⟨8, ⟨#[]⟩, 0, 0, s.size + 1, s.size + 2⟩, endTok (s.size + 2)]) 0 0 := by
  have hz := dot_size s
  induction h with
  | bad ho hx => intro X e he; exact absurd he (by simp)
  | last ho hx hk =>
    rename_i o t
    intro X e he _ _
    obtain rfl : X = [] := by
      cases X with
      | nil => rfl
      | cons a r => simp at he
    obtain ⟨-, hg⟩ := end_tok ho hx hk
    unfold gapW at hg
    have e1 : (gapN (rest s o)).1 = (rest s o).length := by have := congrArg Prod.fst hg; simp only at this; rw [rest_len]; omega
    have e2 : (gapN (rest s o)).2 = true := congrArg Prod.snd hg
    have hf := gap_dot_full (l := rest s o) (Prod.ext e1 e2)
    have hg' : gapW (s ++ dotB) o = (s.size + 1, true) := by
      unfold gapW
      rw [dot_rest s o ho, hf, rest_len]
      exact Prod.ext (by simp only; omega) rfl
    have hn : nextX (s ++ dotB) o = .tok ⟨8, ⟨#[]⟩, 0, 0, s.size + 1, s.size + 2⟩ := by
      unfold nextX
      rw [hg']
      simp only [if_true]
      exact dot_at s
    rw [List.nil_append]
    refine .more (by omega) hn (by show (8 : Int) ≠ 0; decide) ?_
    show Toks (s ++ dotB) (s.size + 2) _ 0 0
    have hl := next_last (s ++ dotB) (s.size + 2) (by omega) (by rw [gapW_end _ _ (by omega), hz])
    rw [hz] at hl
    exact .last (by omega) hl rfl
  | more ho hx hk hT ih =>
    rename_i o t r c f
    intro X e he hc hek
    cases X with
    | nil =>
      rw [List.nil_append] at he
      injection he with e1 e2
      subst e1
      exact absurd hek hk
    | cons a X =>
      rw [List.cons_append] at he
      injection he with e1 e2
      subst e1
      have hen := (next_at ho hx hk).2.2
      rw [List.cons_append]
      exact .more (by omega) ((dot_pre s).next ho hx hk hen).1 hk (ih X e e2 hc hek)
/-- And back. -/
theorem toks_undot {s : ByteArray} {o : Nat} {L : List Tok} {c : Int} {f : Nat} (h : Toks (s ++ dotB) o L c f) : ∀ X dot e, L = X ++ [dot, e] → c = 0 → dot.k = 8 → o ≤ s.size → Toks s o (X ++ [endTok s.size]) 0 0 := by
  have hz := dot_size s
  induction h with
  | bad ho hx => intro X dot e he; exact absurd he (by simp)
  | last ho hx hk =>
    intro X dot e he
    exfalso
    have := congrArg List.length he
    simp at this
  | more ho hx hk hT ih =>
    rename_i o t r c f
    intro X dot e he hc h8 ho2
    obtain ⟨ht, hoe, hen⟩ := next_at ho hx hk
    obtain ⟨hl1, hl2⟩ := tok_last ht hk hoe
    cases X with
    | nil =>
      rw [List.nil_append] at he
      injection he with e1 e2
      subst e1 e2
      obtain ⟨e3, e4⟩ := hl2 h8
      have hgap : gapW (s ++ dotB) t.en = ((s ++ dotB).size, true) := by
        cases hT with
        | last g1 g2 g3 => exact (end_tok g1 g2 g3).2
        | more g1 g2 g3 g4 => cases g4 with | bad _ g5 => have := next_bad g5; omega
      have hbig : s.size < t.en := by
        rcases Nat.lt_or_ge s.size t.en with hh | hh
        · exact hh
        exfalso
        unfold gapW at hgap
        rw [dot_rest s t.en hh] at hgap
        have g1 := congrArg Prod.fst hgap
        simp only at g1
        have hle := gapN_le s t.en hh
        by_cases hp : gapN (rest s t.en) = ((rest s t.en).length, true)
        · rw [gap_dot_full hp, rest_len] at g1
          simp only at g1
          omega
        · rw [gap_dot_part _ _ rfl hp] at g1
          omega
      have hoff : t.off = s.size + 1 := by
        have : t.off ≠ s.size := fun e5 => by
          rw [e5, dot_list, List.getElem?_append_right (by rw [len_list]; exact Nat.le_refl _), len_list, Nat.sub_self] at e4
          exact absurd e4 (by decide)
        omega
      obtain ⟨g1, g2, -, -⟩ := next_tok ho hx
      have hg : gapN (rest s o) = ((rest s o).length, true) := by
        by_cases hp : gapN (rest s o) = ((rest s o).length, true)
        · exact hp
        · exfalso
          unfold gapW at g2
          rw [dot_rest s o ho2, gap_dot_part _ _ rfl hp] at g2
          have hle := gapN_le s o ho2
          simp only at g2
          omega
      have hgs : gapW s o = (s.size, true) := by
        unfold gapW
        rw [hg, rest_len]
        exact Prod.ext (by simp only; omega) rfl
      exact .last ho2 (next_last s o ho2 hgs) rfl
    | cons a X =>
      rw [List.cons_append] at he
      injection he with e1 e2
      subst e1
      have h1 : t.en ≠ s.size + 1 := fun e5 => by
        apply hl1
        rw [e5, dot_list, Nat.add_sub_cancel, List.getElem?_append_right (by rw [len_list]; exact Nat.le_refl _), len_list, Nat.sub_self]
        rfl
      have h2 : t.en ≠ s.size + 2 := fun e5 => by
        have hn := next_last (s ++ dotB) t.en hen (by rw [gapW_end _ _ (by omega), show t.en = (s ++ dotB).size by omega])
        cases hT with
        | bad g1 g2 => rw [hn] at g2; cases g2
        | last g1 g2 g3 => exact absurd (congrArg List.length e2) (by simp)
        | more g1 g2 g3 g4 => rw [hn] at g2; injection g2 with g2; rw [← g2] at g3; exact g3 rfl
      have hen2 : t.en ≤ s.size := by omega
      rw [List.cons_append]
      exact .more ho2 ((dot_pre' s).next ho hx hk hen2).1 hk (ih X dot e e2 hc h8 hen2)
theorem toks_ended {s : ByteArray} {o : Nat} {L : List Tok} {c : Int} {f : Nat} (h : Toks s o L c f) : ∀ X e r, L = X ++ e :: r → e.k = 0 → r = [] ∧ c = 0 := by
  induction h with
  | bad ho hx => intro X e r he; exact absurd he (by simp)
  | last ho hx hk =>
    intro X e r he _
    cases X with
    | nil => rw [List.nil_append] at he; injection he with e1 e2; exact ⟨e2.symm, rfl⟩
    | cons a X => have := congrArg List.length he; simp at this
  | more ho hx hk hT ih =>
    intro X e r he hek
    cases X with
    | nil =>
      rw [List.nil_append] at he
      injection he with e1 e2
      rw [← e1] at hek
      exact absurd hek hk
    | cons a X =>
      rw [List.cons_append] at he
      injection he with e1 e2
      exact ih X e r e2 hek
end Go.Proofs.YtfbmddgjbmapiaaDoor

namespace Go.Proofs.YtfbmddgjbmapiaaDoor
set_option linter.unusedSimpArgs false
set_option linter.unusedVariables false
open Go.RowKit

def headB : ByteArray := ⟨#[104, 58, 45, 10]⟩
def tokH : Tok := ⟨1, ⟨#[104]⟩, 0, 0, 0, 1⟩
def tokA : Tok := ⟨9, ⟨#[]⟩, 0, 0, 1, 3⟩
theorem hb_h : nextX headB 0 = .tok tokH := by kernel_rfl
theorem hb_a : nextX headB 1 = .tok tokA := by kernel_rfl
theorem hb_size (s : ByteArray) : (headB ++ s).size = 4 + s.size := by rw [ByteArray.size_append]; rfl
theorem hb_rest (s : ByteArray) (o : Nat) : rest (headB ++ s) (4 + o) = rest s o := by
  unfold rest
  rw [ByteArray.data_append, Array.toList_append]
  show List.drop (4 + o) ([104, 58, 45, 10] ++ s.data.toList) = _
  rw [show 4 + o = ([104, 58, 45, 10] : List UInt8).length + o from rfl, List.drop_append]
  simp
theorem hb_rest3 (s : ByteArray) : rest (headB ++ s) 3 = 10 :: rest (headB ++ s) 4 := by
  unfold rest
  rw [ByteArray.data_append, Array.toList_append]
  rfl
theorem hb_pre (s : ByteArray) : Pre headB (headB ++ s) 3 where
  le := by decide
  le' := by rw [hb_size]; omega
  same i hi := by
    rw [ByteArray.data_append, Array.toList_append, List.getElem?_append_left (by show i < 4; omega)]
  behind b hb := by
    rw [ByteArray.data_append, Array.toList_append, List.getElem?_append_left (by show 3 < 4; omega)] at hb
    exact .inl hb
theorem hb_gap (s : ByteArray) : gapW (headB ++ s) 3 = gapW (headB ++ s) 4 := by
  refine gapW_go (headB ++ s) 3 1 ?_ (by omega) (by rw [hb_size]; omega)
  rw [hb_rest3]
  rfl
theorem hb_toks {s : ByteArray} {L : List Tok} {c : Int} {f : Nat} (h : Toks s 0 L c f) : ∃ c' f', Toks (headB ++ s) 0 (tokH :: tokA :: L.map (shT 4)) c' f' ∧ (c = 0 → c' = 0) ∧ (c ≠ 0 → c' ≠ 0) := by
  obtain ⟨c', f', T, h1, h2⟩ := toks_shift (s' := headB ++ s) (d := 4) (hb_rest s) (hb_size s) h
  have hz := hb_size s
  refine ⟨c', f', ?_, h1, h2⟩
  refine .more (by omega) ((hb_pre s).next (by decide) hb_h (by decide) (by decide)).1 (by decide) ?_
  show Toks (headB ++ s) 1 _ c' f'
  refine .more (by omega) ((hb_pre s).next (by decide) hb_a (by decide) (by decide)).1 (by decide) ?_
  show Toks (headB ++ s) 3 _ c' f'
  exact toks_skip (by omega) (hb_gap s) T
theorem hb_scan (s : ByteArray) (hs : s.size ≤ 65000) : ∃ c' f', scanX (headB ++ s) = (tokH :: tokA :: (scanX s).1.map (shT 4), c', f') := by
  obtain ⟨c', f', T, -, -⟩ := hb_toks (scan_toks s (by omega))
  exact ⟨c', f', scan_eq (by rw [hb_size]; omega) T⟩

theorem take_hit {c f : Int} {ks : List Int} {t : Tok} {r : List Tok} (h : t.k ∈ ks) : takeP c f ks (t :: r) = .ok t r := if_pos h
theorem take_got {c f : Int} {ks : List Int} {R r : List Tok} {t : Tok} (h : takeP c f ks R = .ok t r) : R = t :: r ∧ t.k ∈ ks := by
  cases R with
  | nil => cases h
  | cons u q =>
    by_cases hk : u.k ∈ ks
    · rw [take_hit hk] at h
      injection h with e1 e2
      subst e1 e2
      exact ⟨rfl, hk⟩
    · rw [show takeP c f ks (u :: q) = .bad (misK u.k) u.off from if_neg hk] at h
      cases h
def hdA : PAtom := ⟨⟨#[104]⟩, [], 0⟩
theorem clause_head (c f : Int) (R : List Tok) : clauseP c f tokH (tokA :: R) = match bodyP c f R with | .bad c o => .bad c o | .ok b r => .ok ⟨hdA, b⟩ r := rfl
theorem prog_head (c f : Int) (R : List Tok) : progP c f (tokH :: tokA :: R) = match bodyP c f R with | .bad c o => .bad c o | .ok b r => progF c f (R.length + 2) [⟨hdA, b⟩] r := by
  unfold progP
  rw [show (tokH :: tokA :: R).length + 1 = (R.length + 2) + 1 from rfl]
  show (match clauseP c f tokH (tokA :: R) with | .bad c o => PR.bad c o | .ok x r' => progF c f (R.length + 2) ([] ++ [x]) r') = _
  rw [clause_head]
  cases bodyP c f R <;> rfl
theorem prog_two {c f : Int} {n : Nat} {x : PCls} {R r : List Tok} {out : List PCls} (h : progF c f n [x] R = .ok out r) : (∃ t r', R = t :: r' ∧ t.k = 0 ∧ out = [x]) ∨ 2 ≤ out.length := by
  cases n with
  | zero => cases h
  | succ n =>
    unfold progF at h
    cases hT : takeP c f [1, 0] R with
    | bad a b => rw [hT] at h; cases h
    | ok t r1 =>
      rw [hT] at h
      simp only at h
      obtain ⟨rfl, -⟩ := take_got hT
      split at h
      · rename_i h0
        injection h with e1 e2
        exact .inl ⟨t, r1, rfl, h0, e1.symm⟩
      · rw [if_neg (by simp)] at h
        cases hC : clauseP c f t r1 with
        | bad a b => rw [hC] at h; cases h
        | ok y r3 =>
          rw [hC] at h
          obtain ⟨us, e⟩ := prog_len _ _ _ _ _ h
          right
          rw [e]; simp

/-- A query that is one, and the program of one clause. -/
theorem query_one {c f c' f' : Int} {L r : List Tok} {b : List PLit} (h : queryP c f L = .ok b r) : b ≠ [] ∧ ∃ q, progP c' f' (tokH :: tokA :: L.map (shT 4)) = .ok [⟨hdA, b.map (shLi 4)⟩] q := by
  unfold queryP at h
  cases hB : bodyP c f L with
  | bad x o => rw [hB] at h; cases h
  | ok b1 r1 =>
    rw [hB] at h
    simp only at h
    cases hT : takeP c f [0] r1 with
    | bad x o => rw [hT] at h; cases h
    | ok t r2 =>
      rw [hT] at h
      simp only [PR.ok.injEq] at h
      obtain ⟨rfl, rfl⟩ := h
      have hb2 := body_sh (d := 4) (c := c) (f := f) (c' := c') (f' := f') (L.length + 1) [] L
      unfold bodyP at hB
      rw [hB] at hb2
      have e := relP_ok hb2
      refine ⟨body_nonempty _ _ _ _ _ hB, ?_⟩
      rw [prog_head]
      unfold bodyP
      rw [List.length_map]
      rw [List.map_nil] at e
      rw [e]
      simp only
      obtain ⟨rfl, hu⟩ := take_got hT
      have hu0 : t.k = 0 := by simpa using hu
      refine ⟨r2.map (shT 4), ?_⟩
      show progF c' f' (L.length + 1 + 1) _ _ = _
      unfold progF
      rw [List.map_cons, take_hit (show (shT 4 t).k ∈ [1, 0] by show t.k ∈ [1, 0]; rw [hu0]; decide)]
      simp only
      rw [if_pos (show (shT 4 t).k = 0 from hu0)]
/-- A text that is no query, and the program of one clause. -/
theorem query_none {c f c' f' x o : Int} {L : List Tok} (h : queryP c f L = .bad x o) : (∃ x' o', progP c' f' (tokH :: tokA :: L.map (shT 4)) = .bad x' o') ∨ ∃ out q, progP c' f' (tokH :: tokA :: L.map (shT 4)) = .ok out q ∧ 2 ≤ out.length := by
  unfold queryP at h
  rw [prog_head]
  have hb2 := body_sh (d := 4) (c := c) (f := f) (c' := c') (f' := f') (L.length + 1) [] L
  rw [List.map_nil] at hb2
  cases hB : bodyP c f L with
  | bad y p =>
    unfold bodyP at hB ⊢
    rw [hB] at hb2
    obtain ⟨x', o', e⟩ := relP_bad hb2
    rw [List.length_map, e]
    exact .inl ⟨_, _, rfl⟩
  | ok b1 r1 =>
    rw [hB] at h
    simp only at h
    unfold bodyP at hB ⊢
    rw [hB] at hb2
    have e := relP_ok hb2
    rw [List.length_map, e]
    simp only
    cases hP : progF c' f' (L.length + 2) [⟨hdA, b1.map (shLi 4)⟩] (r1.map (shT 4)) with
    | bad a b => exact .inl ⟨_, _, rfl⟩
    | ok out q =>
      rcases prog_two hP with ⟨t, r', e1, e2, -⟩ | h2
      · exfalso
        cases r1 with
        | nil => cases e1
        | cons u r3 =>
          rw [List.map_cons] at e1
          injection e1 with e3 e4
          have hu : u.k = 0 := by rw [← e2, ← e3]; rfl
          rw [take_hit (by rw [hu]; decide)] at h
          cases h
      · exact .inr ⟨out, q, rfl, h2⟩
end Go.Proofs.YtfbmddgjbmapiaaDoor

namespace Go.Proofs.YtfbmddgjbmapiaaDoor
set_option linter.unusedSimpArgs false
set_option linter.unusedVariables false
open Go.RowKit

theorem args_rest {c f : Int} (ks : List Int) : ∀ (n : Nat) (acc : List Trm) (R r : List Tok) (ts : List Trm), R.length = n → argsP c f ks acc R = .ok ts r → ∃ X, R = X ++ r ∧ ∀ (c' f' : Int) (r' : List Tok), argsP c' f' ks acc (X ++ r') = .ok ts r' := by
  intro n
  induction n using Nat.strongRecOn with
  | ind n ih =>
    intro acc R r ts hn h
    match R, hn, h with
    | [], _, h => cases h
    | [t], _, h =>
      unfold argsP at h
      split at h
      · split at h <;> cases h
      · cases h
    | t :: s :: q, hn, h =>
      unfold argsP at h
      split at h
      · rename_i ht
        split at h
        · cases h
        · rename_i h8
          simp only at h
          split at h
          · rename_i h7
            obtain ⟨X, e, hX⟩ := ih q.length (by simp at hn; omega) _ q r ts rfl h
            refine ⟨t :: s :: X, by rw [e]; rfl, fun c' f' r' => ?_⟩
            rw [List.cons_append, List.cons_append]
            unfold argsP
            rw [if_pos ht, if_neg h8]
            simp only
            rw [if_pos h7]
            exact hX c' f' r'
          · rename_i h7
            split at h
            · rename_i h6
              injection h with e1 e2
              subst e1 e2
              refine ⟨[t, s], rfl, fun c' f' r' => ?_⟩
              rw [List.cons_append, List.cons_append, List.nil_append]
              unfold argsP
              rw [if_pos ht, if_neg h8]
              simp only
              rw [if_neg h7, if_pos h6]
            · cases h
      · cases h
theorem atom_rest {c f : Int} {ks : List Int} {name : Tok} {R r : List Tok} {a : PAtom} (h : atomP c f ks name R = .ok a r) : ∃ X, R = X ++ r ∧ ∀ (c' f' : Int) (t : Tok) (q : List Tok), t.k ≠ 5 → atomP c' f' ks name (X ++ t :: q) = .ok a (t :: q) := by
  cases R with
  | nil => cases h
  | cons t R =>
    change (if t.k = 5 then (match argsP c f ks [] R with | .bad c o => PR.bad c o | .ok ts r' => PR.ok (⟨name.t, ts, name.off⟩ : PAtom) r') else PR.ok (⟨name.t, [], name.off⟩ : PAtom) (t :: R)) = _ at h
    split at h
    · rename_i h5
      cases hA : argsP c f ks [] R with
      | bad x o => rw [hA] at h; cases h
      | ok ts r1 =>
        rw [hA] at h
        simp only [PR.ok.injEq] at h
        obtain ⟨e1, e2⟩ := h
        subst e1 e2
        obtain ⟨X, e, hX⟩ := args_rest ks _ [] R r1 ts rfl hA
        refine ⟨t :: X, by rw [e]; rfl, fun c' f' u q hu => ?_⟩
        rw [List.cons_append]
        refine (if_pos h5).trans ?_
        rw [hX c' f' (u :: q)]
    · injection h with e1 e2
      subst e1 e2
      refine ⟨[], rfl, fun c' f' u q hu => ?_⟩
      rw [List.nil_append]
      exact if_neg hu
theorem fact_facts {c f : Int} {L r : List Tok} {a : PAtom} (h : factP c f L = .ok a r) : ∃ X e, L = X ++ e :: r ∧ e.k = 0 ∧ ∀ (c' f' : Int) (dot e' : Tok), dot.k = 8 → e'.k = 0 → factsP c' f' (X ++ [dot, e']) = .ok [a] [] := by
  unfold factP at h
  cases hA : takeP c f [1] L with
  | bad x o => rw [hA] at h; cases h
  | ok t r1 =>
    rw [hA] at h
    simp only at h
    obtain ⟨rfl, ht⟩ := take_got hA
    have ht1 : t.k = 1 := by simpa using ht
    cases hB : atomP c f valueKs t r1 with
    | bad x o => rw [hB] at h; cases h
    | ok a1 r2 =>
      rw [hB] at h
      simp only at h
      cases hC : takeP c f [0] r2 with
      | bad x o => rw [hC] at h; cases h
      | ok e r3 =>
        rw [hC] at h
        simp only [PR.ok.injEq] at h
        obtain ⟨e1, e2⟩ := h
        subst e1 e2
        obtain ⟨rfl, he⟩ := take_got hC
        obtain ⟨X, e3, hX⟩ := atom_rest hB
        refine ⟨t :: X, e, by rw [e3]; rfl, by simpa using he, fun c' f' dot e' hd he' => ?_⟩
        unfold factsP
        rw [show (t :: X ++ [dot, e']).length + 1 = (X.length + 1) + 1 + 1 + 1 from by simp]
        rw [List.cons_append]
        show (match takeP c' f' [1, 0] (t :: (X ++ [dot, e'])) with
          | .bad c o => PR.bad c o
          | .ok t r => if t.k = 0 then .ok [] r else if ([] : List PAtom).length = 4096 then .bad 24 t.off else match atomP c' f' valueKs t r with
            | .bad c o => .bad c o
            | .ok x r' => match takeP c' f' [8] r' with
              | .bad c o => .bad c o
              | .ok _ r'' => factsF c' f' (X.length + 1 + 1 + 1) ([] ++ [x]) r'') = _
        rw [take_hit (by rw [ht1]; decide)]
        simp only
        rw [if_neg (by omega), if_neg (by simp), hX c' f' dot [e'] (by omega)]
        simp only
        rw [take_hit (by rw [hd]; decide)]
        simp only
        show (match takeP c' f' [1, 0] [e'] with
          | .bad c o => PR.bad c o
          | .ok t r => if t.k = 0 then .ok ([] ++ [a1]) r else _) = _
        rw [take_hit (by rw [he']; decide)]
        simp only
        rw [if_pos he']
        rfl
theorem facts_fact {c f : Int} {L r : List Tok} {a : PAtom} (h : factsP c f L = .ok [a] r) : ∃ X dot e, L = X ++ dot :: e :: r ∧ dot.k = 8 ∧ e.k = 0 ∧ ∀ (c' f' : Int) (e' : Tok), e'.k = 0 → factP c' f' (X ++ [e']) = .ok a [] := by
  unfold factsP at h
  rw [show L.length + 1 = Nat.succ L.length from rfl] at h
  unfold factsF at h
  cases hA : takeP c f [1, 0] L with
  | bad x o => rw [hA] at h; cases h
  | ok t r1 =>
    rw [hA] at h
    simp only at h
    obtain ⟨rfl, ht⟩ := take_got hA
    split at h
    · injection h with e1 e2; cases e1
    · rename_i h0
      have ht1 : t.k = 1 := by simp at ht; omega
      rw [if_neg (by simp)] at h
      cases hB : atomP c f valueKs t r1 with
      | bad x o => rw [hB] at h; cases h
      | ok a1 r2 =>
        rw [hB] at h
        simp only at h
        cases hC : takeP c f [8] r2 with
        | bad x o => rw [hC] at h; cases h
        | ok dot r3 =>
          rw [hC] at h
          simp only at h
          obtain ⟨rfl, hd⟩ := take_got hC
          obtain ⟨X, e3, hX⟩ := atom_rest hB
          have hd8 : dot.k = 8 := by simpa using hd
          rw [List.nil_append] at h
          obtain ⟨e, q, he, hek, hq⟩ : ∃ e q, r3 = e :: q ∧ e.k = 0 ∧ PR.ok [a1] q = PR.ok [a] r := by
            cases hn : (t :: r1).length with
            | zero => simp at hn
            | succ n =>
              rw [hn] at h
              unfold factsF at h
              cases hE : takeP c f [1, 0] r3 with
              | bad x o => rw [hE] at h; cases h
              | ok e q =>
                rw [hE] at h
                simp only at h
                obtain ⟨rfl, hee⟩ := take_got hE
                split at h
                · rename_i h00; exact ⟨e, q, rfl, h00, h⟩
                · exfalso
                  rw [if_neg (by simp)] at h
                  cases hF : atomP c f valueKs e q with
                  | bad x o => rw [hF] at h; cases h
                  | ok a2 r5 =>
                    rw [hF] at h
                    simp only at h
                    cases hG : takeP c f [8] r5 with
                    | bad x o => rw [hG] at h; cases h
                    | ok d2 r6 =>
                      rw [hG] at h
                      simp only at h
                      obtain ⟨us, e9⟩ := facts_more_len _ _ _ _ _ h
                      have := congrArg List.length e9
                      simp at this
          injection hq with q1 q2
          injection q1 with q1
          subst q1 q2
          refine ⟨t :: X, dot, e, by rw [e3, he]; rfl, hd8, hek, fun c' f' e' he' => ?_⟩
          unfold factP
          rw [List.cons_append, take_hit (by rw [ht1]; decide)]
          simp only
          rw [hX c' f' e' [] (by omega)]
          simp only
          rw [take_hit (by rw [he']; decide)]
theorem one_yes {s : ByteArray} (hs : s.size ≤ 65000) {a : PAtom} {r : List Tok} (h : factP (scanX s).2.1 ((scanX s).2.2 : Int) (scanX s).1 = .ok a r) : factsP (scanX (s ++ dotB)).2.1 ((scanX (s ++ dotB)).2.2 : Int) (scanX (s ++ dotB)).1 = .ok [a] [] := by
  obtain ⟨X, e, hL, he, hX⟩ := fact_facts h
  have T := scan_toks s (by omega)
  obtain ⟨rfl, hc⟩ := toks_ended T X e r hL he
  have T2 := toks_dot T X e hL hc he
  have hz := dot_size s
  rw [scan_eq (by omega) T2]
  exact hX _ _ _ _ rfl rfl
theorem one_no {s : ByteArray} (hs : s.size ≤ 65000) {x o : Int} (h : factP (scanX s).2.1 ((scanX s).2.2 : Int) (scanX s).1 = .bad x o) {out : List PAtom} {r : List Tok} (hF : factsP (scanX (s ++ dotB)).2.1 ((scanX (s ++ dotB)).2.2 : Int) (scanX (s ++ dotB)).1 = .ok out r) : out.length ≠ 1 := fun hl => by
  obtain ⟨a, rfl⟩ := List.length_eq_one_iff.1 hl
  obtain ⟨X, dot, e, hL, hd, he, hX⟩ := facts_fact hF
  have hz := dot_size s
  have T := scan_toks (s ++ dotB) (by omega)
  obtain ⟨rfl, hc⟩ := toks_ended T (X ++ [dot]) e r (by rw [hL]; simp) he
  have T2 := toks_undot T X dot e hL hc hd (by omega)
  rw [scan_eq (by omega) T2, hX 0 _ (endTok s.size) rfl] at h
  cases h
end Go.Proofs.YtfbmddgjbmapiaaDoor

namespace Go.Proofs.YtfbmddgjbmapiaaDoor
set_option linter.unusedSimpArgs false
set_option linter.unusedVariables false
open Go.RowKit

def shN (d : Nat) : Nx → Nx
  | .tok t => .tok (shT d t)
  | .bad c f => .bad c (d + f)
section
variable {s s' : ByteArray} {d : Nat}
theorem ag_rfl {l l' : List UInt8} (h : l' = l) (n : Nat) : Agree l l' n := by subst h; exact fun i _ => rfl
theorem byte_sh (hr : ∀ o, rest s' (d + o) = rest s o) {g : Nat} (h : g < s.size) (h' : d + g < s'.size) : s'[d + g] = s[g] := by
  have e1 := first_byte s g h
  have e2 := first_byte s' (d + g) h'
  rw [hr, e1] at e2
  exact (Option.some.inj e2).symm
theorem word_sh (hr : ∀ o, rest s' (d + o) = rest s o) (g : Nat) : wordX s' (d + g) = shN d (wordX s g) := by
  have hx := extract_pre (g := g) (g' := d + g) (n := runC (rest s g)) (ag_rfl (hr g) _)
  unfold wordX
  simp only
  rw [hr, hx]
  generalize runC (rest s g) = m at *
  split
  · rfl
  · split
    · show Nx.tok _ = Nx.tok (shT d _); unfold shT; simp only [Nat.add_assoc]
    · split
      · show Nx.tok _ = Nx.tok (shT d _); unfold shT; simp only [Nat.add_assoc]
      · show Nx.tok _ = Nx.tok (shT d _); unfold shT; simp only [Nat.add_assoc]
theorem int_sh (hr : ∀ o, rest s' (d + o) = rest s o) (g : Nat) : intX s' (d + g) = shN d (intX s g) := by
  have hx := extract_pre (g := g) (g' := d + g) (n := 1 + runC (rest s (g + 1))) (ag_rfl (hr g) _)
  have h1 := hr (g + 1)
  rw [← Nat.add_assoc] at h1
  unfold intX
  rw [h1]
  rw [show d + g + 1 + runC (rest s (g + 1)) = d + g + (1 + runC (rest s (g + 1))) by omega, hx, show g + 1 + runC (rest s (g + 1)) = g + (1 + runC (rest s (g + 1))) by omega]
  cases hP : Lib.parseIntB 64 (s.extract g (g + (1 + runC (rest s (g + 1))))).data.toList with
  | ok v => show Nx.tok _ = Nx.tok (shT d _); unfold shT; simp only [Nat.add_assoc]
  | _ => rfl
theorem esc_sh (hr : ∀ o, rest s' (d + o) = rest s o) (i : Nat) : s'.extract (d + i) s'.size = s.extract i s.size := by
  have e : (s'.extract (d + i) s'.size).data.toList = (s.extract i s.size).data.toList := by rw [extract_rest, extract_rest, hr]
  have e2 := congrArg List.toArray e
  simp only [Array.toArray_toList] at e2
  exact congrArg ByteArray.mk e2
theorem textF_sh (hr : ∀ o, rest s' (d + o) = rest s o) (hsz : s'.size = d + s.size) (o : Nat) : ∀ (n i : Nat) (vs : List Int), s.size - i = n → textF s' (d + o) (d + i) vs = shN d (textF s o i vs) := by
  intro n
  induction n using Nat.strongRecOn with
  | ind n ih =>
    intro i vs hn
    conv => lhs; rw [textF]
    conv => rhs; rw [textF]
    by_cases hlt : i < s.size
    · have hlt' : d + i < s'.size := by omega
      rw [dif_pos hlt, dif_pos hlt', byte_sh hr hlt hlt', esc_sh hr i]
      split
      · rfl
      · split
        · show Nx.tok _ = Nx.tok (shT d _); unfold shT; simp only [Nat.add_assoc]
        · split
          · split
            · rfl
            · split
              · rfl
              · have := ih (s.size - (i + (escX (s.extract i s.size)).2.toNat)) (by omega) _ (vs ++ [(escX (s.extract i s.size)).1]) rfl
                rw [← Nat.add_assoc] at this
                exact this
          · split
            · rfl
            · have := ih (s.size - (i + 1)) (by omega) _ (vs ++ [(s[i].toNat : Int)]) rfl
              rw [← Nat.add_assoc] at this
              exact this
    · rw [dif_neg hlt, dif_neg (by omega)]
      rfl
theorem tokAt_sh (hr : ∀ o, rest s' (d + o) = rest s o) (hsz : s'.size = d + s.size) (g : Nat) : tokAt s' (d + g) = shN d (tokAt s g) := by
  unfold tokAt
  by_cases hlt : g < s.size
  · have hlt' : d + g < s'.size := by omega
    rw [dif_pos hlt, dif_pos hlt', byte_sh hr hlt hlt', beg_rest, beg_rest, hr]
    split
    · exact word_sh hr g
    · split
      · exact int_sh hr g
      · split
        · unfold textX
          rw [Nat.add_assoc]
          exact textF_sh hr hsz g _ (g + 1) [] rfl
        · unfold punctX
          rw [hr]
          cases punctL marksT (rest s g) with
          | none => rfl
          | some x => obtain ⟨n, k, op⟩ := x; show Nx.tok _ = Nx.tok (shT d _); unfold shT; simp only [Nat.add_assoc]
  · rw [dif_neg hlt, dif_neg (by omega)]
    rfl
theorem next_sh (hr : ∀ o, rest s' (d + o) = rest s o) (hsz : s'.size = d + s.size) (o : Nat) : nextX s' (d + o) = shN d (nextX s o) := by
  have hg : gapW s' (d + o) = (d + (gapW s o).1, (gapW s o).2) := by unfold gapW; rw [hr]; simp only [Nat.add_assoc]
  unfold nextX
  rw [hg]
  simp only
  split
  · exact tokAt_sh hr hsz _
  · rfl
theorem toks_x (hr : ∀ o, rest s' (d + o) = rest s o) (hsz : s'.size = d + s.size) {o : Nat} {L : List Tok} {c : Int} {f : Nat} (h : Toks s o L c f) : Toks s' (d + o) (L.map (shT d)) c (if c = 0 then 0 else d + f) := by
  induction h with
  | bad ho hx =>
    rename_i o c f
    have hc := next_bad hx
    have := next_sh hr hsz o
    rw [hx] at this
    rw [if_neg (by omega)]
    exact .bad (by omega) this
  | last ho hx hk =>
    rename_i o t
    have := next_sh hr hsz o
    rw [hx] at this
    rw [if_pos rfl]
    exact .last (by omega) this hk
  | more ho hx hk hT ih =>
    rename_i o t r c f
    have := next_sh hr hsz o
    rw [hx] at this
    exact .more (by omega) this hk ih
end
def nlB : ByteArray := ⟨#[10]⟩
theorem nl_list (a b : ByteArray) : (a ++ nlB ++ b).data.toList = a.data.toList ++ 10 :: b.data.toList := by
  rw [ByteArray.data_append, ByteArray.data_append, Array.toList_append, Array.toList_append, List.append_assoc]; rfl
theorem nl_size (a b : ByteArray) : (a ++ nlB ++ b).size = a.size + 1 + b.size := by rw [ByteArray.size_append, ByteArray.size_append]; rfl
theorem nl_rest (a b : ByteArray) (o : Nat) : rest (a ++ nlB ++ b) (a.size + 1 + o) = rest b o := by
  unfold rest
  rw [nl_list, ← len_list, show a.data.toList.length + 1 + o = a.data.toList.length + (1 + o) by omega, List.drop_append]
  simp [Nat.add_comm 1 o]
theorem nl_rest0 (a b : ByteArray) (o : Nat) (ho : o ≤ a.size) : rest (a ++ nlB ++ b) o = rest a o ++ 10 :: b.data.toList := by
  unfold rest
  rw [nl_list, List.drop_append_of_le_length (by rw [len_list]; exact ho)]
/-- A text without a fault, a line feed and another text: the tokens of both. -/
theorem toks_join (a b : ByteArray) {L : List Tok} {c : Int} {f : Nat} (hB : Toks b 0 L c f) {o : Nat} {K : List Tok} {c0 : Int} {f0 : Nat} (h : Toks a o K c0 f0) : ∀ X e, K = X ++ [e] → c0 = 0 → e.k = 0 → Toks (a ++ nlB ++ b) o (X ++ L.map (shT (a.size + 1))) c (if c = 0 then 0 else a.size + 1 + f) := by
  have hz := nl_size a b
  have hB' := toks_x (d := a.size + 1) (nl_rest a b) hz hB
  rw [Nat.add_zero] at hB'
  induction h with
  | bad ho hx => intro X e he; exact absurd he (by simp)
  | last ho hx hk =>
    rename_i o t
    intro X e he _ _
    obtain rfl : X = [] := by
      cases X with
      | nil => rfl
      | cons a r => simp at he
    rw [List.nil_append]
    obtain ⟨-, hg⟩ := end_tok ho hx hk
    unfold gapW at hg
    have e1 : (gapN (rest a o)).1 = (rest a o).length := by have := congrArg Prod.fst hg; simp only at this; rw [rest_len]; omega
    have e2 : (gapN (rest a o)).2 = true := congrArg Prod.snd hg
    have hgap : gapW (a ++ nlB ++ b) o = gapW (a ++ nlB ++ b) (a.size + 1) := by
      have hl : (rest a o).length = a.size - o := rest_len a o
      have h1 := gap_append b.data.toList _ (rest a o) rfl (Prod.ext e1 e2)
      unfold gapW
      rw [nl_rest0 a b o ho, h1, gap_feed, show rest (a ++ nlB ++ b) (a.size + 1) = b.data.toList from (nl_rest a b 0).trans (by unfold rest; simp)]
      refine Prod.ext ?_ rfl
      simp only [hl]
      omega
    have hn : nextX (a ++ nlB ++ b) o = nextX (a ++ nlB ++ b) (a.size + 1) := by unfold nextX; rw [hgap]
    generalize L.map (shT (a.size + 1)) = L' at hB' ⊢
    generalize (if c = 0 then 0 else a.size + 1 + f) = f' at hB' ⊢
    cases hB' with
    | bad h1 h2 => exact .bad (by omega) (hn.trans h2)
    | last h1 h2 h3 => exact .last (by omega) (hn.trans h2) h3
    | more h1 h2 h3 h4 => exact .more (by omega) (hn.trans h2) h3 h4
  | more ho hx hk hT ih =>
    rename_i o t r c f
    intro X e he hc hek
    cases X with
    | nil =>
      rw [List.nil_append] at he
      injection he with e1 e2
      subst e1
      exact absurd hek hk
    | cons x X =>
      rw [List.cons_append] at he
      injection he with e1 e2
      subst e1
      have hen := (next_at ho hx hk).2.2
      rw [List.cons_append]
      exact .more (by omega) ((pre_append a b).next ho hx hk hen).1 hk (ih X e e2 hc hek)
end Go.Proofs.YtfbmddgjbmapiaaDoor

namespace Go.Proofs.YtfbmddgjbmapiaaDoor
set_option linter.unusedSimpArgs false
set_option linter.unusedVariables false
open Go.RowKit

def RelX {α β : Type} (d : Nat) (g : α → β) : PR α → PR β → Prop
  | .bad c o, .bad c' o' => c' = c ∧ (c ≠ 0 → o' = o + d)
  | .ok x r, .ok y q => y = g x ∧ q = r.map (shT d)
  | _, _ => False
theorem relX_bad {α β : Type} {d : Nat} {g : α → β} {c o : Int} {y : PR β} (h : RelX d g (.bad c o) y) : ∃ o', y = .bad c o' ∧ (c ≠ 0 → o' = o + d) := by
  cases y with
  | bad c' o' => obtain ⟨rfl, h⟩ := h; exact ⟨o', rfl, h⟩
  | ok => exact h.elim
theorem relX_ok {α β : Type} {d : Nat} {g : α → β} {x : α} {r : List Tok} {y : PR β} (h : RelX d g (.ok x r) y) : y = .ok (g x) (r.map (shT d)) := by
  cases y with
  | bad => exact h.elim
  | ok z q => obtain ⟨rfl, rfl⟩ := h; rfl
def shCl (d : Nat) (x : PCls) : PCls := ⟨shAt d x.h, x.b.map (shLi d)⟩
section
variable {d : Nat} {c f f' : Int}
theorem take_x (hE : c ≠ 0 → f' = f + d) (ks : List Int) (R : List Tok) : RelX d (shT d) (takeP c f ks R) (takeP c f' ks (R.map (shT d))) := by
  cases R with
  | nil => (first | exact ⟨rfl, hE⟩ | (refine ⟨rfl, fun _ => ?_⟩; simp [shT]; omega))
  | cons t r =>
    rw [List.map_cons]
    unfold takeP
    show RelX d _ (if t.k ∈ ks then _ else _) (if t.k ∈ ks then _ else _)
    split
    · exact ⟨rfl, rfl⟩
    · (first | exact ⟨rfl, hE⟩ | (refine ⟨rfl, fun _ => ?_⟩; simp [shT]; omega))
theorem args_x (hE : c ≠ 0 → f' = f + d) (ks : List Int) : ∀ (n : Nat) (acc : List Trm) (R : List Tok), R.length = n → RelX d (List.map (shTrm d)) (argsP c f ks acc R) (argsP c f' ks (acc.map (shTrm d)) (R.map (shT d))) := by
  intro n
  induction n using Nat.strongRecOn with
  | ind n ih =>
    intro acc R hn
    match R, hn with
    | [], _ => (first | exact ⟨rfl, hE⟩ | (refine ⟨rfl, fun _ => ?_⟩; simp [shT]; omega))
    | [t], _ =>
      rw [List.map_singleton]
      unfold argsP
      show RelX d _ (if t.k ∈ ks then _ else _) (if t.k ∈ ks then _ else _)
      split
      · rw [List.length_map]
        split <;> (first | exact ⟨rfl, hE⟩ | (refine ⟨rfl, fun _ => ?_⟩; simp [shT]; omega))
      · (first | exact ⟨rfl, hE⟩ | (refine ⟨rfl, fun _ => ?_⟩; simp [shT]; omega))
    | t :: s :: r, hn =>
      rw [List.map_cons, List.map_cons]
      unfold argsP
      show RelX d _ (if t.k ∈ ks then _ else _) (if t.k ∈ ks then _ else _)
      split
      · rw [List.length_map]
        split
        · (first | exact ⟨rfl, hE⟩ | (refine ⟨rfl, fun _ => ?_⟩; simp [shT]; omega))
        · show RelX d _ (if s.k = 7 then _ else _) (if s.k = 7 then _ else _)
          split
          · have := ih r.length (by simp at hn; omega) (acc ++ [termP t]) r rfl
            rw [List.map_append, List.map_singleton, ← termP_sh] at this
            exact this
          · show RelX d _ (if s.k = 6 then _ else _) (if s.k = 6 then _ else _)
            split
            · exact ⟨by rw [List.map_append, List.map_singleton, ← termP_sh], rfl⟩
            · (first | exact ⟨rfl, hE⟩ | (refine ⟨rfl, fun _ => ?_⟩; simp [shT]; omega))
      · (first | exact ⟨rfl, hE⟩ | (refine ⟨rfl, fun _ => ?_⟩; simp [shT]; omega))
theorem atom_x (hE : c ≠ 0 → f' = f + d) (ks : List Int) (name : Tok) (R : List Tok) : RelX d (shAt d) (atomP c f ks name R) (atomP c f' ks (shT d name) (R.map (shT d))) := by
  cases R with
  | nil => (first | exact ⟨rfl, hE⟩ | (refine ⟨rfl, fun _ => ?_⟩; simp [shT]; omega))
  | cons t r =>
    rw [List.map_cons]
    unfold atomP
    show RelX d _ (if t.k = 5 then _ else _) (if t.k = 5 then _ else _)
    split
    · have h := args_x (d := d) hE ks _ [] r rfl
      rw [List.map_nil] at h
      cases hA : argsP c f ks [] r with
      | bad x o =>
        rw [hA] at h
        obtain ⟨o', e, he⟩ := relX_bad h; rw [e]; exact ⟨rfl, he⟩
      | ok ts r' =>
        rw [hA] at h
        rw [relX_ok h]
        exact ⟨by unfold shAt shT; simp; omega, rfl⟩
    · exact ⟨by unfold shAt shT; simp; omega, rfl⟩
theorem lit_x (hE : c ≠ 0 → f' = f + d) (first : Tok) (R : List Tok) : RelX d (shLi d) (litP c f first R) (litP c f' (shT d first) (R.map (shT d))) := by
  have tst : RelX d (shLi d) (match takeP c f [11] R with
      | .bad c o => PR.bad c o
      | .ok o1 r' => match takeP c f termKs r' with
        | .bad c o => .bad c o
        | .ok t2 r'' => .ok (⟨3, zeroAtom, o1.op, termP first, termP t2, first.off⟩ : PLit) r'') (match takeP c f' [11] (R.map (shT d)) with
      | .bad c o => PR.bad c o
      | .ok o1 r' => match takeP c f' termKs r' with
        | .bad c o => .bad c o
        | .ok t2 r'' => .ok (⟨3, zeroAtom, o1.op, termP (shT d first), termP t2, (shT d first).off⟩ : PLit) r'') := by
    have h := take_x (d := d) hE [11] R
    cases hA : takeP c f [11] R with
    | bad x o =>
      rw [hA] at h
      obtain ⟨o', e, he⟩ := relX_bad h; rw [e]; exact ⟨rfl, he⟩
    | ok o1 r' =>
      rw [hA] at h
      rw [relX_ok h]
      simp only
      have h2 := take_x (d := d) hE termKs r'
      cases hB : takeP c f termKs r' with
      | bad x o =>
        rw [hB] at h2
        obtain ⟨o', e, he⟩ := relX_bad h2; rw [e]; exact ⟨rfl, he⟩
      | ok t2 r'' =>
        rw [hB] at h2
        rw [relX_ok h2]
        refine ⟨?_, rfl⟩
        rw [termP_sh, termP_sh]
        unfold shLi
        rw [if_pos rfl]
        unfold shT
        simp; omega
  unfold litP
  show RelX d _ (if first.k = 10 then _ else _) (if first.k = 10 then _ else _)
  split
  · have h := take_x (d := d) hE [1] R
    cases hA : takeP c f [1] R with
    | bad x o =>
      rw [hA] at h
      obtain ⟨o', e, he⟩ := relX_bad h; rw [e]; exact ⟨rfl, he⟩
    | ok n r' =>
      rw [hA] at h
      rw [relX_ok h]
      simp only
      have h2 := atom_x (d := d) hE termKs n r'
      cases hB : atomP c f termKs n r' with
      | bad x o =>
        rw [hB] at h2
        obtain ⟨o', e, he⟩ := relX_bad h2; rw [e]; exact ⟨rfl, he⟩
      | ok a r'' =>
        rw [hB] at h2
        rw [relX_ok h2]
        refine ⟨?_, rfl⟩
        unfold shLi
        rw [if_neg (show ¬ ((2 : Int) = 3) by decide)]
        unfold shT
        simp; omega
  · show RelX d _ (if first.k = 1 then _ else _) (if first.k = 1 then _ else _)
    split
    · cases R with
      | nil => (first | exact ⟨rfl, hE⟩ | (refine ⟨rfl, fun _ => ?_⟩; simp [shT]; omega))
      | cons t r =>
        rw [List.map_cons]
        show RelX d _ (if t.k = 11 then _ else _) (if t.k = 11 then _ else _)
        split
        · rw [List.map_cons] at tst
          exact tst
        · have h2 := atom_x (d := d) hE termKs first (t :: r)
          rw [List.map_cons] at h2
          cases hB : atomP c f termKs first (t :: r) with
          | bad x o =>
            rw [hB] at h2
            obtain ⟨o', e, he⟩ := relX_bad h2; rw [e]; exact ⟨rfl, he⟩
          | ok a r'' =>
            rw [hB] at h2
            rw [relX_ok h2]
            refine ⟨?_, rfl⟩
            unfold shLi
            rw [if_neg (show ¬ ((1 : Int) = 3) by decide)]
            unfold shT
            simp; omega
    · exact tst
theorem body_x (hE : c ≠ 0 → f' = f + d) : ∀ (n : Nat) (acc : List PLit) (R : List Tok), RelX d (List.map (shLi d)) (bodyF c f n acc R) (bodyF c f' n (acc.map (shLi d)) (R.map (shT d)))
  | 0, acc, R => by (first | exact ⟨rfl, hE⟩ | (refine ⟨rfl, fun _ => ?_⟩; simp [shT]; omega))
  | n + 1, acc, R => by
    unfold bodyF
    have h := take_x (d := d) hE [1, 10, 2, 3, 4] R
    cases hA : takeP c f [1, 10, 2, 3, 4] R with
    | bad x o =>
      rw [hA] at h
      obtain ⟨o', e, he⟩ := relX_bad h; rw [e]; exact ⟨rfl, he⟩
    | ok t r =>
      rw [hA] at h
      rw [relX_ok h]
      simp only
      rw [List.length_map]
      split
      · (first | exact ⟨rfl, hE⟩ | (refine ⟨rfl, fun _ => ?_⟩; simp [shT]; omega))
      · have h2 := lit_x (d := d) hE t r
        cases hB : litP c f t r with
        | bad x o =>
          rw [hB] at h2
          obtain ⟨o', e, he⟩ := relX_bad h2; rw [e]; exact ⟨rfl, he⟩
        | ok x r' =>
          rw [hB] at h2
          rw [relX_ok h2]
          simp only
          have h3 := take_x (d := d) hE [7, 8] r'
          cases hC : takeP c f [7, 8] r' with
          | bad x o =>
            rw [hC] at h3
            obtain ⟨o', e, he⟩ := relX_bad h3; rw [e]; exact ⟨rfl, he⟩
          | ok s r'' =>
            rw [hC] at h3
            rw [relX_ok h3]
            simp only
            show RelX d _ (if s.k = 8 then _ else _) (if s.k = 8 then _ else _)
            split
            · exact ⟨by rw [List.map_append, List.map_singleton], rfl⟩
            · have := body_x hE n (acc ++ [x]) r''
              rw [List.map_append, List.map_singleton] at this
              exact this
theorem clause_x (hE : c ≠ 0 → f' = f + d) (name : Tok) (R : List Tok) : RelX d (shCl d) (clauseP c f name R) (clauseP c f' (shT d name) (R.map (shT d))) := by
  unfold clauseP
  have h := atom_x (d := d) hE termKs name R
  cases hA : atomP c f termKs name R with
  | bad x o =>
    rw [hA] at h
    obtain ⟨o', e, he⟩ := relX_bad h; rw [e]; exact ⟨rfl, he⟩
  | ok a r =>
    rw [hA] at h
    rw [relX_ok h]
    simp only
    have h2 := take_x (d := d) hE [8, 9] r
    cases hB : takeP c f [8, 9] r with
    | bad x o =>
      rw [hB] at h2
      obtain ⟨o', e, he⟩ := relX_bad h2; rw [e]; exact ⟨rfl, he⟩
    | ok s r' =>
      rw [hB] at h2
      rw [relX_ok h2]
      simp only
      show RelX d _ (if s.k = 9 then _ else _) (if s.k = 9 then _ else _)
      split
      · have h3 := body_x (d := d) hE (r'.length + 1) [] r'
        unfold bodyP
        rw [List.length_map]
        rw [List.map_nil] at h3
        cases hC : bodyF c f (r'.length + 1) [] r' with
        | bad x o =>
          rw [hC] at h3
          obtain ⟨o', e, he⟩ := relX_bad h3; rw [e]; exact ⟨rfl, he⟩
        | ok b r'' =>
          rw [hC] at h3
          rw [relX_ok h3]
          exact ⟨rfl, rfl⟩
      · exact ⟨rfl, rfl⟩
/-- The clauses so far are few enough for all the tokens that are left. -/
def Few (lim k : Nat) (R : List Tok) : Prop := k + R.length ≤ lim + 1 ∧ ∀ t, R = [t] → t.k ≠ 0 → k + 1 ≤ lim
theorem few_lim {lim k : Nat} {t : Tok} {r : List Tok} (h : Few lim k (t :: r)) (hk : t.k ≠ 0) : k < lim := by
  obtain ⟨h1, h2⟩ := h
  cases r with
  | nil => exact h2 t rfl hk
  | cons u q => simp at h1; omega
theorem few_next {lim k : Nat} {t : Tok} {r r2 : List Tok} (h : Few lim k (t :: r)) (hl : r2.length < r.length) : Few lim (k + 1) r2 := by
  obtain ⟨h1, -⟩ := h
  simp only [List.length_cons] at h1
  refine ⟨by omega, fun u hu _ => ?_⟩
  rw [hu] at hl
  simp at hl
  omega
theorem prog_x (hE : c ≠ 0 → f' = f + d) (B : List PCls) : ∀ (n m : Nat) (acc : List PCls) (R : List Tok), R.length < n → R.length < m → Few 512 (B.length + acc.length) R → RelX d (fun l => B ++ l.map (shCl d)) (progF c f n acc R) (progF c f' m (B ++ acc.map (shCl d)) (R.map (shT d)))
  | 0, m, acc, R, hn, _, _ => absurd hn (by omega)
  | n + 1, 0, acc, R, _, hm, _ => absurd hm (by omega)
  | n + 1, m + 1, acc, R, hn, hm, hF => by
    unfold progF
    have h := take_x (d := d) hE [1, 0] R
    cases hA : takeP c f [1, 0] R with
    | bad x o =>
      rw [hA] at h
      obtain ⟨o', e, he⟩ := relX_bad h; rw [e]; exact ⟨rfl, he⟩
    | ok t r =>
      rw [hA] at h
      rw [relX_ok h]
      simp only
      obtain ⟨rfl, -⟩ := take_got hA
      show RelX d _ (if t.k = 0 then _ else _) (if t.k = 0 then _ else _)
      split
      · exact ⟨rfl, rfl⟩
      · rename_i h0
        have hlt := few_lim hF h0
        rw [if_neg (by omega), if_neg (by rw [List.length_append, List.length_map]; omega)]
        have h2 := clause_x (d := d) hE t r
        cases hB : clauseP c f t r with
        | bad x o =>
          rw [hB] at h2
          obtain ⟨o', e, he⟩ := relX_bad h2; rw [e]; exact ⟨rfl, he⟩
        | ok x r' =>
          rw [hB] at h2
          rw [relX_ok h2]
          simp only
          have hl := clause_len hB
          simp only [List.length_cons] at hn hm
          have := prog_x hE B n m (acc ++ [x]) r' (by omega) (by omega) (by rw [List.length_append]; exact few_next hF hl)
          rw [List.map_append, List.map_singleton, ← List.append_assoc] at this
          exact this
theorem facts_x (hE : c ≠ 0 → f' = f + d) (B : List PAtom) : ∀ (n m : Nat) (acc : List PAtom) (R : List Tok), R.length < n → R.length < m → Few 4096 (B.length + acc.length) R → RelX d (fun l => B ++ l.map (shAt d)) (factsF c f n acc R) (factsF c f' m (B ++ acc.map (shAt d)) (R.map (shT d)))
  | 0, m, acc, R, hn, _, _ => absurd hn (by omega)
  | n + 1, 0, acc, R, _, hm, _ => absurd hm (by omega)
  | n + 1, m + 1, acc, R, hn, hm, hF => by
    unfold factsF
    have h := take_x (d := d) hE [1, 0] R
    cases hA : takeP c f [1, 0] R with
    | bad x o =>
      rw [hA] at h
      obtain ⟨o', e, he⟩ := relX_bad h; rw [e]; exact ⟨rfl, he⟩
    | ok t r =>
      rw [hA] at h
      rw [relX_ok h]
      simp only
      obtain ⟨rfl, -⟩ := take_got hA
      show RelX d _ (if t.k = 0 then _ else _) (if t.k = 0 then _ else _)
      split
      · exact ⟨rfl, rfl⟩
      · rename_i h0
        have hlt := few_lim hF h0
        rw [if_neg (by omega), if_neg (by rw [List.length_append, List.length_map]; omega)]
        have h2 := atom_x (d := d) hE valueKs t r
        cases hB : atomP c f valueKs t r with
        | bad x o =>
          rw [hB] at h2
          obtain ⟨o', e, he⟩ := relX_bad h2; rw [e]; exact ⟨rfl, he⟩
        | ok x r' =>
          rw [hB] at h2
          rw [relX_ok h2]
          simp only
          have h3 := take_x (d := d) hE [8] r'
          cases hC : takeP c f [8] r' with
          | bad x o =>
            rw [hC] at h3
            obtain ⟨o', e, he⟩ := relX_bad h3; rw [e]; exact ⟨rfl, he⟩
          | ok s r'' =>
            rw [hC] at h3
            rw [relX_ok h3]
            simp only
            have hl := atom_len hB
            have hl2 := take_len hC
            simp only [List.length_cons] at hn hm
            have := facts_x hE B n m (acc ++ [x]) r'' (by omega) (by omega) (by rw [List.length_append]; exact few_next hF (by omega))
            rw [List.map_append, List.map_singleton, ← List.append_assoc] at this
            exact this
end
theorem lit_rest {c f : Int} {first : Tok} {R r : List Tok} {x : PLit} (h : litP c f first R = .ok x r) : ∃ X, R = X ++ r ∧ ∀ (c' f' : Int) (t : Tok) (q : List Tok), t.k ≠ 5 → t.k ≠ 11 → litP c' f' first (X ++ t :: q) = .ok x (t :: q) := by
  have tst : ∀ {R r : List Tok} {x : PLit}, (match takeP c f [11] R with
      | .bad c o => PR.bad c o
      | .ok o1 r' => match takeP c f termKs r' with
        | .bad c o => .bad c o
        | .ok t2 r'' => .ok (⟨3, zeroAtom, o1.op, termP first, termP t2, first.off⟩ : PLit) r'') = .ok x r → ∃ u v, R = u :: v :: r ∧ u.k = 11 ∧ ∀ (c' f' : Int) (q : List Tok), (match takeP c' f' [11] (u :: v :: q) with
      | .bad c o => PR.bad c o
      | .ok o1 r' => match takeP c' f' termKs r' with
        | .bad c o => .bad c o
        | .ok t2 r'' => .ok (⟨3, zeroAtom, o1.op, termP first, termP t2, first.off⟩ : PLit) r'') = .ok x q := by
    intro R r x h
    cases hA : takeP c f [11] R with
    | bad x o => rw [hA] at h; cases h
    | ok o1 r1 =>
      rw [hA] at h
      simp only at h
      cases hB : takeP c f termKs r1 with
      | bad x o => rw [hB] at h; cases h
      | ok t2 r2 =>
        rw [hB] at h
        simp only [PR.ok.injEq] at h
        obtain ⟨e1, e2⟩ := h
        subst e1 e2
        obtain ⟨rfl, k1⟩ := take_got hA
        obtain ⟨rfl, k2⟩ := take_got hB
        refine ⟨o1, t2, rfl, by simpa using k1, fun c' f' q => ?_⟩
        rw [take_hit k1]
        simp only
        rw [take_hit k2]
  unfold litP at h
  split at h
  · rename_i h10
    cases hA : takeP c f [1] R with
    | bad x o => rw [hA] at h; cases h
    | ok n r1 =>
      rw [hA] at h
      simp only at h
      cases hB : atomP c f termKs n r1 with
      | bad x o => rw [hB] at h; cases h
      | ok a r2 =>
        rw [hB] at h
        simp only [PR.ok.injEq] at h
        obtain ⟨e1, e2⟩ := h
        subst e1 e2
        obtain ⟨rfl, k1⟩ := take_got hA
        obtain ⟨X, rfl, hX⟩ := atom_rest hB
        refine ⟨n :: X, rfl, fun c' f' t q h5 _ => ?_⟩
        unfold litP
        rw [if_pos h10, List.cons_append, take_hit k1]
        simp only
        rw [hX c' f' t q h5]
  · rename_i h10
    simp only at h
    split at h
    · rename_i h1
      cases R with
      | nil => cases h
      | cons t R =>
        simp only at h
        split at h
        · rename_i h11
          obtain ⟨u, v, e, ku, hq⟩ := tst h
          refine ⟨[u, v], e, fun c' f' t q _ _ => ?_⟩
          unfold litP
          rw [if_neg h10]
          simp only
          rw [if_pos h1]
          show (if u.k = 11 then _ else _) = _
          rw [if_pos ku]
          exact hq c' f' (t :: q)
        · rename_i h11
          cases hB : atomP c f termKs first (t :: R) with
          | bad x o => rw [hB] at h; cases h
          | ok a r2 =>
            rw [hB] at h
            simp only [PR.ok.injEq] at h
            obtain ⟨e1, e2⟩ := h
            subst e1 e2
            obtain ⟨X, e, hX⟩ := atom_rest hB
            refine ⟨X, e, fun c' f' u q h5 hu => ?_⟩
            have := hX c' f' u q h5
            unfold litP
            rw [if_neg h10]
            simp only
            rw [if_pos h1]
            cases X with
            | nil =>
              rw [List.nil_append] at this ⊢
              simp only
              rw [if_neg hu, this]
            | cons z X =>
              rw [List.cons_append] at this e ⊢
              injection e with e1 e2
              subst e1
              simp only
              rw [if_neg h11, this]
    · rename_i h1
      obtain ⟨u, v, e, ku, hq⟩ := tst h
      refine ⟨[u, v], e, fun c' f' t q _ _ => ?_⟩
      unfold litP
      rw [if_neg h10]
      simp only
      rw [if_neg h1]
      exact hq c' f' (t :: q)
theorem body_rest {c f : Int} : ∀ (n : Nat) (acc : List PLit) (R r : List Tok) (b : List PLit), bodyF c f n acc R = .ok b r → ∃ X, R = X ++ r ∧ ∀ (c' f' : Int) (q : List Tok) (m : Nat), X.length ≤ m → bodyF c' f' m acc (X ++ q) = .ok b q
  | 0, acc, R, r, b, h => by cases h
  | n + 1, acc, R, r, b, h => by
    unfold bodyF at h
    cases hA : takeP c f [1, 10, 2, 3, 4] R with
    | bad x o => rw [hA] at h; cases h
    | ok t r1 =>
      rw [hA] at h
      simp only at h
      split at h
      · cases h
      · rename_i h16
        cases hB : litP c f t r1 with
        | bad x o => rw [hB] at h; cases h
        | ok x r2 =>
          rw [hB] at h
          simp only at h
          cases hC : takeP c f [7, 8] r2 with
          | bad x o => rw [hC] at h; cases h
          | ok s r3 =>
            rw [hC] at h
            simp only at h
            obtain ⟨rfl, k1⟩ := take_got hA
            obtain ⟨X, rfl, hX⟩ := lit_rest hB
            obtain ⟨rfl, k2⟩ := take_got hC
            have s5 : s.k ≠ 5 ∧ s.k ≠ 11 := by simp at k2; omega
            split at h
            · rename_i h8
              injection h with e1 e2
              subst e1 e2
              refine ⟨t :: (X ++ [s]), by simp, fun c' f' q m hm => ?_⟩
              cases m with
              | zero => simp at hm
              | succ m =>
                unfold bodyF
                rw [List.cons_append, take_hit k1]
                simp only
                rw [if_neg h16, List.append_assoc, List.singleton_append, hX c' f' s q s5.1 s5.2]
                simp only
                rw [take_hit k2]
                simp only
                rw [if_pos h8]
            · rename_i h8
              obtain ⟨Y, rfl, hY⟩ := body_rest n _ _ _ _ h
              refine ⟨t :: (X ++ s :: Y), by simp, fun c' f' q m hm => ?_⟩
              cases m with
              | zero => simp at hm
              | succ m =>
                unfold bodyF
                rw [List.cons_append, take_hit k1]
                simp only
                rw [if_neg h16, List.append_assoc, List.cons_append, hX c' f' s (Y ++ q) s5.1 s5.2]
                simp only
                rw [take_hit k2]
                simp only
                rw [if_neg h8]
                exact hY c' f' q m (by simp at hm; omega)
theorem clause_rest {c f : Int} {name : Tok} {R r : List Tok} {x : PCls} (h : clauseP c f name R = .ok x r) : ∃ X, R = X ++ r ∧ ∀ (c' f' : Int) (q : List Tok), clauseP c' f' name (X ++ q) = .ok x q := by
  unfold clauseP at h
  cases hA : atomP c f termKs name R with
  | bad x o => rw [hA] at h; cases h
  | ok a r1 =>
    rw [hA] at h
    simp only at h
    cases hB : takeP c f [8, 9] r1 with
    | bad x o => rw [hB] at h; cases h
    | ok s r2 =>
      rw [hB] at h
      simp only at h
      obtain ⟨X, rfl, hX⟩ := atom_rest hA
      obtain ⟨rfl, k2⟩ := take_got hB
      have s5 : s.k ≠ 5 := by simp at k2; omega
      split at h
      · rename_i h9
        cases hC : bodyP c f r2 with
        | bad x o => rw [hC] at h; cases h
        | ok b r3 =>
          rw [hC] at h
          simp only [PR.ok.injEq] at h
          obtain ⟨e1, e2⟩ := h
          subst e1 e2
          obtain ⟨Y, rfl, hY⟩ := body_rest _ _ _ _ _ hC
          refine ⟨X ++ s :: Y, by simp, fun c' f' q => ?_⟩
          unfold clauseP
          rw [List.append_assoc, List.cons_append, hX c' f' s (Y ++ q) s5]
          simp only
          rw [take_hit k2]
          simp only
          rw [if_pos h9]
          unfold bodyP
          rw [hY c' f' q _ (by simp; omega)]
      · rename_i h9
        injection h with e1 e2
        subst e1 e2
        refine ⟨X ++ [s], by simp, fun c' f' q => ?_⟩
        unfold clauseP
        rw [List.append_assoc, List.singleton_append, hX c' f' s q s5]
        simp only
        rw [take_hit k2]
        simp only
        rw [if_neg h9]
theorem prog_rest {c f : Int} : ∀ (n : Nat) (acc : List PCls) (R r : List Tok) (out : List PCls), progF c f n acc R = .ok out r → ∃ X e P, R = X ++ e :: r ∧ e.k = 0 ∧ out = acc ++ P ∧ P.length ≤ X.length ∧ ∀ (c' f' : Int) (q : List Tok) (m : Nat), X.length ≤ m → progF c' f' m acc (X ++ q) = progF c' f' (m - P.length) out q
  | 0, acc, R, r, out, h => by cases h
  | n + 1, acc, R, r, out, h => by
    unfold progF at h
    cases hA : takeP c f [1, 0] R with
    | bad x o => rw [hA] at h; cases h
    | ok t r1 =>
      rw [hA] at h
      simp only at h
      obtain ⟨rfl, k1⟩ := take_got hA
      split at h
      · rename_i h0
        injection h with e1 e2
        subst e1 e2
        exact ⟨[], t, [], rfl, h0, by simp, Nat.le_refl _, fun c' f' q m _ => by simp⟩
      · rename_i h0
        split at h
        · cases h
        · rename_i hlim
          cases hB : clauseP c f t r1 with
          | bad x o => rw [hB] at h; cases h
          | ok x r2 =>
            rw [hB] at h
            simp only at h
            obtain ⟨Y, rfl, hY⟩ := clause_rest hB
            obtain ⟨X, e, P, rfl, he, rfl, hl, hX⟩ := prog_rest n _ _ _ _ h
            refine ⟨t :: (Y ++ X), e, x :: P, by simp, he, by simp, by simp; omega, fun c' f' q m hm => ?_⟩
            cases m with
            | zero => simp at hm
            | succ m =>
              have := hX c' f' q m (by simp at hm; omega)
              rw [progF, List.cons_append, take_hit k1]
              simp only
              rw [if_neg h0, if_neg hlim, List.append_assoc, hY c' f' (X ++ q)]
              simp only
              rw [this, show m + 1 - (x :: P).length = m - P.length by simp]
theorem facts_rest {c f : Int} : ∀ (n : Nat) (acc : List PAtom) (R r : List Tok) (out : List PAtom), factsF c f n acc R = .ok out r → ∃ X e P, R = X ++ e :: r ∧ e.k = 0 ∧ out = acc ++ P ∧ P.length ≤ X.length ∧ ∀ (c' f' : Int) (q : List Tok) (m : Nat), X.length ≤ m → factsF c' f' m acc (X ++ q) = factsF c' f' (m - P.length) out q
  | 0, acc, R, r, out, h => by cases h
  | n + 1, acc, R, r, out, h => by
    unfold factsF at h
    cases hA : takeP c f [1, 0] R with
    | bad x o => rw [hA] at h; cases h
    | ok t r1 =>
      rw [hA] at h
      simp only at h
      obtain ⟨rfl, k1⟩ := take_got hA
      split at h
      · rename_i h0
        injection h with e1 e2
        subst e1 e2
        exact ⟨[], t, [], rfl, h0, by simp, Nat.le_refl _, fun c' f' q m _ => by simp⟩
      · rename_i h0
        split at h
        · cases h
        · rename_i hlim
          cases hB : atomP c f valueKs t r1 with
          | bad x o => rw [hB] at h; cases h
          | ok x r2 =>
            rw [hB] at h
            simp only at h
            cases hC : takeP c f [8] r2 with
            | bad x o => rw [hC] at h; cases h
            | ok s r3 =>
              rw [hC] at h
              simp only at h
              obtain ⟨Y, rfl, hY⟩ := atom_rest hB
              obtain ⟨rfl, k2⟩ := take_got hC
              have s5 : s.k ≠ 5 := by simp at k2; omega
              obtain ⟨X, e, P, rfl, he, rfl, hl, hX⟩ := facts_rest n _ _ _ _ h
              refine ⟨t :: (Y ++ s :: X), e, x :: P, by simp, he, by simp, by simp; omega, fun c' f' q m hm => ?_⟩
              cases m with
              | zero => simp at hm
              | succ m =>
                have := hX c' f' q m (by simp at hm; omega)
                rw [factsF, List.cons_append, take_hit k1]
                simp only
                rw [if_neg h0, if_neg hlim, List.append_assoc, List.cons_append, hY c' f' s (X ++ q) s5]
                simp only
                rw [take_hit k2]
                simp only
                rw [this, show m + 1 - (x :: P).length = m - P.length by simp]
theorem toks_few {s : ByteArray} {o : Nat} {L : List Tok} {c : Int} {f : Nat} (h : Toks s o L c f) : L.length ≤ s.size - o + 1 ∧ ∀ t, L = [t] → t.k ≠ 0 → 1 ≤ s.size - o := by
  induction h with
  | bad ho hx => exact ⟨by simp, fun t ht => absurd ht (by simp)⟩
  | last ho hx hk => exact ⟨by simp, fun t ht h0 => by injection ht with e; subst e; exact absurd hk h0⟩
  | more ho hx hk hT ih =>
    rename_i o t r c f
    obtain ⟨-, -, h3, h4⟩ := next_tok ho hx
    have h5 : t.off < t.en ∧ t.en ≤ s.size := by rcases h4 with h | h <;> omega
    refine ⟨by simp only [List.length_cons]; omega, fun u hu h0 => by omega⟩
/-- Two texts one behind the other. -/
theorem join_prog {a b : ByteArray} (hs : a.size + 1 + b.size ≤ 65536) {P : List PCls} {r : List Tok} (hA : progP (scanX a).2.1 ((scanX a).2.2 : Int) (scanX a).1 = .ok P r) (hn : P.length + b.size ≤ 512) :
    RelX (a.size + 1) (fun l => P ++ l.map (shCl (a.size + 1))) (progP (scanX b).2.1 ((scanX b).2.2 : Int) (scanX b).1) (progP (scanX (a ++ nlB ++ b)).2.1 ((scanX (a ++ nlB ++ b)).2.2 : Int) (scanX (a ++ nlB ++ b)).1) := by
  have TA := scan_toks a (by omega)
  have TB := scan_toks b (by omega)
  obtain ⟨X, e, Q, hL, he, rfl, hl, hX⟩ := prog_rest _ _ _ _ _ hA
  obtain ⟨rfl, hc0⟩ := toks_ended TA X e r hL he
  have TJ := scan_eq (s := a ++ nlB ++ b) (by rw [nl_size]; omega) (toks_join a b TB TA X e hL hc0 he)
  rw [TJ]
  simp only
  unfold progP
  rw [hX _ _ _ _ (by simp; omega)]
  obtain ⟨f1, f2⟩ := toks_few TB
  have := prog_x (d := a.size + 1) (c := (scanX b).2.1) (f := ((scanX b).2.2 : Int)) (f' := (((if (scanX b).2.1 = 0 then 0 else a.size + 1 + (scanX b).2.2 : Nat)) : Int)) (fun h => by rw [if_neg h]; omega) P ((scanX b).1.length + 1) ((X ++ (scanX b).1.map (shT (a.size + 1))).length + 1 - P.length) [] (scanX b).1 (by omega) (by simp; omega) ⟨by simp; omega, fun t ht h0 => by have := f2 t ht h0; simp; omega⟩
  rw [List.map_nil, List.append_nil] at this
  exact this
theorem join_facts {a b : ByteArray} (hs : a.size + 1 + b.size ≤ 65536) {P : List PAtom} {r : List Tok} (hA : factsP (scanX a).2.1 ((scanX a).2.2 : Int) (scanX a).1 = .ok P r) (hn : P.length + b.size ≤ 4096) :
    RelX (a.size + 1) (fun l => P ++ l.map (shAt (a.size + 1))) (factsP (scanX b).2.1 ((scanX b).2.2 : Int) (scanX b).1) (factsP (scanX (a ++ nlB ++ b)).2.1 ((scanX (a ++ nlB ++ b)).2.2 : Int) (scanX (a ++ nlB ++ b)).1) := by
  have TA := scan_toks a (by omega)
  have TB := scan_toks b (by omega)
  obtain ⟨X, e, Q, hL, he, rfl, hl, hX⟩ := facts_rest _ _ _ _ _ hA
  obtain ⟨rfl, hc0⟩ := toks_ended TA X e r hL he
  have TJ := scan_eq (s := a ++ nlB ++ b) (by rw [nl_size]; omega) (toks_join a b TB TA X e hL hc0 he)
  rw [TJ]
  simp only
  unfold factsP
  rw [hX _ _ _ _ (by simp; omega)]
  obtain ⟨f1, f2⟩ := toks_few TB
  have := facts_x (d := a.size + 1) (c := (scanX b).2.1) (f := ((scanX b).2.2 : Int)) (f' := (((if (scanX b).2.1 = 0 then 0 else a.size + 1 + (scanX b).2.2 : Nat)) : Int)) (fun h => by rw [if_neg h]; omega) P ((scanX b).1.length + 1) ((X ++ (scanX b).1.map (shT (a.size + 1))).length + 1 - P.length) [] (scanX b).1 (by omega) (by simp; omega) ⟨by simp; omega, fun t ht h0 => by have := f2 t ht h0; simp; omega⟩
  rw [List.map_nil, List.append_nil] at this
  exact this
end Go.Proofs.YtfbmddgjbmapiaaDoor
