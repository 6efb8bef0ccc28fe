/- The document's table of states over a list of tokens, and the cutting of tokens at a kind that stands outside all brackets, as plain functions. The document's table of states finds the fault that parse's grammar finds, and its trees, cut out of the tokens, are the grammar's. The document's table of states and its cuts against parse's grammar: clauses, programs, facts, queries, one fact. Chains of tokens: what stands where, how it ends: no program in sight. A gap that goes over a whole text goes on behind a line feed: no program in sight. A token hangs on its own bytes and on the one behind them: no program in sight. Gaps and chains of tokens in a text that agrees with another one up to a place: no program in sight. The first fault of the grammar hangs on the tokens up to the one at which it stands. The texts of ParseLimits: a beginning, a thing again and again, an end: what the table of states says of them. What the readers say of the texts of ParseLimits. -/
import Derived.Test.YtfbmddgjbmapiaaDoorParsePure
import Derived.Test.YtfbmddgjbmapiaaDoorLexRow
import Derived.Test.YtfbmddgjbmapiaaDoorPkD6

namespace Go.Proofs.YtfbmddgjbmapiaaDoor
set_option linter.unusedSimpArgs false
set_option linter.unusedVariables false
open Go.RowKit

def isTermB (k : Int) : Bool := (k == 1) || (k == 2) || (k == 3) || (k == 4)
def isValueB (k : Int) : Bool := (k == 1) || (k == 3) || (k == 4)
def moveHeadP (s k : Int) : Int :=
  if s = 0 ∧ k = 1 then 1
  else if s = 0 ∧ k = 0 then 26
  else if (s = 1 ∧ k = 5) ∨ (s = 3 ∧ k = 7) then 2
  else if s = 2 ∧ isTermB k = true then 3
  else if s = 3 ∧ k = 6 then 4
  else if (s = 1 ∨ s = 4) ∧ k = 8 then 0
  else if (s = 1 ∨ s = 4) ∧ k = 9 then 5
  else -1
def moveBodyP (s k behind : Int) : Int :=
  if s = 5 ∧ k = 1 then 6
  else if s = 5 ∧ k = 10 then 7
  else if s = 5 ∧ isTermB k = true then 8
  else if (s = 6 ∨ s = 8) ∧ k = 11 then 11
  else if s = 7 ∧ k = 1 then 12
  else if ((s = 6 ∨ s = 12) ∧ k = 5) ∨ (s = 10 ∧ k = 7) then 9
  else if s = 9 ∧ isTermB k = true then 10
  else if s = 10 ∧ k = 6 then 13
  else if s = 11 ∧ isTermB k = true then 14
  else if s = 6 ∨ s = 12 ∨ s = 13 ∨ s = 14 then (if k = 7 then 5 else if k = 8 then behind else -1)
  else if s = 25 ∧ k = 0 then 26
  else -1
def moveFactP (s k : Int) : Int :=
  if s = 15 ∧ k = 1 then 16
  else if s = 15 ∧ k = 0 then 26
  else if s = 20 ∧ k = 1 then 21
  else if (s = 16 ∧ k = 5) ∨ (s = 18 ∧ k = 7) then 17
  else if (s = 21 ∧ k = 5) ∨ (s = 23 ∧ k = 7) then 22
  else if s = 17 ∧ isValueB k = true then 18
  else if s = 22 ∧ isValueB k = true then 23
  else if s = 18 ∧ k = 6 then 19
  else if s = 23 ∧ k = 6 then 24
  else if (s = 16 ∨ s = 19) ∧ k = 8 then 15
  else if (s = 21 ∨ s = 24) ∧ k = 0 then 26
  else -1
def bhP (first : Int) : Int := if first = 5 then 25 else 0
def moveP (first s k : Int) : Int :=
  if s ≤ 4 then moveHeadP s k
  else if 15 ≤ s ∧ s ≤ 24 then moveFactP s k
  else moveBodyP s k (bhP first)

structure Cnt where
  c : Int
  l : Int
  t : Int
def takeC (c : Cnt) (s k : Int) : Cnt :=
  let c1 := if (s = 0 ∧ k = 1) ∨ (s = 15 ∧ k = 1) then (⟨c.c + 1, c.l, c.t⟩ : Cnt) else if s = 5 then ⟨c.c, c.l + 1, c.t⟩ else if s = 2 ∨ s = 9 ∨ s = 17 ∨ s = 22 then ⟨c.c, c.l, c.t + 1⟩ else c
  let c2 := if k = 5 then (⟨c1.c, c1.l, 0⟩ : Cnt) else c1
  if k = 9 then ⟨c2.c, 0, c2.t⟩ else c2
def overC (first : Int) (c : Cnt) : Int :=
  if (first = 0 ∧ 512 < c.c) ∨ (first = 15 ∧ 4096 < c.c) then 24 else if 16 < c.l then 23 else if 8 < c.t then 22 else 0
def Lim (first : Int) (c : Cnt) : Prop := (first = 0 → c.c ≤ 512) ∧ (first = 15 → c.c ≤ 4096) ∧ c.l ≤ 16 ∧ c.t ≤ 8
theorem no_cls {first : Int} {c : Cnt} (h1 : first = 0 → c.c ≤ 512) (h2 : first = 15 → c.c ≤ 4096) : ¬ ((first = 0 ∧ 512 < c.c) ∨ (first = 15 ∧ 4096 < c.c)) := by
  rintro (⟨a, b⟩ | ⟨a, b⟩)
  · have := h1 a; omega
  · have := h2 a; omega
theorem over_zero {first : Int} {c : Cnt} (h : Lim first c) : overC first c = 0 := by
  obtain ⟨h1, h2, h3, h4⟩ := h
  unfold overC
  rw [if_neg (no_cls h1 h2), if_neg (by omega), if_neg (by omega)]

/-- The document's check: the state, the counts, what is left. -/
def chkR (ec eo first : Int) : Int → Cnt → List Tok → PR Unit
  | _, _, [] => if ec = 0 then .ok () [] else .bad ec eo
  | s, c, t :: r =>
    if moveP first s t.k = -1 then .bad (misK t.k) t.off
    else if overC first (takeC c s t.k) ≠ 0 then .bad (overC first (takeC c s t.k)) t.off
    else chkR ec eo first (moveP first s t.k) (takeC c s t.k) r

/-- The end is the last token, and there just if there is no fault. -/
def Wf (ec : Int) : List Tok → Prop
  | [] => ec ≠ 0
  | t :: r => if t.k = 0 then r = [] ∧ ec = 0 else Wf ec r
theorem Wf.tail {ec : Int} {t : Tok} {r : List Tok} (h : Wf ec (t :: r)) (hk : t.k ≠ 0) : Wf ec r := by unfold Wf at h; rw [if_neg hk] at h; exact h
theorem Wf.last {ec : Int} {t : Tok} {r : List Tok} (h : Wf ec (t :: r)) (hk : t.k = 0) : r = [] ∧ ec = 0 := by unfold Wf at h; rw [if_pos hk] at h; exact h

theorem chk_nil {ec eo first s : Int} {c : Cnt} (h : Wf ec []) : chkR ec eo first s c [] = .bad ec eo := by
  unfold chkR; exact if_neg h
theorem chk_mis {ec eo first s : Int} {c : Cnt} {t : Tok} {r : List Tok} (h : moveP first s t.k = -1) : chkR ec eo first s c (t :: r) = .bad (misK t.k) t.off := by
  unfold chkR; exact if_pos h
theorem chk_go {ec eo first s n : Int} {c c' : Cnt} {t : Tok} {r : List Tok} (h : moveP first s t.k = n) (hn : n ≠ -1) (hc : takeC c s t.k = c') (hl : Lim first c') : chkR ec eo first s c (t :: r) = chkR ec eo first n c' r := by
  rw [chkR, h, if_neg hn, hc, over_zero hl, if_neg (by simp)]
theorem chk_lim {ec eo first s n x : Int} {c c' : Cnt} {t : Tok} {r : List Tok} (h : moveP first s t.k = n) (hn : n ≠ -1) (hc : takeC c s t.k = c') (hl : overC first c' = x) (hx : x ≠ 0) : chkR ec eo first s c (t :: r) = .bad x t.off := by
  rw [chkR, h, if_neg hn, hc, hl, if_pos hx]

/-- cut: the tokens between those of the kind k that stand outside all brackets. -/
def depthP (d : Int) (t : Tok) : Int := (if t.k = 5 then d + 1 else d) - (if t.k = 6 then 1 else 0)
def cutF (k : Int) : Int → List Tok → List (List Tok) → List Tok → List (List Tok)
  | _, now, out, [] => out ++ [now]
  | d, now, out, t :: r => if t.k = k ∧ depthP d t = 0 then cutF k (depthP d t) [] (out ++ [now]) r else cutF k (depthP d t) (now ++ [t]) out r
def Closed (k : Int) (P : List Tok) : Prop := ∀ now out L, cutF k 0 now out (P ++ L) = cutF k 0 (now ++ P) out L
def Inner (k : Int) (P : List Tok) : Prop := ∀ now out L, cutF k 1 now out (P ++ L) = cutF k 0 (now ++ P) out L
theorem cut_out (k : Int) : ∀ (L : List Tok) (d : Int) (now : List Tok) (out : List (List Tok)), cutF k d now out L = out ++ cutF k d now [] L
  | [], d, now, out => by simp [cutF]
  | t :: r, d, now, out => by
    unfold cutF
    by_cases h : t.k = k ∧ depthP d t = 0
    · rw [if_pos h, if_pos h, cut_out k r _ _ (out ++ [now]), cut_out k r _ _ ([] ++ [now])]; simp
    · rw [if_neg h, if_neg h, cut_out k r _ _ out]
theorem Closed.nil (k : Int) : Closed k [] := fun now out L => by simp
theorem Closed.app {k : Int} {P Q : List Tok} (h1 : Closed k P) (h2 : Closed k Q) : Closed k (P ++ Q) := fun now out L => by
  rw [List.append_assoc, h1, h2, List.append_assoc]
theorem Closed.one {k : Int} {t : Tok} (h5 : t.k ≠ 5) (h6 : t.k ≠ 6) (hk : t.k ≠ k) : Closed k [t] := fun now out L => by
  rw [List.cons_append, List.nil_append, cutF, if_neg (fun h => hk h.1)]
  simp [depthP, h5, h6]
theorem Closed.cons {k : Int} {t : Tok} {P : List Tok} (h5 : t.k ≠ 5) (h6 : t.k ≠ 6) (hk : t.k ≠ k) (h : Closed k P) : Closed k (t :: P) := (Closed.one h5 h6 hk).app h
theorem cut_sep {k : Int} {P : List Tok} {t : Tok} (h : Closed k P) (ht : t.k = k) (h5 : k ≠ 5) (h6 : k ≠ 6) (out : List (List Tok)) (L : List Tok) : cutF k 0 [] out (P ++ t :: L) = cutF k 0 [] (out ++ [P]) L := by
  have hd : depthP 0 t = 0 := by simp [depthP, ht, h5, h6]
  rw [h, List.nil_append, cutF, if_pos ⟨ht, hd⟩, hd]
theorem cut_whole {k : Int} {P : List Tok} (h : Closed k P) : cutF k 0 [] [] P = [P] := by
  have := h [] [] []
  rw [List.append_nil] at this
  rw [this]; simp [cutF]

def atomR : List Tok → PAtom
  | [] => zeroAtom
  | n :: r => ⟨n.t, (r.filter fun t => isTermB t.k).map termP, n.off⟩
def litR : List Tok → PLit
  | [] => ⟨0, zeroAtom, 0, zeroTrm, zeroTrm, 0⟩
  | t :: r => if t.k = 10 then ⟨2, atomR r, 0, zeroTrm, zeroTrm, t.off⟩
    else match r with
      | [o, u] => if o.k = 11 then ⟨3, zeroAtom, o.op, termP t, termP u, t.off⟩ else ⟨1, atomR (t :: r), 0, zeroTrm, zeroTrm, t.off⟩
      | _ => ⟨1, atomR (t :: r), 0, zeroTrm, zeroTrm, t.off⟩
def LitOk : List Tok → Prop
  | [] => False
  | t :: r => t.k = 10 → r ≠ []
def bodyR (P : List Tok) : List PLit := (cutF 7 0 [] [] P).map litR
def BodyOk (P : List Tok) : Prop := ∀ L ∈ cutF 7 0 [] [] P, LitOk L
def clsR (P : List Tok) : PCls :=
  ⟨atomR ((cutF 9 0 [] [] P).getD 0 []), if (cutF 9 0 [] [] P).length = 2 then bodyR ((cutF 9 0 [] [] P).getD 1 []) else []⟩
def ClsOk (P : List Tok) : Prop := (cutF 9 0 [] [] P).getD 0 [] ≠ [] ∧ ((cutF 9 0 [] [] P).length = 2 → BodyOk ((cutF 9 0 [] [] P).getD 1 []))

/-- The three states of the terms of an atom. -/
structure ArgSt (first sT sM sE : Int) (ks : List Int) : Prop where
  mT : ∀ k, k ∈ ks → moveP first sT k = sM
  mT' : ∀ k, k ∉ ks → moveP first sT k = -1
  mM7 : moveP first sM 7 = sT
  mM6 : moveP first sM 6 = sE
  mM' : ∀ k, k ≠ 7 → k ≠ 6 → moveP first sM k = -1
  tT : ∀ c k, k ∈ ks → takeC c sT k = ⟨c.c, c.l, c.t + 1⟩
  tM : ∀ c k, k = 7 ∨ k = 6 → takeC c sM k = c
  n1 : sT ≠ -1
  n2 : sM ≠ -1
  n3 : sE ≠ -1
  kk : ∀ k, k ∈ ks → k = 1 ∨ k = 2 ∨ k = 3 ∨ k = 4

theorem args_nil (ec eo : Int) (ks : List Int) (acc : List Trm) : argsP ec eo ks acc [] = .bad ec eo := rfl
theorem args_mis {ec eo : Int} {ks : List Int} {acc : List Trm} {t : Tok} {r : List Tok} (h : t.k ∉ ks) : argsP ec eo ks acc (t :: r) = .bad (misK t.k) t.off := by
  unfold argsP; rw [if_neg h]
theorem args_lim8 {ec eo : Int} {ks : List Int} {acc : List Trm} {t : Tok} {r : List Tok} (h : t.k ∈ ks) (h8 : acc.length = 8) : argsP ec eo ks acc (t :: r) = .bad 22 t.off := by
  unfold argsP; rw [if_pos h, if_pos h8]
theorem args_two {ec eo : Int} {ks : List Int} {acc : List Trm} {t s : Tok} {r : List Tok} (h : t.k ∈ ks) (h8 : acc.length ≠ 8) : argsP ec eo ks acc (t :: s :: r) = if s.k = 7 then argsP ec eo ks (acc ++ [termP t]) r else if s.k = 6 then .ok (acc ++ [termP t]) r else .bad (misK s.k) s.off := by
  rw [argsP, if_pos h, if_neg h8]
theorem args_one {ec eo : Int} {ks : List Int} {acc : List Trm} {t : Tok} (h : t.k ∈ ks) (h8 : acc.length ≠ 8) : argsP ec eo ks acc [t] = .bad ec eo := by
  rw [argsP, if_pos h, if_neg h8]

theorem args_sim {ec eo first sT sM sE : Int} {ks : List Int} (H : ArgSt first sT sM sE ks) : ∀ (R : List Tok) (acc : List Trm) (c : Cnt), c.t = acc.length → Lim first c → Wf ec R →
    (∀ x o, argsP ec eo ks acc R = .bad x o → chkR ec eo first sT c R = .bad x o) ∧
    (∀ ts r', argsP ec eo ks acc R = .ok ts r' → chkR ec eo first sT c R = chkR ec eo first sE ⟨c.c, c.l, ts.length⟩ r' ∧ ts.length ≤ 8 ∧ Wf ec r' ∧
      ∃ P, R = P ++ r' ∧ ts = acc ++ (P.filter fun t => isTermB t.k).map termP ∧ ∀ k, k = 7 ∨ k = 8 ∨ k = 9 → Inner k P)
  | [], acc, c, hc, hl, hw => ⟨fun x o h => by rw [args_nil] at h; rw [chk_nil hw]; cases h; rfl, fun ts r' h => by rw [args_nil] at h; cases h⟩
  | t :: r, acc, c, hc, hl, hw => by
    by_cases hk : t.k ∈ ks
    · have hz : t.k ≠ 0 := by have := H.kk _ hk; omega
      have hw1 := hw.tail hz
      have ht : isTermB t.k = true := by have := H.kk _ hk; rcases this with h | h | h | h <;> simp [isTermB, h]
      by_cases h8 : acc.length = 8
      · refine ⟨fun x o h => ?_, fun ts r' h => by rw [args_lim8 hk h8] at h; cases h⟩
        rw [args_lim8 hk h8] at h
        cases h
        refine chk_lim (H.mT _ hk) H.n2 (H.tT c _ hk) ?_ (by decide)
        obtain ⟨h1, h2, h3, h4⟩ := hl
        unfold overC
        rw [if_neg (no_cls (c := ⟨c.c, c.l, c.t + 1⟩) h1 h2), if_neg (by simp only; omega), if_pos (by simp only; omega)]
      · have hlt : acc.length < 8 := by have := hl.2.2.2; omega
        have hl2 : Lim first ⟨c.c, c.l, c.t + 1⟩ := ⟨hl.1, hl.2.1, hl.2.2.1, by simp only; omega⟩
        have hgo : ∀ r, chkR ec eo first sT c (t :: r) = chkR ec eo first sM ⟨c.c, c.l, c.t + 1⟩ r := fun r => chk_go (H.mT _ hk) H.n2 (H.tT c _ hk) hl2
        match r, hw1 with
        | [], hw1 => exact ⟨fun x o h => by rw [args_one hk h8] at h; rw [hgo, chk_nil hw1]; cases h; rfl, fun ts r' h => by rw [args_one hk h8] at h; cases h⟩
        | s :: r2, hw1 =>
          rw [args_two hk h8, hgo]
          by_cases h7 : s.k = 7
          · rw [if_pos h7]
            have e : chkR ec eo first sM ⟨c.c, c.l, c.t + 1⟩ (s :: r2) = chkR ec eo first sT ⟨c.c, c.l, c.t + 1⟩ r2 := chk_go (by rw [h7]; exact H.mM7) H.n1 (H.tM _ _ (.inl h7)) hl2
            obtain ⟨i1, i2⟩ := args_sim H r2 (acc ++ [termP t]) ⟨c.c, c.l, c.t + 1⟩ (by simp [hc]) hl2 (hw1.tail (by omega))
            rw [e]
            refine ⟨i1, fun ts r' h => ?_⟩
            obtain ⟨j1, j2, j3, P, j4, j5, j6⟩ := i2 ts r' h
            refine ⟨j1, j2, j3, t :: s :: P, by rw [j4]; rfl, ?_, fun k hk3 now out L => ?_⟩
            · have hs : isTermB s.k = false := by simp [isTermB, h7]
              rw [j5]; simp [List.filter_cons, ht, hs]
            · have d1 : depthP 1 t = 1 := by have := H.kk _ hk; rcases this with h | h | h | h <;> simp [depthP, h]
              have d2 : depthP 1 s = 1 := by simp [depthP, h7]
              rw [List.cons_append, cutF, d1, if_neg (by omega), List.cons_append, cutF, d2, if_neg (by omega), j6 k hk3]
              simp
          · rw [if_neg h7]
            by_cases h6 : s.k = 6
            · rw [if_pos h6]
              refine ⟨fun x o h => (by cases h), fun ts r' h => ?_⟩
              cases h
              have e : chkR ec eo first sM ⟨c.c, c.l, c.t + 1⟩ (s :: r2) = chkR ec eo first sE ⟨c.c, c.l, c.t + 1⟩ r2 := chk_go (by rw [h6]; exact H.mM6) H.n3 (H.tM _ _ (.inr h6)) hl2
              refine ⟨by rw [e, hc]; simp, by simp; omega, hw1.tail (by omega), [t, s], rfl, by simp [List.filter_cons, ht, show isTermB s.k = false by simp [isTermB, h6]], fun k hk3 now out L => ?_⟩
              have d1 : depthP 1 t = 1 := by have := H.kk _ hk; rcases this with h | h | h | h <;> simp [depthP, h]
              have d2 : depthP 1 s = 0 := by simp [depthP, h6]
              rw [List.cons_append, cutF, d1, if_neg (by omega), List.cons_append, cutF, d2, if_neg (by omega)]
              simp
            · rw [if_neg h6]
              refine ⟨fun x o h => ?_, fun ts r' h => by cases h⟩
              cases h
              exact chk_mis (H.mM' _ h7 h6)
    · refine ⟨fun x o h => ?_, fun ts r' h => by rw [args_mis hk] at h; cases h⟩
      rw [args_mis hk] at h
      cases h
      exact chk_mis (H.mT' _ hk)
termination_by R => R.length
end Go.Proofs.YtfbmddgjbmapiaaDoor

namespace Go.Proofs.YtfbmddgjbmapiaaDoor
set_option linter.unusedSimpArgs false
set_option linter.unusedVariables false
open Go.RowKit

theorem mem_termKs {k : Int} : k ∈ termKs ↔ k = 2 ∨ k = 3 ∨ k = 1 ∨ k = 4 := by simp [termKs]
theorem mem_valueKs {k : Int} : k ∈ valueKs ↔ k = 3 ∨ k = 1 ∨ k = 4 := by simp [valueKs]

theorem st_head : ArgSt 0 2 3 4 termKs where
  mT := fun k hk => by rw [mem_termKs] at hk; rcases hk with rfl | rfl | rfl | rfl <;> decide
  mT' := fun k hk => by rw [mem_termKs] at hk; simp only [not_or] at hk; obtain ⟨a, b, c, d⟩ := hk; simp [moveP, moveHeadP, isTermB, a, b, c, d]
  mM7 := by decide
  mM6 := by decide
  mM' := fun k h7 h6 => by simp [moveP, moveHeadP, h7, h6]
  tT := fun c k hk => by rw [mem_termKs] at hk; rcases hk with rfl | rfl | rfl | rfl <;> simp [takeC]
  tM := fun c k hk => by rcases hk with rfl | rfl <;> simp [takeC]
  n1 := by decide
  n2 := by decide
  n3 := by decide
  kk := fun k hk => by rw [mem_termKs] at hk; omega
theorem st_lit {first : Int} (hf : first = 0 ∨ first = 5) : ArgSt first 9 10 13 termKs where
  mT := fun k hk => by rw [mem_termKs] at hk; rcases hf with rfl | rfl <;> rcases hk with rfl | rfl | rfl | rfl <;> decide
  mT' := fun k hk => by rw [mem_termKs] at hk; simp only [not_or] at hk; obtain ⟨a, b, c, d⟩ := hk; simp [moveP, moveBodyP, isTermB, a, b, c, d]
  mM7 := by rcases hf with rfl | rfl <;> decide
  mM6 := by rcases hf with rfl | rfl <;> decide
  mM' := fun k h7 h6 => by simp [moveP, moveBodyP, h7, h6]
  tT := fun c k hk => by rw [mem_termKs] at hk; rcases hk with rfl | rfl | rfl | rfl <;> simp [takeC]
  tM := fun c k hk => by rcases hk with rfl | rfl <;> simp [takeC]
  n1 := by decide
  n2 := by decide
  n3 := by decide
  kk := fun k hk => by rw [mem_termKs] at hk; omega
theorem st_facts : ArgSt 15 17 18 19 valueKs where
  mT := fun k hk => by rw [mem_valueKs] at hk; rcases hk with rfl | rfl | rfl <;> decide
  mT' := fun k hk => by rw [mem_valueKs] at hk; simp only [not_or] at hk; obtain ⟨a, b, c⟩ := hk; simp [moveP, moveFactP, isValueB, a, b, c]
  mM7 := by decide
  mM6 := by decide
  mM' := fun k h7 h6 => by simp [moveP, moveFactP, h7, h6]
  tT := fun c k hk => by rw [mem_valueKs] at hk; rcases hk with rfl | rfl | rfl <;> simp [takeC]
  tM := fun c k hk => by rcases hk with rfl | rfl <;> simp [takeC]
  n1 := by decide
  n2 := by decide
  n3 := by decide
  kk := fun k hk => by rw [mem_valueKs] at hk; omega
theorem st_one : ArgSt 20 22 23 24 valueKs where
  mT := fun k hk => by rw [mem_valueKs] at hk; rcases hk with rfl | rfl | rfl <;> decide
  mT' := fun k hk => by rw [mem_valueKs] at hk; simp only [not_or] at hk; obtain ⟨a, b, c⟩ := hk; simp [moveP, moveFactP, isValueB, a, b, c]
  mM7 := by decide
  mM6 := by decide
  mM' := fun k h7 h6 => by simp [moveP, moveFactP, h7, h6]
  tT := fun c k hk => by rw [mem_valueKs] at hk; rcases hk with rfl | rfl | rfl <;> simp [takeC]
  tM := fun c k hk => by rcases hk with rfl | rfl <;> simp [takeC]
  n1 := by decide
  n2 := by decide
  n3 := by decide
  kk := fun k hk => by rw [mem_valueKs] at hk; omega

theorem take_bad2 {ec eo first s x o : Int} {c : Cnt} {ks : List Int} {R : List Tok} (hm : ∀ t r, R = t :: r → t.k ∉ ks → moveP first s t.k = -1) (hw : Wf ec R) (h : takeP ec eo ks R = .bad x o) : chkR ec eo first s c R = .bad x o := by
  cases R with
  | nil => unfold takeP at h; cases h; exact chk_nil hw
  | cons t r =>
    simp only [takeP] at h
    by_cases hk : t.k ∈ ks
    · rw [if_pos hk] at h; cases h
    · rw [if_neg hk] at h; cases h; exact chk_mis (hm t r rfl hk)
theorem take_isok {ec eo : Int} {ks : List Int} {R r : List Tok} {t : Tok} (h : takeP ec eo ks R = .ok t r) : R = t :: r ∧ t.k ∈ ks := by
  cases R with
  | nil => unfold takeP at h; cases h
  | cons t' r' =>
    simp only [takeP] at h
    by_cases hk : t'.k ∈ ks
    · rw [if_pos hk] at h; cases h; exact ⟨rfl, hk⟩
    · rw [if_neg hk] at h; cases h

theorem atom_sim {ec eo first sN sT sM sE : Int} {ks : List Int} (H : ArgSt first sT sM sE ks) (hm : moveP first sN 5 = sT) (ht : ∀ c : Cnt, takeC c sN 5 = ⟨c.c, c.l, 0⟩) (name : Tok) (R : List Tok) (c : Cnt) (hl : Lim first c) (hw : Wf ec R) :
    (∀ x o, atomP ec eo ks name R = .bad x o → chkR ec eo first sN c R = .bad x o) ∧
    (∀ a r', atomP ec eo ks name R = .ok a r' → Wf ec r' ∧ ∃ P, R = P ++ r' ∧ a = atomR (name :: P) ∧ (∀ k, k = 7 ∨ k = 8 ∨ k = 9 → Closed k P) ∧ (P = [] ∨ ∃ l Q, P = l :: Q ∧ l.k = 5) ∧
      ∃ s' c', chkR ec eo first sN c R = chkR ec eo first s' c' r' ∧ c'.c = c.c ∧ c'.l = c.l ∧ Lim first c' ∧ (s' = sE ∨ (s' = sN ∧ R = r' ∧ ∃ t r, r' = t :: r ∧ t.k ≠ 5))) := by
  cases R with
  | nil => exact ⟨fun x o h => by unfold atomP at h; cases h; exact chk_nil hw, fun a r' h => by unfold atomP at h; cases h⟩
  | cons t r =>
    simp only [atomP]
    by_cases h5 : t.k = 5
    · rw [if_pos h5]
      have hl0 : Lim first ⟨c.c, c.l, 0⟩ := ⟨hl.1, hl.2.1, hl.2.2.1, by show (0 : Int) ≤ 8; decide⟩
      have e : chkR ec eo first sN c (t :: r) = chkR ec eo first sT ⟨c.c, c.l, 0⟩ r := chk_go (by rw [h5]; exact hm) H.n1 (by rw [h5]; exact ht c) hl0
      obtain ⟨i1, i2⟩ := args_sim (eo := eo) H r [] ⟨c.c, c.l, 0⟩ rfl hl0 (hw.tail (by omega))
      cases ha : argsP ec eo ks [] r with
      | bad x o => exact ⟨fun x' o' h => by cases h; rw [e]; exact i1 _ _ ha, fun a r' h => by cases h⟩
      | ok ts r2 =>
        obtain ⟨j1, j2, j3, P, j4, j5, j6⟩ := i2 _ _ ha
        refine ⟨fun x o h => (by cases h), fun a r' h => ?_⟩
        cases h
        refine ⟨j3, t :: P, by rw [j4]; rfl, ?_, fun k hk now out L => ?_, .inr ⟨t, P, rfl, h5⟩, sE, ⟨c.c, c.l, ts.length⟩, by rw [e, j1], rfl, rfl, ⟨hl.1, hl.2.1, hl.2.2.1, by show (ts.length : Int) ≤ 8; omega⟩, .inl rfl⟩
        · rw [j5]; simp [atomR, List.filter_cons, show isTermB t.k = false by simp [isTermB, h5]]
        · have d1 : depthP 0 t = 1 := by simp [depthP, h5]
          rw [List.cons_append, cutF, d1, if_neg (by omega), j6 k hk]
          simp
    · rw [if_neg h5]
      refine ⟨fun x o h => (by cases h), fun a r' h => ?_⟩
      cases h
      exact ⟨hw, [], rfl, by simp [atomR], fun k _ => Closed.nil k, .inl rfl, sN, c, rfl, rfl, rfl, hl, .inr ⟨rfl, rfl, t, r, rfl, h5⟩⟩

/-- Behind a literal: a comma or a dot. -/
def Fol (first s : Int) (c : Cnt) (r : List Tok) : Prop :=
  (∀ t r', r = t :: r' → t.k ≠ 7 → t.k ≠ 8 → moveP first s t.k = -1) ∧ moveP first s 7 = 5 ∧ moveP first s 8 = bhP first ∧ takeC c s 7 = c ∧ takeC c s 8 = c
theorem fol_end {first : Int} (c : Cnt) (r : List Tok) {s : Int} (hs : s = 13 ∨ s = 14) : Fol first s c r := by
  rcases hs with rfl | rfl <;> exact ⟨fun t r' _ h7 h8 => by simp [moveP, moveBodyP, h7, h8], by simp [moveP, moveBodyP], by simp [moveP, moveBodyP], by simp [takeC], by simp [takeC]⟩
theorem fol_neg {first : Int} (c : Cnt) {r r2 : List Tok} {t : Tok} (hr : r = t :: r2) (h5 : t.k ≠ 5) : Fol first 12 c r :=
  ⟨fun u r' e h7 h8 => by rw [hr] at e; cases e; simp [moveP, moveBodyP, h7, h8, h5], by simp [moveP, moveBodyP], by simp [moveP, moveBodyP], by simp [takeC], by simp [takeC]⟩
theorem fol_name {first : Int} (c : Cnt) {r r2 : List Tok} {t : Tok} (hr : r = t :: r2) (h5 : t.k ≠ 5) (h11 : t.k ≠ 11) : Fol first 6 c r :=
  ⟨fun u r' e h7 h8 => by rw [hr] at e; cases e; simp [moveP, moveBodyP, h7, h8, h5, h11], by simp [moveP, moveBodyP], by simp [moveP, moveBodyP], by simp [takeC], by simp [takeC]⟩

def litS (k : Int) : Int := if k = 1 then 6 else if k = 10 then 7 else 8
def LitKs : List Int := [1, 10, 2, 3, 4]

theorem closed3 {P : List Tok} {t : Tok} (h : ∀ k, k = 7 ∨ k = 8 ∨ k = 9 → Closed k P) (ht : t.k ≠ 5 ∧ t.k ≠ 6 ∧ t.k ≠ 7 ∧ t.k ≠ 8 ∧ t.k ≠ 9) : ∀ k, k = 7 ∨ k = 8 ∨ k = 9 → Closed k (t :: P) := fun k hk =>
  (h k hk).cons ht.1 ht.2.1 (by omega)

/-- A test: an operator and a right side. -/
theorem test_sim {ec eo first s1 : Int} (hs : s1 = 6 ∨ s1 = 8) (ft : Tok) (hft : ft.k = 1 ∨ ft.k = 2 ∨ ft.k = 3 ∨ ft.k = 4) (R : List Tok) (c : Cnt) (hl : Lim first c) (hw : Wf ec R) (h11 : s1 = 8 ∨ ∃ t r, R = t :: r ∧ t.k = 11) :
    (∀ x o, (match takeP ec eo [11] R with | .bad c o => PR.bad c o | .ok o1 r' => match takeP ec eo termKs r' with | .bad c o => .bad c o | .ok t2 r'' => .ok (⟨3, zeroAtom, o1.op, termP ft, termP t2, ft.off⟩ : PLit) r'') = .bad x o → chkR ec eo first s1 c R = .bad x o) ∧
    (∀ y r', (match takeP ec eo [11] R with | .bad c o => PR.bad c o | .ok o1 r' => match takeP ec eo termKs r' with | .bad c o => .bad c o | .ok t2 r'' => .ok (⟨3, zeroAtom, o1.op, termP ft, termP t2, ft.off⟩ : PLit) r'') = .ok y r' → Wf ec r' ∧ ∃ P, R = P ++ r' ∧ y = litR (ft :: P) ∧ LitOk (ft :: P) ∧ (∀ k, k = 7 ∨ k = 8 ∨ k = 9 → Closed k (ft :: P)) ∧
      ∃ s' c', chkR ec eo first s1 c R = chkR ec eo first s' c' r' ∧ c'.c = c.c ∧ c'.l = c.l ∧ Lim first c' ∧ Fol first s' c' r') := by
  have hm : ∀ t r, R = t :: r → t.k ∉ [(11 : Int)] → moveP first s1 t.k = -1 := fun t r e hk => by
    simp only [List.mem_singleton] at hk
    rcases h11 with rfl | ⟨t', r', e', h'⟩
    · simp [moveP, moveBodyP, hk]
    · rw [e] at e'; cases e'; exact absurd h' hk
  cases h1 : takeP ec eo [11] R with
  | bad x o => exact ⟨fun x' o' h => by cases h; exact take_bad2 hm hw h1, fun y r' h => by cases h⟩
  | ok o1 r1 =>
    obtain ⟨rfl, ho⟩ := take_isok h1
    simp only [List.mem_singleton] at ho
    have e1 : chkR ec eo first s1 c (o1 :: r1) = chkR ec eo first 11 c r1 := chk_go (by rw [ho]; rcases hs with rfl | rfl <;> simp [moveP, moveBodyP]) (by decide) (by rw [ho]; rcases hs with rfl | rfl <;> simp [takeC]) hl
    have hw1 : Wf ec r1 := hw.tail (by omega)
    have hm2 : ∀ t r, r1 = t :: r → t.k ∉ termKs → moveP first 11 t.k = -1 := fun t r e hk => by
      rw [mem_termKs] at hk; simp only [not_or] at hk; obtain ⟨a, b, c, d⟩ := hk
      simp [moveP, moveBodyP, isTermB, a, b, c, d]
    cases h2 : takeP ec eo termKs r1 with
    | bad x o => exact ⟨fun x' o' h => by simp only [h2] at h; cases h; rw [e1]; exact take_bad2 hm2 hw1 h2, fun y r' h => by simp only [h2] at h; cases h⟩
    | ok t2 r2 =>
      obtain ⟨rfl, hk2⟩ := take_isok h2
      rw [mem_termKs] at hk2
      refine ⟨fun x o h => (by simp only [h2] at h; cases h), fun y r' h => ?_⟩
      simp only [h2] at h
      cases h
      have e2 : chkR ec eo first 11 c (t2 :: r2) = chkR ec eo first 14 c r2 := chk_go (by rcases hk2 with h | h | h | h <;> rw [h] <;> simp [moveP, moveBodyP, isTermB]) (by decide) (by rcases hk2 with h | h | h | h <;> rw [h] <;> simp [takeC]) hl
      refine ⟨hw1.tail (by omega), [o1, t2], rfl, ?_, ?_, ?_, 14, c, by rw [e1, e2], rfl, rfl, hl, fol_end c _ (.inr rfl)⟩
      · have : ft.k ≠ 10 := by omega
        simp [litR, this, ho]
      · intro h; omega
      · clear h11 hm hm2
        exact closed3 (closed3 (closed3 (fun k _ => Closed.nil k) (by omega)) (by omega)) (by omega)

theorem lit_sim {ec eo first : Int} (hf : first = 0 ∨ first = 5) (ft : Tok) (hft : ft.k ∈ LitKs) (R : List Tok) (c : Cnt) (hl : Lim first c) (hw : Wf ec R) :
    (∀ x o, litP ec eo ft R = .bad x o → chkR ec eo first (litS ft.k) c R = .bad x o) ∧
    (∀ y r', litP ec eo ft R = .ok y r' → Wf ec r' ∧ ∃ P, R = P ++ r' ∧ y = litR (ft :: P) ∧ LitOk (ft :: P) ∧ (∀ k, k = 7 ∨ k = 8 ∨ k = 9 → Closed k (ft :: P)) ∧
      ∃ s' c', chkR ec eo first (litS ft.k) c R = chkR ec eo first s' c' r' ∧ c'.c = c.c ∧ c'.l = c.l ∧ Lim first c' ∧ Fol first s' c' r') := by
  simp only [LitKs, List.mem_cons, List.not_mem_nil, or_false] at hft
  unfold litP
  by_cases h10 : ft.k = 10
  · rw [if_pos h10, show litS ft.k = 7 by simp [litS, h10]]
    cases h1 : takeP ec eo [1] R with
    | bad x o => exact ⟨fun x' o' h => by cases h; exact take_bad2 (fun t r _ hk => by simp only [List.mem_singleton] at hk; simp [moveP, moveBodyP, hk]) hw h1, fun y r' h => by cases h⟩
    | ok n r1 =>
      obtain ⟨rfl, hn⟩ := take_isok h1
      simp only [List.mem_singleton] at hn
      have e1 : chkR ec eo first 7 c (n :: r1) = chkR ec eo first 12 c r1 := chk_go (by rw [hn]; simp [moveP, moveBodyP]) (by decide) (by rw [hn]; simp [takeC]) hl
      have hw1 : Wf ec r1 := hw.tail (by omega)
      obtain ⟨i1, i2⟩ := atom_sim (ec := ec) (eo := eo) (sN := 12) (st_lit hf) (by simp [moveP, moveBodyP]) (fun c => by simp [takeC]) n r1 c hl hw1
      cases h2 : atomP ec eo termKs n r1 with
      | bad x o => exact ⟨fun x' o' h => by simp only [h2] at h; cases h; rw [e1]; exact i1 _ _ h2, fun y r' h => by simp only [h2] at h; cases h⟩
      | ok a r2 =>
        obtain ⟨j1, P, j2, j3, j4, j5, s', c', j6, j7, j8, j9, j10⟩ := i2 _ _ h2
        refine ⟨fun x o h => (by simp only [h2] at h; cases h), fun y r' h => ?_⟩
        simp only [h2] at h
        cases h
        refine ⟨j1, n :: P, by rw [j2]; rfl, ?_, fun _ => by simp, closed3 (closed3 j4 (by omega)) (by omega), s', c', by rw [e1, j6], j7, j8, j9, ?_⟩
        · simp [litR, h10, j3]
        · rcases j10 with rfl | ⟨rfl, -, t, r, e, h5⟩
          · exact fol_end c' _ (.inl rfl)
          · exact fol_neg c' e h5
  · rw [if_neg h10]
    have hk : ft.k = 1 ∨ ft.k = 2 ∨ ft.k = 3 ∨ ft.k = 4 := by omega
    by_cases h1 : ft.k = 1
    · rw [show litS ft.k = 6 by simp [litS, h1]]
      simp only [h1, if_true]
      cases R with
      | nil => exact ⟨fun x o h => by cases h; exact chk_nil hw, fun y r' h => by cases h⟩
      | cons t r =>
        by_cases h11 : t.k = 11
        · simp only [h11, if_true]
          exact test_sim (.inl rfl) ft hk (t :: r) c hl hw (.inr ⟨t, r, rfl, h11⟩)
        · simp only [h11, if_false]
          obtain ⟨i1, i2⟩ := atom_sim (ec := ec) (eo := eo) (sN := 6) (st_lit hf) (by simp [moveP, moveBodyP]) (fun c => by simp [takeC]) ft (t :: r) c hl hw
          cases h2 : atomP ec eo termKs ft (t :: r) with
          | bad x o => exact ⟨fun x' o' h => by cases h; exact i1 _ _ h2, fun y r' h => by cases h⟩
          | ok a r2 =>
            obtain ⟨j1, P, j2, j3, j4, j5, s', c', j6, j7, j8, j9, j10⟩ := i2 _ _ h2
            refine ⟨fun x o h => (by cases h), fun y r' h => ?_⟩
            cases h
            refine ⟨j1, P, j2, ?_, fun h => absurd h h10, closed3 j4 (by omega), s', c', j6, j7, j8, j9, ?_⟩
            · rcases j5 with rfl | ⟨l, Q, rfl, hl5⟩
              · simp [litR, h10, j3]
              · match Q with
                | [] => simp [litR, h10, j3]
                | [u] => simp [litR, h10, j3, hl5]
                | u :: v :: w => simp [litR, h10, j3]
            · rcases j10 with rfl | ⟨rfl, e0, t', r', e, h5⟩
              · exact fol_end c' _ (.inl rfl)
              · exact fol_name c' e h5 (by rw [e] at e0; cases e0; exact h11)
    · rw [show litS ft.k = 8 by simp [litS, h1, h10]]
      simp only [h1, if_false]
      exact test_sim (.inr rfl) ft hk R c hl hw (.inl rfl)

theorem bodyF_succ (ec eo : Int) (n : Nat) (acc : List PLit) (R : List Tok) : bodyF ec eo (n + 1) acc R = match takeP ec eo [1, 10, 2, 3, 4] R with
    | .bad c o => .bad c o
    | .ok t r => if acc.length = 16 then .bad 23 t.off else match litP ec eo t r with
      | .bad c o => .bad c o
      | .ok x r' => match takeP ec eo [7, 8] r' with
        | .bad c o => .bad c o
        | .ok s r'' => if s.k = 8 then .ok (acc ++ [x]) r'' else bodyF ec eo n (acc ++ [x]) r'' := rfl

theorem body_sim {ec eo first : Int} (hf : first = 0 ∨ first = 5) : ∀ (n : Nat) (acc : List PLit) (R : List Tok) (c : Cnt), c.l = acc.length → Lim first c → Wf ec R → R.length < n →
    (∀ x o, bodyF ec eo n acc R = .bad x o → chkR ec eo first 5 c R = .bad x o) ∧
    (∀ b r', bodyF ec eo n acc R = .ok b r' → Wf ec r' ∧ ∃ P dot, R = P ++ dot :: r' ∧ dot.k = 8 ∧ Closed 8 P ∧ Closed 9 P ∧ BodyOk P ∧ b = acc ++ bodyR P ∧
      ∃ c', chkR ec eo first 5 c R = chkR ec eo first (bhP first) c' r' ∧ c'.c = c.c ∧ Lim first c')
  | 0, acc, R, c, hc, hl, hw, hn => absurd hn (Nat.not_lt_zero _)
  | n + 1, acc, R, c, hc, hl, hw, hn => by
    rw [bodyF_succ]
    have hm : ∀ t r, R = t :: r → t.k ∉ [(1 : Int), 10, 2, 3, 4] → moveP first 5 t.k = -1 := fun t r _ hk => by
      simp only [List.mem_cons, List.not_mem_nil, or_false, not_or] at hk
      obtain ⟨a, b, c, d, e⟩ := hk
      simp [moveP, moveBodyP, isTermB, a, b, c, d, e]
    cases h1 : takeP ec eo [1, 10, 2, 3, 4] R with
    | bad x o => exact ⟨fun x' o' h => by cases h; exact take_bad2 hm hw h1, fun y r' h => by cases h⟩
    | ok t r =>
      obtain ⟨rfl, ht⟩ := take_isok h1
      have hkt : t.k = 1 ∨ t.k = 10 ∨ t.k = 2 ∨ t.k = 3 ∨ t.k = 4 := by simpa using ht
      have hw1 : Wf ec r := hw.tail (by omega)
      have hmv : moveP first 5 t.k = litS t.k := by rcases hkt with h | h | h | h | h <;> rw [h] <;> simp [moveP, moveBodyP, litS, isTermB]
      have htk : takeC c 5 t.k = ⟨c.c, c.l + 1, c.t⟩ := by rcases hkt with h | h | h | h | h <;> rw [h] <;> simp [takeC]
      have hne : litS t.k ≠ -1 := by rcases hkt with h | h | h | h | h <;> rw [h] <;> decide
      simp only
      by_cases h16 : acc.length = 16
      · rw [if_pos h16]
        refine ⟨fun x o h => ?_, fun b r' h => by cases h⟩
        cases h
        refine chk_lim hmv hne htk ?_ (by decide)
        obtain ⟨g1, g2, g3, g4⟩ := hl
        unfold overC
        rw [if_neg (no_cls (c := ⟨c.c, c.l + 1, c.t⟩) g1 g2), if_pos (by simp only; omega)]
      · rw [if_neg h16]
        have hl2 : Lim first ⟨c.c, c.l + 1, c.t⟩ := ⟨hl.1, hl.2.1, by have := hl.2.2.1; simp only; omega, hl.2.2.2⟩
        have e1 : chkR ec eo first 5 c (t :: r) = chkR ec eo first (litS t.k) ⟨c.c, c.l + 1, c.t⟩ r := chk_go hmv hne htk hl2
        obtain ⟨i1, i2⟩ := lit_sim (ec := ec) (eo := eo) hf t ht r _ hl2 hw1
        cases h2 : litP ec eo t r with
        | bad x o => exact ⟨fun x' o' h => by cases h; rw [e1]; exact i1 _ _ h2, fun y r' h => by cases h⟩
        | ok x r1 =>
          obtain ⟨j1, P, j2, j3, j4, j5, s', c', j6, j7, j8, j9, f0, f7, f8, t7, t8⟩ := i2 _ _ h2
          simp only
          cases h3 : takeP ec eo [7, 8] r1 with
          | bad x' o' => exact ⟨fun x'' o'' h => by cases h; rw [e1, j6]; exact take_bad2 (fun t r e hk => by simp only [List.mem_cons, List.not_mem_nil, or_false, not_or] at hk; exact f0 t r e hk.1 hk.2) j1 h3, fun y r' h => by cases h⟩
          | ok s r2 =>
            obtain ⟨rfl, hs⟩ := take_isok h3
            have hs' : s.k = 7 ∨ s.k = 8 := by simpa using hs
            simp only
            by_cases h8 : s.k = 8
            · rw [if_pos h8]
              refine ⟨fun x o h => (by cases h), fun b r' h => ?_⟩
              cases h
              have e3 : chkR ec eo first s' c' (s :: r2) = chkR ec eo first (bhP first) c' r2 := chk_go (by rw [h8]; exact f8) (by rcases hf with rfl | rfl <;> decide) (by rw [h8]; exact t8) j9
              refine ⟨j1.tail (by omega), t :: P, s, by rw [j2]; rfl, h8, j5 8 (by omega), j5 9 (by omega), ?_, ?_, c', by rw [e1, j6, e3], by rw [j7], j9⟩
              · intro L hL; rw [cut_whole (j5 7 (by omega))] at hL; rw [List.mem_singleton.1 hL]; exact j4
              · unfold bodyR; rw [cut_whole (j5 7 (by omega))]; simp [j3]
            · rw [if_neg h8]
              have h7 : s.k = 7 := by omega
              have e3 : chkR ec eo first s' c' (s :: r2) = chkR ec eo first 5 c' r2 := chk_go (by rw [h7]; exact f7) (by decide) (by rw [h7]; exact t7) j9
              have hlen : r2.length < n := by
                have := congrArg List.length j2
                simp only [List.length_append, List.length_cons] at this hn
                omega
              obtain ⟨k1, k2⟩ := body_sim (eo := eo) hf n (acc ++ [x]) r2 c' (by rw [j8]; simp [hc]) j9 (j1.tail (by omega)) hlen
              refine ⟨fun x' o' h => by rw [e1, j6, e3]; exact k1 _ _ h, fun b r' h => ?_⟩
              obtain ⟨l1, P2, dot, l2, l3, l4, l5, l6, l7, c2, l8, l9, l10⟩ := k2 _ _ h
              have hcut : cutF 7 0 [] [] ((t :: P) ++ s :: P2) = [t :: P] ++ cutF 7 0 [] [] P2 := by
                rw [cut_sep (j5 7 (by omega)) h7 (by decide) (by decide), List.nil_append, cut_out]
              refine ⟨l1, (t :: P) ++ s :: P2, dot, by rw [j2, l2]; simp, l3, (j5 8 (by omega)).app (l4.cons (by omega) (by omega) (by omega)), (j5 9 (by omega)).app (l5.cons (by omega) (by omega) (by omega)), ?_, ?_, c2, by rw [e1, j6, e3, l8], by rw [l9, j7], l10⟩
              · intro L hL
                rw [hcut] at hL
                rcases List.mem_append.1 hL with h | h
                · rw [List.mem_singleton.1 h]; exact j4
                · exact l6 L h
              · rw [l7]; unfold bodyR; rw [hcut]; simp [j3]
end Go.Proofs.YtfbmddgjbmapiaaDoor

namespace Go.Proofs.YtfbmddgjbmapiaaDoor
set_option linter.unusedSimpArgs false
set_option linter.unusedVariables false
open Go.RowKit

theorem clause_sim {ec eo : Int} (name : Tok) (hn : name.k = 1) (R : List Tok) (c : Cnt) (hl : Lim 0 c) (hw : Wf ec R) :
    (∀ x o, clauseP ec eo name R = .bad x o → chkR ec eo 0 1 c R = .bad x o) ∧
    (∀ y r', clauseP ec eo name R = .ok y r' → Wf ec r' ∧ ∃ P dot, name :: R = P ++ dot :: r' ∧ dot.k = 8 ∧ Closed 8 P ∧ ClsOk P ∧ y = clsR P ∧
      ∃ c', chkR ec eo 0 1 c R = chkR ec eo 0 0 c' r' ∧ c'.c = c.c ∧ Lim 0 c') := by
  unfold clauseP
  obtain ⟨i1, i2⟩ := atom_sim (ec := ec) (eo := eo) (sN := 1) st_head (by decide) (fun c => by simp [takeC]) name R c hl hw
  cases h1 : atomP ec eo termKs name R with
  | bad x o => exact ⟨fun x' o' h => by cases h; exact i1 _ _ h1, fun y r' h => by cases h⟩
  | ok a r1 =>
    obtain ⟨j1, P, j2, j3, j4, -, s', c1, j6, j7, j8, j9, j10⟩ := i2 _ _ h1
    have hm : ∀ t r, r1 = t :: r → t.k ∉ [(8 : Int), 9] → moveP 0 s' t.k = -1 := fun t r e hk => by
      simp only [List.mem_cons, List.not_mem_nil, or_false, not_or] at hk
      rcases j10 with rfl | ⟨rfl, -, t', r', e', h5⟩
      · simp [moveP, moveHeadP, hk.1, hk.2]
      · rw [e] at e'; cases e'; simp [moveP, moveHeadP, hk.1, hk.2, h5]
    have hs4 : s' = 4 ∨ s' = 1 := j10.imp id (fun h => h.1)
    simp only
    cases h2 : takeP ec eo [8, 9] r1 with
    | bad x o => exact ⟨fun x' o' h => by cases h; rw [j6]; exact take_bad2 hm j1 h2, fun y r' h => by cases h⟩
    | ok s r2 =>
      obtain ⟨rfl, hs⟩ := take_isok h2
      have hs' : s.k = 8 ∨ s.k = 9 := by simpa using hs
      have hc3 := closed3 (t := name) j4 (by omega)
      simp only
      by_cases h9 : s.k = 9
      · rw [if_pos h9]
        have hl2 : Lim 0 ⟨c1.c, 0, c1.t⟩ := ⟨j9.1, j9.2.1, by show (0 : Int) ≤ 16; decide, j9.2.2.2⟩
        have e2 : chkR ec eo 0 s' c1 (s :: r2) = chkR ec eo 0 5 ⟨c1.c, 0, c1.t⟩ r2 := chk_go (by rw [h9]; rcases hs4 with rfl | rfl <;> decide) (by decide) (by rw [h9]; rcases hs4 with rfl | rfl <;> simp [takeC]) hl2
        obtain ⟨k1, k2⟩ := body_sim (eo := eo) (.inl rfl) (r2.length + 1) [] r2 ⟨c1.c, 0, c1.t⟩ rfl hl2 (j1.tail (by omega)) (by omega)
        unfold bodyP
        cases h3 : bodyF ec eo (r2.length + 1) [] r2 with
        | bad x o => exact ⟨fun x' o' h => by cases h; rw [j6, e2]; exact k1 _ _ h3, fun y r' h => by cases h⟩
        | ok b r3 =>
          obtain ⟨l1, P2, dot, l2, l3, l4, l5, l6, l7, c2, l8, l9, l10⟩ := k2 _ _ h3
          refine ⟨fun x o h => (by cases h), fun y r' h => ?_⟩
          cases h
          have hcut : cutF 9 0 [] [] ((name :: P) ++ s :: P2) = [name :: P, P2] := by
            rw [cut_sep (hc3 9 (by omega)) h9 (by decide) (by decide), cut_out, cut_whole l5]; rfl
          refine ⟨l1, (name :: P) ++ s :: P2, dot, by rw [j2, l2]; simp, l3, (hc3 8 (by omega)).app (l4.cons (by omega) (by omega) (by omega)), ?_, ?_, c2, by rw [j6, e2, l8]; rfl, by rw [l9]; exact j7, l10⟩
          · unfold ClsOk; rw [hcut]; exact ⟨by simp, fun _ => l6⟩
          · unfold clsR; rw [hcut, l7, j3]; simp
      · rw [if_neg h9]
        have h8 : s.k = 8 := by omega
        refine ⟨fun x o h => (by cases h), fun y r' h => ?_⟩
        cases h
        have e2 : chkR ec eo 0 s' c1 (s :: r2) = chkR ec eo 0 0 c1 r2 := chk_go (by rw [h8]; rcases hs4 with rfl | rfl <;> decide) (by decide) (by rw [h8]; rcases hs4 with rfl | rfl <;> simp [takeC]) j9
        refine ⟨j1.tail (by omega), name :: P, s, by rw [j2]; rfl, h8, hc3 8 (by omega), ?_, ?_, c1, by rw [j6, e2], j7, j9⟩
        · unfold ClsOk; rw [cut_whole (hc3 9 (by omega))]; exact ⟨by simp, fun h => by simp at h⟩
        · unfold clsR; rw [cut_whole (hc3 9 (by omega)), j3]; simp

theorem progF_succ (ec eo : Int) (n : Nat) (acc : List PCls) (R : List Tok) : progF ec eo (n + 1) acc R = match takeP ec eo [1, 0] R with
    | .bad c o => .bad c o
    | .ok t r => if t.k = 0 then .ok acc r else if acc.length = 512 then .bad 24 t.off else match clauseP ec eo t r with
      | .bad c o => .bad c o
      | .ok x r' => progF ec eo n (acc ++ [x]) r' := rfl
theorem chk_done {ec eo first s : Int} {c : Cnt} {t : Tok} {r : List Tok} (h : moveP first s t.k = 26) (hk : t.k = 0) (hc : takeC c s 0 = c) (hl : Lim first c) (hw : Wf ec (t :: r)) : chkR ec eo first s c (t :: r) = .ok () [] := by
  obtain ⟨rfl, rfl⟩ := hw.last hk
  rw [chk_go h (by decide) (by rw [hk]; exact hc) hl]
  unfold chkR; rw [if_pos rfl]
theorem cut_last {t : Tok} (h : t.k = 0) : cutF 8 0 [] [] [t] = [[t]] := cut_whole (Closed.one (by omega) (by omega) (by omega))

theorem prog_sim {ec eo : Int} : ∀ (n : Nat) (acc : List PCls) (R : List Tok) (c : Cnt), c.c = acc.length → Lim 0 c → Wf ec R → R.length < n →
    (∀ x o, progF ec eo n acc R = .bad x o → chkR ec eo 0 0 c R = .bad x o) ∧
    (∀ b r', progF ec eo n acc R = .ok b r' → chkR ec eo 0 0 c R = .ok () [] ∧ ∃ S last, cutF 8 0 [] [] R = S ++ [last] ∧ b = acc ++ S.map clsR ∧ ∀ L ∈ S, ClsOk L)
  | 0, acc, R, c, hc, hl, hw, hn => absurd hn (Nat.not_lt_zero _)
  | n + 1, acc, R, c, hc, hl, hw, hn => by
    rw [progF_succ]
    cases h1 : takeP ec eo [1, 0] R with
    | bad x o => exact ⟨fun x' o' h => by cases h; exact take_bad2 (fun t r _ hk => by simp only [List.mem_cons, List.not_mem_nil, or_false, not_or] at hk; simp [moveP, moveHeadP, hk.1, hk.2]) hw h1, fun y r' h => by cases h⟩
    | ok t r =>
      obtain ⟨rfl, ht⟩ := take_isok h1
      have ht' : t.k = 1 ∨ t.k = 0 := by simpa using ht
      simp only
      by_cases h0 : t.k = 0
      · rw [if_pos h0]
        obtain ⟨rfl, rfl⟩ := hw.last h0
        refine ⟨fun x o h => (by cases h), fun b r' h => ?_⟩
        cases h
        exact ⟨chk_done (by rw [h0]; decide) h0 (by simp [takeC]) hl hw, [], [t], cut_last h0, by simp, by simp⟩
      · rw [if_neg h0]
        have hk : t.k = 1 := by omega
        by_cases h5 : acc.length = 512
        · rw [if_pos h5]
          refine ⟨fun x o h => ?_, fun b r' h => (by cases h)⟩
          cases h
          refine chk_lim (n := 1) (c' := ⟨c.c + 1, c.l, c.t⟩) (by rw [hk]; decide) (by decide) (by rw [hk]; simp [takeC]) ?_ (by decide)
          unfold overC
          rw [if_pos (.inl ⟨rfl, by simp only; omega⟩)]
        · rw [if_neg h5]
          have hl2 : Lim 0 ⟨c.c + 1, c.l, c.t⟩ := ⟨fun h => by have := hl.1 h; simp only; omega, fun h => (by cases h), hl.2.2.1, hl.2.2.2⟩
          have e1 : chkR ec eo 0 0 c (t :: r) = chkR ec eo 0 1 ⟨c.c + 1, c.l, c.t⟩ r := chk_go (by rw [hk]; decide) (by decide) (by rw [hk]; simp [takeC]) hl2
          obtain ⟨i1, i2⟩ := clause_sim (ec := ec) (eo := eo) t hk r _ hl2 (hw.tail h0)
          cases h2 : clauseP ec eo t r with
          | bad x o => exact ⟨fun x' o' h => by cases h; rw [e1]; exact i1 _ _ h2, fun y r' h => by cases h⟩
          | ok y r1 =>
            obtain ⟨j1, P, dot, j2, j3, j4, j5, j6, c', j7, j8, j9⟩ := i2 _ _ h2
            have hlen : r1.length < n := by
              have := congrArg List.length j2
              simp only [List.length_append, List.length_cons] at this hn
              omega
            obtain ⟨k1, k2⟩ := prog_sim (eo := eo) n (acc ++ [y]) r1 c' (by rw [j8]; simp [hc]) j9 j1 hlen
            refine ⟨fun x o h => by rw [e1, j7]; exact k1 _ _ h, fun b r' h => ?_⟩
            obtain ⟨l1, S, last, l2, l3, l4⟩ := k2 _ _ h
            refine ⟨by rw [e1, j7, l1], P :: S, last, ?_, by rw [l3, j6]; simp, ?_⟩
            · rw [j2, cut_sep j4 j3 (by decide) (by decide), cut_out, l2]; rfl
            · intro L hL
              rcases List.mem_cons.1 hL with rfl | h
              · exact j5
              · exact l4 L h

theorem factsF_succ (ec eo : Int) (n : Nat) (acc : List PAtom) (R : List Tok) : factsF ec eo (n + 1) acc R = match takeP ec eo [1, 0] R with
    | .bad c o => .bad c o
    | .ok t r => if t.k = 0 then .ok acc r else if acc.length = 4096 then .bad 24 t.off else match atomP ec eo valueKs t r with
      | .bad c o => .bad c o
      | .ok x r' => match takeP ec eo [8] r' with
        | .bad c o => .bad c o
        | .ok _ r'' => factsF ec eo n (acc ++ [x]) r'' := rfl

theorem facts_sim {ec eo : Int} : ∀ (n : Nat) (acc : List PAtom) (R : List Tok) (c : Cnt), c.c = acc.length → Lim 15 c → Wf ec R → R.length < n →
    (∀ x o, factsF ec eo n acc R = .bad x o → chkR ec eo 15 15 c R = .bad x o) ∧
    (∀ b r', factsF ec eo n acc R = .ok b r' → chkR ec eo 15 15 c R = .ok () [] ∧ ∃ S last, cutF 8 0 [] [] R = S ++ [last] ∧ b = acc ++ S.map atomR ∧ ∀ L ∈ S, L ≠ [])
  | 0, acc, R, c, hc, hl, hw, hn => absurd hn (Nat.not_lt_zero _)
  | n + 1, acc, R, c, hc, hl, hw, hn => by
    rw [factsF_succ]
    cases h1 : takeP ec eo [1, 0] R with
    | bad x o => exact ⟨fun x' o' h => by cases h; exact take_bad2 (fun t r _ hk => by simp only [List.mem_cons, List.not_mem_nil, or_false, not_or] at hk; simp [moveP, moveFactP, hk.1, hk.2]) hw h1, fun y r' h => by cases h⟩
    | ok t r =>
      obtain ⟨rfl, ht⟩ := take_isok h1
      have ht' : t.k = 1 ∨ t.k = 0 := by simpa using ht
      simp only
      by_cases h0 : t.k = 0
      · rw [if_pos h0]
        obtain ⟨rfl, rfl⟩ := hw.last h0
        refine ⟨fun x o h => (by cases h), fun b r' h => ?_⟩
        cases h
        exact ⟨chk_done (by rw [h0]; decide) h0 (by simp [takeC]) hl hw, [], [t], cut_last h0, by simp, by simp⟩
      · rw [if_neg h0]
        have hk : t.k = 1 := by omega
        by_cases h5 : acc.length = 4096
        · rw [if_pos h5]
          refine ⟨fun x o h => ?_, fun b r' h => (by cases h)⟩
          cases h
          refine chk_lim (n := 16) (c' := ⟨c.c + 1, c.l, c.t⟩) (by rw [hk]; decide) (by decide) (by rw [hk]; simp [takeC]) ?_ (by decide)
          unfold overC
          rw [if_pos (.inr ⟨rfl, by simp only; omega⟩)]
        · rw [if_neg h5]
          have hl2 : Lim 15 ⟨c.c + 1, c.l, c.t⟩ := ⟨fun h => (by cases h), fun h => (by have := hl.2.1 h; show c.c + 1 ≤ 4096; omega), hl.2.2.1, hl.2.2.2⟩
          have e1 : chkR ec eo 15 15 c (t :: r) = chkR ec eo 15 16 ⟨c.c + 1, c.l, c.t⟩ r := chk_go (by rw [hk]; decide) (by decide) (by rw [hk]; simp [takeC]) hl2
          obtain ⟨i1, i2⟩ := atom_sim (ec := ec) (eo := eo) (sN := 16) st_facts (by decide) (fun c => by simp [takeC]) t r _ hl2 (hw.tail h0)
          cases h2 : atomP ec eo valueKs t r with
          | bad x o => exact ⟨fun x' o' h => by cases h; rw [e1]; exact i1 _ _ h2, fun y r' h => by cases h⟩
          | ok a r1 =>
            obtain ⟨j1, P, j2, j3, j4, -, s', c1, j6, j7, j8, j9, j10⟩ := i2 _ _ h2
            have hs4 : s' = 19 ∨ s' = 16 := j10.imp id (fun h => h.1)
            have hm : ∀ t r, r1 = t :: r → t.k ∉ [(8 : Int)] → moveP 15 s' t.k = -1 := fun t r e hk => by
              simp only [List.mem_singleton] at hk
              rcases j10 with rfl | ⟨rfl, -, t', r', e', h5⟩
              · simp [moveP, moveFactP, hk]
              · rw [e] at e'; cases e'; simp [moveP, moveFactP, hk, h5]
            simp only
            cases h3 : takeP ec eo [8] r1 with
            | bad x o => exact ⟨fun x' o' h => by cases h; rw [e1, j6]; exact take_bad2 hm j1 h3, fun y r' h => by cases h⟩
            | ok s r2 =>
              obtain ⟨rfl, hs⟩ := take_isok h3
              have h8 : s.k = 8 := by simpa using hs
              have e2 : chkR ec eo 15 s' c1 (s :: r2) = chkR ec eo 15 15 c1 r2 := chk_go (by rw [h8]; rcases hs4 with rfl | rfl <;> decide) (by decide) (by rw [h8]; rcases hs4 with rfl | rfl <;> simp [takeC]) j9
              have hlen : r2.length < n := by
                have := congrArg List.length j2
                simp only [List.length_append, List.length_cons] at this hn
                omega
              obtain ⟨k1, k2⟩ := facts_sim (eo := eo) n (acc ++ [a]) r2 c1 (by rw [j7]; simp [hc]) j9 (j1.tail (by omega)) hlen
              refine ⟨fun x o h => by rw [e1, j6, e2]; exact k1 _ _ h, fun b r' h => ?_⟩
              obtain ⟨l1, S, last, l2, l3, l4⟩ := k2 _ _ h
              have hc3 := closed3 (t := t) j4 (by omega)
              refine ⟨by rw [e1, j6, e2, l1], (t :: P) :: S, last, ?_, by rw [l3, j3]; simp, ?_⟩
              · rw [j2, show t :: (P ++ s :: r2) = (t :: P) ++ s :: r2 from rfl, cut_sep (hc3 8 (by omega)) h8 (by decide) (by decide), cut_out, l2]; rfl
              · intro L hL
                rcases List.mem_cons.1 hL with rfl | h
                · simp
                · exact l4 L h

theorem prog_meet {ec eo : Int} {R : List Tok} (hw : Wf ec R) :
    (∀ x o, progP ec eo R = .bad x o → chkR ec eo 0 0 ⟨0, 0, 0⟩ R = .bad x o) ∧
    (∀ b r', progP ec eo R = .ok b r' → chkR ec eo 0 0 ⟨0, 0, 0⟩ R = .ok () [] ∧ ∃ S last, cutF 8 0 [] [] R = S ++ [last] ∧ b = S.map clsR ∧ ∀ L ∈ S, ClsOk L) := by
  have := prog_sim (ec := ec) (eo := eo) (R.length + 1) [] R ⟨0, 0, 0⟩ rfl ⟨fun _ => by decide, fun _ => by decide, by decide, by decide⟩ hw (by omega)
  unfold progP
  simpa only [List.nil_append] using this
theorem facts_meet {ec eo : Int} {R : List Tok} (hw : Wf ec R) :
    (∀ x o, factsP ec eo R = .bad x o → chkR ec eo 15 15 ⟨0, 0, 0⟩ R = .bad x o) ∧
    (∀ b r', factsP ec eo R = .ok b r' → chkR ec eo 15 15 ⟨0, 0, 0⟩ R = .ok () [] ∧ ∃ S last, cutF 8 0 [] [] R = S ++ [last] ∧ b = S.map atomR ∧ ∀ L ∈ S, L ≠ []) := by
  have := facts_sim (ec := ec) (eo := eo) (R.length + 1) [] R ⟨0, 0, 0⟩ rfl ⟨fun _ => by decide, fun _ => by decide, by decide, by decide⟩ hw (by omega)
  unfold factsP
  simpa only [List.nil_append] using this
theorem query_meet {ec eo : Int} {R : List Tok} (hw : Wf ec R) :
    (∀ x o, queryP ec eo R = .bad x o → chkR ec eo 5 5 ⟨0, 0, 0⟩ R = .bad x o) ∧
    (∀ b r', queryP ec eo R = .ok b r' → chkR ec eo 5 5 ⟨0, 0, 0⟩ R = .ok () [] ∧ ∃ P last, cutF 8 0 [] [] R = [P, last] ∧ b = bodyR P ∧ BodyOk P) := by
  have hl : Lim 5 ⟨0, 0, 0⟩ := ⟨fun _ => by decide, fun _ => by decide, by decide, by decide⟩
  obtain ⟨k1, k2⟩ := body_sim (ec := ec) (eo := eo) (first := 5) (.inr rfl) (R.length + 1) [] R ⟨0, 0, 0⟩ rfl hl hw (by omega)
  unfold queryP bodyP
  cases h1 : bodyF ec eo (R.length + 1) [] R with
  | bad x o => exact ⟨fun x' o' h => by cases h; exact k1 _ _ h1, fun y r' h => by cases h⟩
  | ok b r =>
    obtain ⟨l1, P, dot, l2, l3, l4, -, l6, l7, c2, l8, l9, l10⟩ := k2 _ _ h1
    simp only
    have hb : chkR ec eo 5 5 ⟨0, 0, 0⟩ R = chkR ec eo 5 25 c2 r := l8
    cases h2 : takeP ec eo [0] r with
    | bad x o => exact ⟨fun x' o' h => by cases h; rw [hb]; exact take_bad2 (fun t r _ hk => by simp only [List.mem_singleton] at hk; simp [moveP, moveBodyP, hk]) l1 h2, fun y r' h => by cases h⟩
    | ok t r2 =>
      obtain ⟨rfl, ht⟩ := take_isok h2
      have h0 : t.k = 0 := by simpa using ht
      obtain ⟨rfl, rfl⟩ := l1.last h0
      refine ⟨fun x o h => (by cases h), fun b r' h => ?_⟩
      cases h
      refine ⟨by rw [hb]; exact chk_done (by rw [h0]; decide) h0 (by simp [takeC]) l10 l1, P, [t], ?_, by rw [l7]; simp, l6⟩
      rw [l2, cut_sep l4 l3 (by decide) (by decide), cut_out, cut_last h0]; rfl
theorem fact_meet {ec eo : Int} {R : List Tok} (hw : Wf ec R) :
    (∀ x o, factP ec eo R = .bad x o → chkR ec eo 20 20 ⟨0, 0, 0⟩ R = .bad x o) ∧
    (∀ b r', factP ec eo R = .ok b r' → chkR ec eo 20 20 ⟨0, 0, 0⟩ R = .ok () [] ∧ b = atomR R ∧ R ≠ []) := by
  have hl : Lim 20 ⟨0, 0, 0⟩ := ⟨fun _ => by decide, fun _ => by decide, by decide, by decide⟩
  unfold factP
  cases h1 : takeP ec eo [1] R with
  | bad x o => exact ⟨fun x' o' h => by cases h; exact take_bad2 (fun t r _ hk => by simp only [List.mem_singleton] at hk; simp [moveP, moveFactP, hk]) hw h1, fun y r' h => by cases h⟩
  | ok t r =>
    obtain ⟨rfl, ht⟩ := take_isok h1
    have hk : t.k = 1 := by simpa using ht
    have e1 : chkR ec eo 20 20 ⟨0, 0, 0⟩ (t :: r) = chkR ec eo 20 21 ⟨0, 0, 0⟩ r := chk_go (by rw [hk]; decide) (by decide) (by rw [hk]; simp [takeC]) hl
    obtain ⟨i1, i2⟩ := atom_sim (ec := ec) (eo := eo) (sN := 21) st_one (by decide) (fun c => by simp [takeC]) t r _ hl (hw.tail (by omega))
    simp only
    cases h2 : atomP ec eo valueKs t r with
    | bad x o => exact ⟨fun x' o' h => by cases h; rw [e1]; exact i1 _ _ h2, fun y r' h => by cases h⟩
    | ok a r1 =>
      obtain ⟨j1, P, j2, j3, j4, -, s', c1, j6, j7, j8, j9, j10⟩ := i2 _ _ h2
      have hs4 : s' = 24 ∨ s' = 21 := j10.imp id (fun h => h.1)
      have hm : ∀ t r, r1 = t :: r → t.k ∉ [(0 : Int)] → moveP 20 s' t.k = -1 := fun t r e hk => by
        simp only [List.mem_singleton] at hk
        rcases j10 with rfl | ⟨rfl, -, t', r', e', h5⟩
        · simp [moveP, moveFactP, hk]
        · rw [e] at e'; cases e'; simp [moveP, moveFactP, hk, h5]
      simp only
      cases h3 : takeP ec eo [0] r1 with
      | bad x o => exact ⟨fun x' o' h => by cases h; rw [e1, j6]; exact take_bad2 hm j1 h3, fun y r' h => by cases h⟩
      | ok e r2 =>
        obtain ⟨rfl, he⟩ := take_isok h3
        have h0 : e.k = 0 := by simpa using he
        obtain ⟨rfl, rfl⟩ := j1.last h0
        refine ⟨fun x o h => (by cases h), fun b r' h => ?_⟩
        cases h
        refine ⟨by rw [e1, j6]; exact chk_done (by rw [h0]; rcases hs4 with rfl | rfl <;> decide) h0 (by rcases hs4 with rfl | rfl <;> simp [takeC]) j9 j1, ?_, by simp⟩
        rw [j3, j2]
        simp [atomR, List.filter_append, List.filter_cons, show isTermB e.k = false by simp [isTermB, h0]]
end Go.Proofs.YtfbmddgjbmapiaaDoor

namespace Go.Proofs.YtfbmddgjbmapiaaDoor
set_option linter.unusedSimpArgs false
set_option linter.unusedVariables false
open Go.RowKit

theorem endOf_snoc (t : Tok) : ∀ (l : List Tok) (o : Nat), endOf o (l ++ [t]) = t.en
  | [], _ => rfl
  | x :: r, _ => endOf_snoc t r x.en

theorem toks_at {s : ByteArray} {o : Nat} {L : List Tok} {c : Int} {f : Nat} (h : Toks s o L c f) : ∀ i t, L[i]? = some t → nextX s (endOf o (L.take i)) = .tok t ∧ endOf o (L.take i) ≤ s.size := by
  induction h with
  | bad _ _ => intro i t h; simp at h
  | last h1 h2 h3 =>
    intro i t h
    rcases i with _ | i
    · obtain rfl := Option.some.inj h; exact ⟨h2, h1⟩
    · simp at h
  | more h1 h2 h3 h4 ih =>
    intro i t h
    rcases i with _ | i
    · obtain rfl := Option.some.inj h; exact ⟨h2, h1⟩
    · exact ih i t h

theorem next_end {s : ByteArray} {o : Nat} {t : Tok} (ho : o ≤ s.size) (h : nextX s o = .tok t) (hk : t.k = 0) : t = endTok s.size := by
  have hg := gapW_le s o ho
  unfold nextX at h
  split at h
  · obtain ⟨_, h2⟩ := tokAt_en hg.2 h
    rcases h2 with ⟨_, h3, _⟩ | ⟨h3, _⟩
    · rw [h3] at h
      unfold tokAt at h
      rw [dif_neg (by omega)] at h
      injection h with h
      exact h.symm
    · omega
  · cases h

theorem toks_zero {s : ByteArray} {o : Nat} {L : List Tok} {c : Int} {f : Nat} (h : Toks s o L c f) (hc : c = 0) : f = 0 ∧ 0 < L.length ∧ L[L.length - 1]? = some (endTok s.size) ∧ ∀ i t, L[i]? = some t → i + 1 < L.length → t.k ≠ 0 := by
  induction h with
  | bad h1 h2 => have := next_bad h2; omega
  | last h1 h2 h3 =>
    refine ⟨rfl, by simp, by rw [← next_end h1 h2 h3]; rfl, ?_⟩
    intro i t h hi
    simp at hi
  | more h1 h2 h3 h4 ih =>
    obtain ⟨a, b, d, e⟩ := ih hc
    refine ⟨a, by simp, ?_, ?_⟩
    · rw [← d, List.length_cons, show ∀ n, 0 < n → n + 1 - 1 = (n - 1) + 1 from fun n hn => by omega]
      · rfl
      · exact b
    · intro i t h hi
      rcases i with _ | i
      · obtain rfl := Option.some.inj h; exact h3
      · exact e i t h (by simpa using hi)

theorem toks_bad {s : ByteArray} {o : Nat} {L : List Tok} {c : Int} {f : Nat} (h : Toks s o L c f) (hc : c ≠ 0) : nextX s (endOf o L) = .bad c f ∧ endOf o L ≤ s.size ∧ ∀ t ∈ L, t.k ≠ 0 := by
  induction h with
  | bad h1 h2 => exact ⟨h2, h1, by simp⟩
  | last h1 h2 h3 => exact absurd rfl hc
  | more h1 h2 h3 h4 ih =>
    obtain ⟨a, b, d⟩ := ih hc
    refine ⟨a, b, ?_⟩
    intro t ht
    rcases List.mem_cons.1 ht with rfl | ht
    · exact h3
    · exact d t ht

theorem toks_len {s : ByteArray} {o : Nat} {L : List Tok} {c : Int} {f : Nat} (h : Toks s o L c f) : L.length + o ≤ s.size + 1 := by
  induction h with
  | bad h1 h2 => simp; omega
  | last h1 h2 h3 => simp; omega
  | more h1 h2 h3 h4 ih =>
    obtain ⟨-, -, a, b⟩ := next_tok h1 h2
    obtain ⟨_, b1, b2⟩ := b.resolve_left (fun h => h3 h.1)
    simp
    omega

end Go.Proofs.YtfbmddgjbmapiaaDoor

namespace Go.Proofs.YtfbmddgjbmapiaaDoor
set_option linter.unusedSimpArgs false
set_option linter.unusedVariables false
open Go.RowKit

theorem lineC_append (r : List UInt8) : ∀ l : List UInt8, lineC (l ++ 10 :: r) = lineC l
  | [] => rfl
  | b :: l => by
    rw [List.cons_append]
    unfold lineC
    rw [lineC_append r l]

theorem opens_append {l r : List UInt8} (h : 2 ≤ l.length) : opens (l ++ r) = opens l := by
  match l, h with
  | a :: b :: l, _ => rfl
theorem closes_append {l r : List UInt8} (h : 2 ≤ l.length) : closes (l ++ r) = closes l := by
  match l, h with
  | a :: b :: l, _ => rfl

theorem blockC_append (r : List UInt8) : ∀ (n : Nat) (l : List UInt8) (d j : Nat), l.length = n → blockC d l = some j → blockC d (l ++ r) = some j := by
  intro n
  induction n using Nat.strongRecOn with
  | ind n ih =>
    intro l d j hl h
    have hj := blockC_le _ _ _ h
    have hdrop : ∀ k, k ≤ l.length → (l ++ r).drop k = l.drop k ++ r := fun k hk => List.drop_append_of_le_length hk
    cases ho : opens l with
    | true =>
      rw [blockC_open ho] at h
      obtain ⟨x, hx, rfl⟩ := Option.map_eq_some_iff.1 h
      rw [blockC_open (by rw [opens_append (by omega)]; exact ho), hdrop 2 (by omega), ih (l.drop 2).length (by simp; omega) (l.drop 2) (d + 1) x rfl hx]
      rfl
    | false =>
      cases hc : closes l with
      | true =>
        rw [blockC_close hc] at h
        rw [blockC_close (by rw [closes_append (by omega)]; exact hc)]
        split
        · next h1 => rw [if_pos h1] at h; exact h
        · next h1 =>
          rw [if_neg h1] at h
          obtain ⟨x, hx, rfl⟩ := Option.map_eq_some_iff.1 h
          rw [hdrop 2 (by omega), ih (l.drop 2).length (by simp; omega) (l.drop 2) (d - 1) x rfl hx]
          rfl
      | false =>
        rw [blockC_else ho hc] at h
        obtain ⟨x, hx, rfl⟩ := Option.map_eq_some_iff.1 h
        rw [blockC_else (by rw [opens_append (by omega)]; exact ho) (by rw [closes_append (by omega)]; exact hc), hdrop 1 (by omega), ih (l.drop 1).length (by simp; omega) (l.drop 1) d x rfl hx]
        rfl

theorem item_append {l r : List UInt8} {k : Nat} (h : item l = .go k) : item (l ++ 10 :: r) = .go k := by
  match l, h with
  | [], h => cases h
  | a :: l, h =>
    rw [List.cons_append, item_cons]
    rw [item_cons] at h
    split
    · next hb => rw [if_pos hb] at h; exact h
    · next hb =>
      rw [if_neg hb] at h
      split
      · next h37 =>
        rw [if_pos h37] at h
        rw [lineC_append]; exact h
      · next h37 =>
        rw [if_neg h37] at h
        split at h
        · next ho =>
          have h2 := opens_len ho
          have ho' : opens (a :: (l ++ 10 :: r)) = true := by
            have := opens_append (r := 10 :: r) h2
            rw [List.cons_append] at this
            rw [this]; exact ho
          rw [if_pos ho']
          cases hbc : blockC 1 (l.drop 1) with
          | none => rw [hbc] at h; cases h
          | some x =>
            rw [hbc] at h
            simp at h2
            rw [List.drop_append_of_le_length (by omega), blockC_append _ _ (l.drop 1) 1 x rfl hbc]
            exact h
        · cases h

theorem gap_append (r : List UInt8) : ∀ (N : Nat) (l : List UInt8), l.length = N → gapN l = (l.length, true) → gapN (l ++ 10 :: r) = (l.length + (gapN (10 :: r)).1, (gapN (10 :: r)).2) := by
  intro N
  induction N using Nat.strongRecOn with
  | ind N ih =>
    intro l hl h
    cases hi : item l with
    | stop =>
      rw [gapN_stop hi] at h
      have h0 : l.length = 0 := (congrArg Prod.fst h).symm
      obtain rfl := List.length_eq_zero_iff.1 h0
      exact Prod.ext (by simp) rfl
    | bad => rw [gapN_bad hi] at h; have := congrArg Prod.snd h; cases this
    | go k =>
      by_cases hk : 0 < k ∧ k ≤ l.length
      · rw [gapN_go hi hk.1 hk.2] at h
        have h1 : (gapN (l.drop k)).1 + k = l.length := congrArg Prod.fst h
        have h2 : (gapN (l.drop k)).2 = true := congrArg Prod.snd h
        have hd := ih (l.drop k).length (by simp; omega) (l.drop k) rfl (Prod.ext (by simp; omega) h2)
        rw [gapN_go (item_append hi) hk.1 (by simp; omega), List.drop_append_of_le_length hk.2, hd]
        exact Prod.ext (by simp; omega) rfl
      · rw [gapN, hi] at h
        simp only at h
        rw [dif_neg hk] at h
        have h0 : l.length = 0 := (congrArg Prod.fst h).symm
        obtain rfl := List.length_eq_zero_iff.1 h0
        exact Prod.ext (by simp) rfl

theorem gap_feed (l : List UInt8) : gapN (10 :: l) = ((gapN l).1 + 1, (gapN l).2) := gapN_go (l := 10 :: l) (k := 1) (by rfl) (by omega) (by simp)

/-- src, a line feed, the name a, a line feed, src. -/
def twice (s : ByteArray) : ByteArray := s ++ ⟨#[10, 97, 10]⟩ ++ s

theorem twice_rest (s : ByteArray) : rest (twice s) 0 = s.data.toList ++ 10 :: 97 :: 10 :: s.data.toList := by
  unfold rest twice
  rw [List.drop_zero, ByteArray.data_append, ByteArray.data_append]
  simp
theorem twice_size (s : ByteArray) : (twice s).size = 2 * s.size + 3 := by
  unfold twice
  rw [ByteArray.size_append, ByteArray.size_append]
  have : (⟨#[10, 97, 10]⟩ : ByteArray).size = 3 := rfl
  omega

theorem twice_from (s : ByteArray) (k : Nat) : rest (twice s) k = (s.data.toList ++ 10 :: 97 :: 10 :: s.data.toList).drop k := by
  rw [← twice_rest]
  unfold rest
  rw [List.drop_zero]

theorem twice_scan (s : ByteArray) (h : gapN s.data.toList = (s.size, true)) (hs : 2 * s.size + 3 ≤ 65536) :
    scanX (twice s) = ([⟨1, ⟨#[97]⟩, 0, 0, s.size + 1, s.size + 2⟩, endTok (2 * s.size + 3)], 0, 0) := by
  have hsz := twice_size s
  have hlen : s.data.toList.length = s.size := by simp
  have hg0 : gapW (twice s) 0 = (s.size + 1, true) := by
    unfold gapW
    rw [twice_rest, gap_append _ _ _ rfl (by rw [hlen]; exact h), gap_feed, hlen, gapN_stop (by rfl)]
    exact Prod.ext (by simp) rfl
  have r1 : rest (twice s) (s.size + 1) = 97 :: 10 :: s.data.toList := by
    rw [twice_from, List.drop_append, List.drop_of_length_le (by simp), hlen]
    simp
  have r2 : rest (twice s) (s.size + 2) = 10 :: s.data.toList := by
    rw [twice_from, List.drop_append, List.drop_of_length_le (by simp), hlen]
    simp
  have hlt : s.size + 1 < (twice s).size := by omega
  have b0 : (twice s)[s.size + 1] = 97 := by
    have := rest_cons (twice s) (s.size + 1) hlt
    rw [r1] at this
    injection this with this
    exact this.symm
  have hb : ((twice s)[s.size + 1].toNat : Int) = 97 := by rw [b0]; rfl
  have hrun : runC (rest (twice s) (s.size + 1)) = 1 := by
    rw [r1]
    unfold runC
    rw [if_pos (by rfl)]
    unfold runC
    rw [if_neg (by decide)]
  have hex : (twice s).extract (s.size + 1) (s.size + 1 + 1) = ⟨#[97]⟩ := by
    apply ByteArray.ext
    apply Array.ext'
    rw [ByteArray.data_extract, Array.toList_extract, List.extract_eq_take_drop]
    have : (twice s).data.toList.drop (s.size + 1) = 97 :: 10 :: s.data.toList := r1
    rw [this, show s.size + 1 + 1 - (s.size + 1) = 1 by omega]; rfl
  have n1 : nextX (twice s) 0 = .tok ⟨1, ⟨#[97]⟩, 0, 0, s.size + 1, s.size + 2⟩ := by
    unfold nextX
    rw [hg0]
    simp only [if_true]
    unfold tokAt
    rw [dif_pos hlt, if_pos (by rw [hb]; rfl)]
    unfold wordX
    simp only [hrun]
    rw [if_neg (by omega)]
    simp only [hex]
    rw [if_neg (by rw [ByteArray.toList_eq]; decide), if_pos (by rfl)]
  have hg1 : gapW (twice s) (s.size + 2) = (2 * s.size + 3, true) := by
    unfold gapW
    rw [r2, gap_feed, h]
    exact Prod.ext (by simp; omega) rfl
  have n2 : nextX (twice s) (s.size + 2) = .tok (endTok (2 * s.size + 3)) := by
    unfold nextX
    rw [hg1]
    simp only [if_true]
    unfold tokAt
    rw [dif_neg (by omega)]
    rfl
  unfold scanX eachX
  rw [if_neg (by omega), eachF_go n1 (by simp) (by simp) (by simp only; omega), eachF_stop n2 (.inr rfl)]
  rfl

/-- Nothing but a gap: the end is all that Scan lists. -/
theorem idle_iff (s : ByteArray) : ((scanX s).2.1 = 0 ∧ (scanX s).1.length = 1) ↔ blankW s 0 (s.size : Int) = true := by
  by_cases hs : 65536 < s.size
  · have e1 : scanX s = ([], 1, 0) := if_pos hs
    have e2 : blankW s 0 (s.size : Int) = false := if_neg (by omega)
    rw [e1, e2]
    simp
  · have e2 : blankW s 0 (s.size : Int) = ((gapN (pieceL s 0 s.size)).2 && decide (0 + (gapN (pieceL s 0 s.size)).1 = s.size)) := if_pos ⟨by omega, by omega, by omega, by omega⟩
    have hp : pieceL s 0 s.size = rest s 0 := by
      unfold pieceL rest
      rw [List.take_of_length_le (by simp)]
    rw [e2, hp]
    have T := scan_toks s (by omega)
    constructor
    · rintro ⟨h1, h2⟩
      match hL : (scanX s).1, h2 with
      | [t], _ =>
        rw [hL] at T
        obtain ⟨n1, h3⟩ := T.step
        rcases h3 with ⟨h4, _⟩ | ⟨h4, T2⟩
        · obtain ⟨a1, a2, _, a3⟩ := next_tok (Nat.zero_le _) n1
          have a4 : t.off = s.size := by rcases a3 with ⟨_, b, _⟩ | ⟨b, _⟩ <;> omega
          have a5 : (gapN (rest s 0)).2 = true := a1
          have a6 : (gapW s 0).1 = 0 + (gapN (rest s 0)).1 := rfl
          rw [a5]
          simp only [Bool.true_and, decide_eq_true_eq]
          omega
        · have := T2.stop
          have := next_bad this
          omega
    · intro h
      simp only [Bool.and_eq_true, decide_eq_true_eq] at h
      have hg : gapW s 0 = (s.size, true) := Prod.ext (by show 0 + _ = _; omega) h.1
      have n1 : nextX s 0 = .tok (endTok s.size) := by
        unfold nextX
        rw [hg]
        simp only [if_true]
        unfold tokAt
        rw [dif_neg (by omega)]
        rfl
      have : scanX s = ([endTok s.size], 0, 0) := by
        unfold scanX eachX
        rw [if_neg hs, eachF_stop n1 (.inr rfl)]
        rfl
      rw [this]
      exact ⟨rfl, rfl⟩

theorem blank_gapN (s : ByteArray) (h : blankW s 0 (s.size : Int) = true) : gapN s.data.toList = (s.size, true) := by
  unfold blankW at h
  split at h
  · have hp : pieceL s (0 : Int).toNat (s.size : Int).toNat = s.data.toList := by
      unfold pieceL
      simp
      exact List.take_of_length_le (by simp)
    rw [hp] at h
    simp only [Bool.and_eq_true, decide_eq_true_eq] at h
    exact Prod.ext (by have := h.2; simp at this; exact this) h.1
  · cases h

end Go.Proofs.YtfbmddgjbmapiaaDoor

namespace Go.Proofs.YtfbmddgjbmapiaaDoor
set_option linter.unusedSimpArgs false
set_option linter.unusedVariables false
open Go.RowKit

/-- Two lists have the same first n bytes. -/
def Agree (l l' : List UInt8) (n : Nat) : Prop := ∀ i, i < n → l'[i]? = l[i]?
/-- What stands behind the first n bytes of l' stands there in l too, or is a blank. -/
def Safe (l l' : List UInt8) (n : Nat) : Prop := ∀ b, l'[n]? = some b → l[n]? = some b ∨ b = 10 ∨ b = 32

theorem Agree.mono {l l' : List UInt8} {n m : Nat} (h : Agree l l' n) (hm : m ≤ n) : Agree l l' m := fun i hi => h i (by omega)
theorem Agree.drop {l l' : List UInt8} {n : Nat} (h : Agree l l' n) (k : Nat) : Agree (l.drop k) (l'.drop k) (n - k) := fun i hi => by
  rw [List.getElem?_drop, List.getElem?_drop]; exact h _ (by omega)
theorem Agree.take {l l' : List UInt8} {n : Nat} (h : Agree l l' n) : l'.take n = l.take n := by
  apply List.ext_getElem?
  intro i
  rw [List.getElem?_take, List.getElem?_take]
  split
  · exact h i (by assumption)
  · rfl
theorem Agree.len {l l' : List UInt8} {n : Nat} (h : Agree l l' n) (hn : n ≤ l.length) : n ≤ l'.length := by
  rcases n with _ | n
  · omega
  · have e := h n (by omega)
    rw [List.getElem?_eq_getElem (l := l) (by omega)] at e
    have := (List.getElem?_eq_some_iff.1 e).1
    omega
theorem Safe.drop {l l' : List UInt8} {n : Nat} (h : Safe l l' n) {k : Nat} (hk : k ≤ n) : Safe (l.drop k) (l'.drop k) (n - k) := fun b hb => by
  rw [List.getElem?_drop] at hb ⊢
  rw [show k + (n - k) = n by omega] at hb ⊢
  exact h b hb

theorem runC_iff : ∀ (l : List UInt8) (m : Nat), runC l = m ↔ m ≤ l.length ∧ (∀ i b, i < m → l[i]? = some b → bWord b.toNat = true) ∧ (∀ b, l[m]? = some b → bWord b.toNat = false)
  | [], m => by
    constructor
    · intro h
      have h0 : m = 0 := h.symm
      subst h0
      exact ⟨by simp, fun i b h => by omega, fun b h => by simp at h⟩
    · intro h
      have := h.1
      simp at this
      exact this.symm
  | a :: r, 0 => by
    unfold runC
    constructor
    · intro h
      split at h
      · omega
      · next hw => exact ⟨by simp, fun i b h => by omega, fun b hb => by simp at hb; subst hb; simpa using hw⟩
    · intro h
      have := h.2.2 a (by simp)
      rw [if_neg (by rw [this]; simp)]
  | a :: r, m + 1 => by
    have ih := runC_iff r m
    unfold runC
    constructor
    · intro h
      split at h
      · next hw =>
        obtain ⟨h1, h2, h3⟩ := ih.1 (by omega)
        refine ⟨by simp; omega, ?_, ?_⟩
        · intro i b hi hb
          rcases i with _ | i
          · simp at hb; subst hb; exact hw
          · exact h2 i b (by omega) (by simpa using hb)
        · intro b hb
          exact h3 b (by simpa using hb)
      · omega
    · rintro ⟨h1, h2, h3⟩
      rw [if_pos (h2 0 a (by omega) (by simp))]
      have := ih.2 ⟨by simp at h1; omega, fun i b hi hb => h2 (i + 1) b (by omega) (by simpa using hb), fun b hb => h3 b (by simpa using hb)⟩
      omega

theorem runC_pre {l l' : List UInt8} (ha : Agree l l' (runC l)) (hs : Safe l l' (runC l)) : runC l' = runC l := by
  obtain ⟨h1, h2, h3⟩ := (runC_iff l _).1 rfl
  refine (runC_iff l' _).2 ⟨ha.len h1, fun i b hi hb => h2 i b hi (by rw [← ha i hi]; exact hb), fun b hb => ?_⟩
  rcases hs b hb with h | h | h
  · exact h3 b h
  · subst h; rfl
  · subst h; rfl

theorem extract_list (s : ByteArray) (a n : Nat) : (s.extract a (a + n)).data.toList = (rest s a).take n := by
  rw [ByteArray.data_extract, Array.toList_extract, List.extract_eq_take_drop]
  unfold rest
  rw [show a + n - a = n by omega]

theorem extract_pre {s s' : ByteArray} {g g' n : Nat} (ha : Agree (rest s g) (rest s' g') n) : s'.extract g' (g' + n) = s.extract g (g + n) := by
  apply ByteArray.ext
  apply Array.ext'
  rw [extract_list, extract_list, ha.take]

theorem first_byte (s : ByteArray) (g : Nat) (h : g < s.size) : (rest s g)[0]? = some s[g] := by rw [rest_cons s g h]; rfl
theorem nth_byte (s : ByteArray) (g j : Nat) (h : g + j < s.size) : (rest s g)[j]? = some s[g + j] := by
  have := first_byte s (g + j) h
  rw [← rest_drop, List.getElem?_drop] at this
  exact this
theorem lt_of_byte {s : ByteArray} {g j : Nat} {b : UInt8} (h : (rest s g)[j]? = some b) : g + j < s.size := by
  have := (List.getElem?_eq_some_iff.1 h).1
  rw [rest_len] at this
  omega
theorem byte_pre {s s' : ByteArray} {g g' n j : Nat} (ha : Agree (rest s g) (rest s' g') n) (hj : j < n) (h : g + j < s.size) : ∃ h' : g' + j < s'.size, s'[g' + j] = s[g + j] := by
  have e := ha j hj
  rw [nth_byte s g j h] at e
  have h' := lt_of_byte e
  rw [nth_byte s' g' j h'] at e
  exact ⟨h', Option.some.inj e⟩

theorem wordX_len {s : ByteArray} {o : Nat} {t : Tok} (h : wordX s o = .tok t) : t.en = o + runC (rest s o) := by
  unfold wordX at h
  simp only at h
  repeat' split at h
  all_goals first | (injection h with h; subst h; rfl) | cases h

theorem wordX_pre {s s' : ByteArray} {g g' : Nat} {t : Tok} (h : wordX s g = .tok t) (ha : Agree (rest s g) (rest s' g') (t.en - g)) (hs : Safe (rest s g) (rest s' g') (t.en - g)) :
    wordX s' g' = .tok ⟨t.k, t.t, t.n, t.op, g', g' + (t.en - g)⟩ := by
  have he := wordX_len h
  rw [show t.en - g = runC (rest s g) by omega] at ha hs ⊢
  have hr := runC_pre ha hs
  have hx := extract_pre ha
  unfold wordX at h ⊢
  simp only at h ⊢
  rw [hr, hx]
  generalize runC (rest s g) = m at *
  split
  · next h64 => rw [if_pos h64] at h; cases h
  · next h64 =>
    rw [if_neg h64] at h
    split
    · next hn => rw [if_pos hn] at h; injection h with h; subst h; rfl
    · next hn =>
      rw [if_neg hn] at h
      split
      · next hl => rw [if_pos hl] at h; injection h with h; subst h; rfl
      · next hl => rw [if_neg hl] at h; injection h with h; subst h; rfl

theorem intX_len {s : ByteArray} {o : Nat} {t : Tok} (h : intX s o = .tok t) : t.en = o + (1 + runC (rest s (o + 1))) := by
  unfold intX at h
  split at h
  · injection h with h; subst h; show o + 1 + _ = _; omega
  · cases h

theorem intX_pre {s s' : ByteArray} {g g' : Nat} {t : Tok} (h : intX s g = .tok t) (ha : Agree (rest s g) (rest s' g') (t.en - g)) (hs : Safe (rest s g) (rest s' g') (t.en - g)) :
    intX s' g' = .tok ⟨t.k, t.t, t.n, t.op, g', g' + (t.en - g)⟩ := by
  have he := intX_len h
  have e1 : t.en - g = 1 + runC (rest s (g + 1)) := by omega
  rw [e1] at ha hs ⊢
  have hr : runC (rest s' (g' + 1)) = runC (rest s (g + 1)) := by
    rw [← rest_drop, ← rest_drop]
    rw [← rest_drop] at ha hs
    have h1 := ha.drop 1
    have h2 := hs.drop (k := 1) (by omega)
    rw [show 1 + runC ((rest s g).drop 1) - 1 = runC ((rest s g).drop 1) by omega] at h1 h2
    exact runC_pre h1 h2
  have hx := extract_pre ha
  unfold intX at h ⊢
  rw [hr, show g' + 1 + runC (rest s (g + 1)) = g' + (1 + runC (rest s (g + 1))) by omega, hx]
  rw [show g + 1 + runC (rest s (g + 1)) = g + (1 + runC (rest s (g + 1))) by omega] at h
  split
  · next v hv => rw [hv] at h; injection h with h; subst h; rfl
  · next hv =>
    split at h
    · next v hv' => exact absurd hv' (hv v)
    · cases h

def begL (l : List UInt8) : Bool := bDig (((l[0]?).getD 0).toNat : Int) || ((((l[0]?).getD 0).toNat : Int) == 45 && (decide (1 < l.length) && bDig (((l[1]?).getD 0).toNat : Int)))
theorem begB_list (r : ByteArray) : begB r = begL r.data.toList := by
  have h : ∀ i : Nat, r.data[i]! = (r.data.toList[i]?).getD 0 := fun i => by
    rw [Array.getElem?_toList, getElem!_def]
    cases r.data[i]? <;> rfl
  unfold begB begL
  rw [h 0, h 1]
  simp
theorem beg_rest (s : ByteArray) (g : Nat) : begB (s.extract g s.size) = begL (rest s g) := by rw [begB_list, extract_rest]

theorem escX_two (r : ByteArray) (h : (escX r).2 ≠ 0) : 2 ≤ (escX r).2 := by
  have hx := hexX_bounds r
  revert h
  unfold escX
  split
  · unfold escOf
    repeat' split
    all_goals first | (intro; decide) | (intro h; rcases hx.1 with h1 | h1 <;> omega) | (intro h; exact absurd rfl h)
  · intro h; exact absurd rfl h

theorem at_two {r r' : ByteArray} {i : Nat} (h : i < r.size) (e : r'.data.toList[i]? = r.data.toList[i]?) : ∃ h' : i < r'.size, r'[i] = r[i] := by
  rw [List.getElem?_eq_getElem (l := r.data.toList) (by simpa using h)] at e
  have h1 := (List.getElem?_eq_some_iff.1 e)
  obtain ⟨h2, h3⟩ := h1
  exact ⟨by simpa using h2, h3⟩

theorem escX_pre {r r' : ByteArray} (h : (escX r).2 ≠ 0) (ha : Agree r.data.toList r'.data.toList (escX r).2.toNat) : escX r' = escX r := by
  have h2 := escX_two r h
  have h1 : 1 < r.size := by
    unfold escX at h
    split at h
    · assumption
    · exact absurd rfl h
  obtain ⟨h1', e1⟩ := at_two h1 (ha 1 (by omega))
  have e : escX r = escOf r (r[1].toNat : Int) := dif_pos h1
  have e' : escX r' = escOf r' (r[1].toNat : Int) := by rw [← e1]; exact dif_pos h1'
  rw [e] at h ha ⊢
  rw [e']
  unfold escOf at h ha ⊢
  split; · rfl
  split; · rfl
  split; · rfl
  split; · rfl
  split; · rfl
  split
  · next a1 a2 a3 a4 a5 a6 =>
    rw [if_neg a1, if_neg a2, if_neg a3, if_neg a4, if_neg a5, if_pos a6] at h ha
    have h4 : (hexX r).2 = 4 ∧ 4 ≤ r.size := by
      rcases (hexX_bounds r).1 with hh | hh
      · exact absurd hh h
      · exact ⟨hh.1, hh.2⟩
    rw [h4.1] at ha
    have hl := ha.len (n := 4) (by simp; omega)
    have hl' : 4 ≤ r'.size := by simpa using hl
    have hx : r'.extract 2 4 = r.extract 2 4 := by
      apply ByteArray.ext
      apply Array.ext'
      rw [ByteArray.data_extract, ByteArray.data_extract, Array.toList_extract, Array.toList_extract, List.extract_eq_take_drop, List.extract_eq_take_drop]
      have := (ha.drop 2).take
      exact this
    unfold hexX
    rw [if_neg (by omega), if_neg (by omega), hx]
  · rfl

theorem textF_lt (s : ByteArray) (o : Nat) : ∀ (n i : Nat) (vs : List Int) (t : Tok), s.size - i = n → textF s o i vs = .tok t → i < t.en ∧ t.off = o := by
  intro n
  induction n using Nat.strongRecOn with
  | ind n ih =>
    intro i vs t hn h
    rw [textF] at h
    split at h
    · next hlt =>
      split at h
      · cases h
      · split at h
        · injection h with h; subst h; exact ⟨Nat.lt_succ_self _, rfl⟩
        · split at h
          · split at h
            · cases h
            · split at h
              · cases h
              · have := ih _ (by omega) _ _ t rfl h
                exact ⟨by omega, this.2⟩
          · split at h
            · cases h
            · have := ih _ (by omega) _ _ t rfl h
              exact ⟨by omega, this.2⟩
    · cases h

theorem textF_pre {s s' : ByteArray} {g g' : Nat} : ∀ (N j : Nat) (vs : List Int) (t : Tok), s.size - (g + j) = N → textF s g (g + j) vs = .tok t → Agree (rest s g) (rest s' g') (t.en - g) →
    textF s' g' (g' + j) vs = .tok ⟨t.k, t.t, t.n, t.op, g', g' + (t.en - g)⟩ := by
  intro N
  induction N using Nat.strongRecOn with
  | ind N ih =>
    intro j vs t hN h ha
    have hlt1 := (textF_lt s g _ _ _ _ rfl h).1
    rw [textF] at h
    split at h
    · next hlt =>
      obtain ⟨hlt', hb⟩ := byte_pre ha (j := j) (by omega) hlt
      rw [textF, dif_pos hlt', hb]
      split at h
      · cases h
      · next h32 =>
        rw [if_neg h32]
        split at h
        · next h34 =>
          rw [if_pos h34]
          injection h with h
          subst h
          show Nx.tok _ = Nx.tok _
          congr 2
          show g' + j + 1 = g' + (g + j + 1 - g)
          omega
        · next h34 =>
          rw [if_neg h34]
          split at h
          · next h92 =>
            rw [if_pos h92]
            split at h
            · cases h
            · next hn0 =>
              split at h
              · cases h
              · next h255 =>
                have hlt2 := (textF_lt s g _ _ _ _ rfl h).1
                have hesc : escX (s'.extract (g' + j) s'.size) = escX (s.extract (g + j) s.size) := by
                  refine escX_pre (fun e => hn0 (by rw [e]; rfl)) ?_
                  rw [extract_rest, extract_rest, ← rest_drop, ← rest_drop]
                  exact (ha.drop j).mono (by omega)
                rw [hesc, dif_neg hn0, if_neg h255]
                have := ih (s.size - (g + (j + (escX (s.extract (g + j) s.size)).2.toNat))) (by omega) (j + (escX (s.extract (g + j) s.size)).2.toNat) _ t rfl (by rw [← Nat.add_assoc]; exact h) ha
                rw [← Nat.add_assoc] at this
                exact this
          · next h92 =>
            rw [if_neg h92]
            split at h
            · cases h
            · next h255 =>
              rw [if_neg h255]
              have := ih (s.size - (g + (j + 1))) (by omega) (j + 1) _ t rfl (by rw [← Nat.add_assoc]; exact h) ha
              rw [← Nat.add_assoc] at this
              exact this
    · cases h

/-- What the marks' table says of a byte alone, and of a byte and the one behind it. -/
def P1 (a : UInt8) : Option (Nat × Int × Int) :=
  if a == 60 then some (1, 11, 3)
  else if a == 62 then some (1, 11, 5)
  else if a == 61 then some (1, 11, 1)
  else if a == 40 then some (1, 5, 0)
  else if a == 41 then some (1, 6, 0)
  else if a == 44 then some (1, 7, 0)
  else if a == 46 then some (1, 8, 0)
  else none
def P2 (a : UInt8) (b : Option UInt8) : Option (Nat × Int × Int) :=
  if a == 58 && b == some 45 then some (2, 9, 0)
  else if a == 33 && b == some 61 then some (2, 11, 2)
  else if a == 60 && b == some 61 then some (2, 11, 4)
  else if a == 62 && b == some 61 then some (2, 11, 6)
  else P1 a

theorem beq_swap (x a : UInt8) : (x == a) = (a == x) := by
  rw [Bool.eq_iff_iff]; simp only [beq_iff_eq]; exact eq_comm
theorem nil_pre (r : List UInt8) : List.isPrefixOf [] r = true := by cases r <;> rfl
theorem pre_one (x a : UInt8) (r : List UInt8) : Lib.hasPrefix (a :: r) [x] = (a == x) := by
  show ((x == a) && List.isPrefixOf [] r) = (a == x)
  rw [nil_pre, Bool.and_true, beq_swap]
theorem pre_two (x y a : UInt8) (r : List UInt8) : Lib.hasPrefix (a :: r) [x, y] = (a == x && r[0]? == some y) := by
  cases r with
  | nil =>
    show ((x == a) && false) = ((a == x) && false)
    rw [Bool.and_false, Bool.and_false]
  | cons b r =>
    show ((x == a) && ((y == b) && List.isPrefixOf [] r)) = ((a == x) && (b == y))
    rw [nil_pre, Bool.and_true, beq_swap x a, beq_swap y b]
theorem punctL_one (x a : UInt8) (k op : Int) (ms : List (List UInt8 × Int × Int)) (r : List UInt8) : punctL (([x], k, op) :: ms) (a :: r) = if a == x then some (1, k, op) else punctL ms (a :: r) := by
  show (if Lib.hasPrefix (a :: r) [x] = true then some (1, k, op) else punctL ms (a :: r)) = _
  rw [pre_one]
theorem punctL_two (x y a : UInt8) (k op : Int) (ms : List (List UInt8 × Int × Int)) (r : List UInt8) : punctL (([x, y], k, op) :: ms) (a :: r) = if a == x && r[0]? == some y then some (2, k, op) else punctL ms (a :: r) := by
  show (if Lib.hasPrefix (a :: r) [x, y] = true then some (2, k, op) else punctL ms (a :: r)) = _
  rw [pre_two]

theorem punct_two (a : UInt8) (r : List UInt8) : punctL marksT (a :: r) = P2 a r[0]? := by
  unfold marksT P2 P1
  rw [punctL_two, punctL_two, punctL_two, punctL_two, punctL_one, punctL_one, punctL_one, punctL_one, punctL_one, punctL_one, punctL_one]
  rfl

theorem P1_one {a : UInt8} {n : Nat} {k op : Int} (h : P1 a = some (n, k, op)) : n = 1 ∧ a ∈ ([58, 33, 60, 62, 61, 40, 41, 44, 46] : List UInt8) := by
  unfold P1 at h
  repeat' split at h
  all_goals first | (cases h; done) | skip
  all_goals
    injection h with h
    injection h with h _
    refine ⟨h.symm, ?_⟩
    have e := eq_of_beq (by assumption)
    subst e
    decide

theorem P2_blank {a : UInt8} {b : Option UInt8} (h1 : (b == some 45) = false) (h2 : (b == some 61) = false) : P2 a b = P1 a := by
  unfold P2
  rw [h1, h2, Bool.and_false, Bool.and_false, Bool.and_false, Bool.and_false]
  rfl

theorem P2_cases {a : UInt8} {b : Option UInt8} {n : Nat} {k op : Int} (h : P2 a b = some (n, k, op)) : (n = 2 ∧ a ∈ ([58, 33, 60, 62, 61, 40, 41, 44, 46] : List UInt8)) ∨ (n = 1 ∧ P1 a = some (n, k, op)) := by
  unfold P2 at h
  split at h
  · next hh => injection h with h; injection h with h _; simp only [Bool.and_eq_true, beq_iff_eq] at hh; rw [hh.1]; exact .inl ⟨h.symm, by decide⟩
  · split at h
    · next hh => injection h with h; injection h with h _; simp only [Bool.and_eq_true, beq_iff_eq] at hh; rw [hh.1]; exact .inl ⟨h.symm, by decide⟩
    · split at h
      · next hh => injection h with h; injection h with h _; simp only [Bool.and_eq_true, beq_iff_eq] at hh; rw [hh.1]; exact .inl ⟨h.symm, by decide⟩
      · split at h
        · next hh => injection h with h; injection h with h _; simp only [Bool.and_eq_true, beq_iff_eq] at hh; rw [hh.1]; exact .inl ⟨h.symm, by decide⟩
        · exact .inr ⟨(P1_one h).1, h⟩

theorem P2_pre {a : UInt8} {b b' : Option UInt8} {n : Nat} {k op : Int} (h : P2 a b = some (n, k, op)) (h2 : n = 2 → b' = b) (h1 : n = 1 → b' = none ∨ b' = b ∨ b' = some 10 ∨ b' = some 32) : P2 a b' = some (n, k, op) := by
  rcases P2_cases h with ⟨hn, _⟩ | ⟨hn, hp⟩
  · rw [h2 hn]; exact h
  · rcases h1 hn with rfl | rfl | rfl | rfl
    · rw [P2_blank rfl rfl]; exact hp
    · exact h
    · rw [P2_blank (by decide) (by decide)]; exact hp
    · rw [P2_blank (by decide) (by decide)]; exact hp

theorem P2_first {a : UInt8} {b : Option UInt8} {x : Nat × Int × Int} (h : P2 a b = some x) : a ∈ ([58, 33, 60, 62, 61, 40, 41, 44, 46] : List UInt8) := by
  obtain ⟨n, k, op⟩ := x
  rcases P2_cases h with ⟨_, h⟩ | ⟨_, h⟩
  · exact h
  · exact (P1_one h).2

theorem punctX_pre {s s' : ByteArray} {g g' : Nat} {t : Tok} (hg : g < s.size) (hg' : g' < s'.size) (hb : s'[g'] = s[g]) (h : punctX s g = .tok t) (ha : Agree (rest s g) (rest s' g') (t.en - g)) (hs : Safe (rest s g) (rest s' g') (t.en - g)) :
    punctX s' g' = .tok ⟨t.k, t.t, t.n, t.op, g', g' + (t.en - g)⟩ ∧ s[g] ∈ ([58, 33, 60, 62, 61, 40, 41, 44, 46] : List UInt8) := by
  unfold punctX at h ⊢
  rw [rest_cons s g hg] at h
  rw [rest_cons s' g' hg', hb]
  rw [punct_two] at h ⊢
  cases hp : P2 s[g] (rest s (g + 1))[0]? with
  | none => rw [hp] at h; cases h
  | some x =>
    obtain ⟨n, k, op⟩ := x
    refine ⟨?_, P2_first hp⟩
    rw [hp] at h
    unfold punctOf at h
    injection h with h
    subst h
    have en : g + n - g = n := by omega
    simp only [en] at ha hs ⊢
    have d0 : (rest s (g + 1))[0]? = (rest s g)[1]? := by rw [← rest_drop, List.getElem?_drop]
    have d1 : (rest s' (g' + 1))[0]? = (rest s' g')[1]? := by rw [← rest_drop, List.getElem?_drop]
    rw [P2_pre hp (b' := (rest s' (g' + 1))[0]?)]
    · rfl
    · intro e
      rw [d0, d1]
      exact ha 1 (by omega)
    · intro e
      rw [d0, d1]
      subst e
      cases hh : (rest s' g')[1]? with
      | none => exact .inl rfl
      | some b =>
        rcases hs b hh with h | h | h
        · exact .inr (.inl h.symm)
        · subst h; exact .inr (.inr (.inl rfl))
        · subst h; exact .inr (.inr (.inr rfl))

/-- A byte at which no gap goes on. -/
def Start (a : UInt8) : Prop := blankN a.toNat = false ∧ a.toNat ≠ 37 ∧ a ≠ 47

theorem start_word : ∀ n : Fin 256, (bLow (n.val : Int) || (bUp (n.val : Int) || (n.val : Int) == 95)) = true → blankN (n.val : Int) = false ∧ n.val ≠ 37 ∧ n.val ≠ 47 := by decide +kernel
theorem start_beg : ∀ n : Fin 256, (bDig (n.val : Int) = true ∨ (n.val : Int) = 45 ∨ (n.val : Int) = 34) → blankN (n.val : Int) = false ∧ n.val ≠ 37 ∧ n.val ≠ 47 := by decide +kernel
theorem start_of {a : UInt8} (h : blankN (a.toNat : Int) = false ∧ a.toNat ≠ 37 ∧ a.toNat ≠ 47) : Start a := ⟨h.1, h.2.1, fun e => h.2.2 (by rw [e]; rfl)⟩

/-- A token hangs on its own bytes and on the one behind them; and no gap goes on where it begins. -/
theorem tokAt_pre {s s' : ByteArray} {g g' : Nat} {t : Tok} (hg : g ≤ s.size) (h : tokAt s g = .tok t) (hk : t.k ≠ 0) (ha : Agree (rest s g) (rest s' g') (t.en - g)) (hs : Safe (rest s g) (rest s' g') (t.en - g)) :
    tokAt s' g' = .tok ⟨t.k, t.t, t.n, t.op, g', g' + (t.en - g)⟩ ∧ ∃ hlt : g < s.size, Start s[g] := by
  obtain ⟨ho, hc⟩ := tokAt_en hg h
  obtain ⟨h1, h2, h3⟩ := hc.resolve_left (fun h => hk h.1)
  have hlt : g < s.size := by omega
  obtain ⟨hlt', hb⟩ := byte_pre ha (j := 0) (by omega) (by omega)
  simp only [Nat.add_zero] at hlt' hb
  have e0 : (rest s g)[0]? = some s[g] := first_byte s g hlt
  have e0' : (rest s' g')[0]? = some s[g] := by rw [first_byte s' g' hlt', hb]
  unfold tokAt at h ⊢
  rw [dif_pos hlt] at h
  rw [dif_pos hlt', hb]
  rw [beg_rest] at h ⊢
  have hn256 := s[g].toNat_lt
  split at h
  · next hw =>
    rw [if_pos hw]
    exact ⟨wordX_pre h ha hs, hlt, start_of (start_word ⟨_, hn256⟩ hw)⟩
  · next hw =>
    rw [if_neg hw]
    split at h
    · next hbeg =>
      have hbeg' : begL (rest s' g') = true := by
        unfold begL at hbeg ⊢
        rw [e0] at hbeg
        rw [e0']
        simp only [Option.getD_some] at hbeg ⊢
        cases hd : bDig (s[g].toNat : Int) with
        | true => rfl
        | false =>
          rw [hd] at hbeg
          simp only [Bool.false_or, Bool.and_eq_true, decide_eq_true_eq] at hbeg ⊢
          obtain ⟨q1, q2, q3⟩ := hbeg
          have hl1 : (rest s (g + 1))[0]? = (rest s g)[1]? := by rw [← rest_drop, List.getElem?_drop]
          have hrun : 1 ≤ runC (rest s (g + 1)) := by
            rw [rest_len] at q2
            rw [rest_cons s (g + 1) (by omega)] at hl1 ⊢
            rw [← hl1] at q3
            unfold runC
            have q3' : bDig (s[g + 1].toNat : Int) = true := q3
            rw [if_pos (by unfold bWord; rw [q3']; simp)]
            omega
          have hlen := intX_len h
          have ea := ha 1 (by omega)
          have := ha.len (n := t.en - g) (by rw [rest_len]; omega)
          exact ⟨q1, by omega, by rw [ea]; exact q3⟩
      rw [if_pos hbeg']
      refine ⟨intX_pre h ha hs, hlt, start_of (start_beg ⟨_, hn256⟩ ?_)⟩
      unfold begL at hbeg
      rw [e0] at hbeg
      simp only [Option.getD_some] at hbeg
      cases hd : bDig (s[g].toNat : Int) with
      | true => exact .inl rfl
      | false =>
        rw [hd] at hbeg
        simp only [Bool.false_or, Bool.and_eq_true, beq_iff_eq] at hbeg
        exact .inr (.inl hbeg.1)
    · next hbeg =>
      have hnd : bDig (s[g].toNat : Int) = false := by
        cases hd : bDig (s[g].toNat : Int) with
        | false => rfl
        | true =>
          unfold begL at hbeg
          rw [e0] at hbeg
          simp only [Option.getD_some, hd, Bool.true_or, not_true_eq_false] at hbeg
      have hnb : (s[g].toNat : Int) ≠ 45 → begL (rest s' g') = false := fun h45 => by
        unfold begL
        rw [e0']
        simp only [Option.getD_some, hnd, Bool.false_or]
        rw [show ((s[g].toNat : Int) == 45) = false by simpa using h45]
        rfl
      split at h
      · next h34 =>
        rw [if_neg (by rw [hnb (by omega)]; simp), if_pos h34]
        exact ⟨textF_pre _ 1 [] t rfl h ha, hlt, start_of (start_beg ⟨_, hn256⟩ (.inr (.inr h34)))⟩
      · next h34 =>
        obtain ⟨hp, hm⟩ := punctX_pre hlt hlt' hb h ha hs
        have hm' : (s[g].toNat : Int) ≠ 45 ∧ blankN (s[g].toNat : Int) = false ∧ s[g].toNat ≠ 37 ∧ s[g].toNat ≠ 47 := by
          generalize s[g] = a at hm
          simp only [List.mem_cons, List.not_mem_nil, or_false] at hm
          rcases hm with rfl | rfl | rfl | rfl | rfl | rfl | rfl | rfl | rfl <;> decide
        rw [if_neg (by rw [hnb hm'.1]; simp), if_neg h34]
        exact ⟨hp, hlt, start_of hm'.2⟩

end Go.Proofs.YtfbmddgjbmapiaaDoor

namespace Go.Proofs.YtfbmddgjbmapiaaDoor
set_option linter.unusedSimpArgs false
set_option linter.unusedVariables false
open Go.RowKit

theorem blockC_pre {l l' : List UInt8} {d j m : Nat} (h : blockC d l = some j) (hj : j ≤ m) (ha : Agree l l' m) : blockC d l' = some j := by
  have h1 := blockC_take _ l d j m rfl h hj
  have h2 := blockC_append (l'.drop m) _ (l.take m) d j rfl h1
  rw [← ha.take, List.take_append_drop] at h2
  exact h2

theorem agree_cons {a : UInt8} {r l' : List UInt8} {n : Nat} (ha : Agree (a :: r) l' (n + 1)) : ∃ r', l' = a :: r' ∧ Agree r r' n := by
  have e := ha 0 (by omega)
  match l', e with
  | [], e => simp at e
  | b :: r', e =>
    have : b = a := by simpa using e
    subst this
    exact ⟨r', rfl, fun i hi => by simpa using ha (i + 1) (by omega)⟩

theorem lineC_pre : ∀ (l l' : List UInt8), lineC l < l.length → Agree l l' (lineC l + 1) → lineC l' = lineC l
  | [], _, h, _ => by simp at h
  | b :: r, l', h, ha => by
    obtain ⟨r', rfl, ha'⟩ := agree_cons ha
    unfold lineC at h ha' ⊢
    split
    · rfl
    · next hb =>
      rw [if_neg hb] at h ha'
      rw [lineC_pre r r' (by simp at h; omega) ha']

theorem item_pre {l l' : List UInt8} {k : Nat} (h : item l = .go k) (hk : k < l.length) (ha : Agree l l' (k + 1)) : item l' = .go k := by
  match l, h, hk, ha with
  | a :: r, h, hk, ha =>
    obtain ⟨r', rfl, ha'⟩ := agree_cons ha
    rw [item_cons] at h ⊢
    split
    · next hb => rw [if_pos hb] at h; exact h
    · next hb =>
      rw [if_neg hb] at h
      split
      · next h37 =>
        rw [if_pos h37] at h
        injection h with h
        subst h
        simp at hk
        rw [lineC_pre r r' hk ha']
      · next h37 =>
        rw [if_neg h37] at h
        split at h
        · next ho =>
          cases hbc : blockC 1 (r.drop 1) with
          | none => rw [hbc] at h; cases h
          | some x =>
            rw [hbc] at h
            injection h with h
            subst h
            have ho' : opens (a :: r') = true := by
              rw [← opens_take (m := 2) (Nat.le_refl _), (ha.mono (m := 2) (by omega)).take, opens_take (Nat.le_refl _)]; exact ho
            rw [if_pos ho', blockC_pre hbc (m := x + 2 - 1) (by omega) (ha'.drop 1)]
        · cases h

theorem item_start {a : UInt8} (h : Start a) (r : List UInt8) : item (a :: r) = .stop := by
  obtain ⟨h1, h2, h3⟩ := h
  rw [item_cons, if_neg (by rw [h1]; simp), if_neg h2, if_neg]
  intro ho
  match r, ho with
  | b :: r, ho =>
    have : (a == 47 && b == 42) = true := ho
    simp at this
    exact h3 this.1

theorem gap_pre : ∀ (N : Nat) (l l' : List UInt8) (n : Nat), l.length = N → gapN l = (n, true) → n < l.length → (∀ a, l[n]? = some a → Start a) → Agree l l' (n + 1) → gapN l' = (n, true) := by
  intro N
  induction N using Nat.strongRecOn with
  | ind N ih =>
    intro l l' n hl h hn hst ha
    have hzero : n = 0 → item l = .stop ∧ gapN l' = (0, true) := by
      rintro rfl
      match l, hn, hst, ha with
      | a :: r, _, hst, ha =>
        obtain ⟨r', rfl, _⟩ := agree_cons ha
        have := hst a (by simp)
        exact ⟨item_start this r, gapN_stop (item_start this r')⟩
    cases hi : item l with
    | stop =>
      rw [gapN_stop hi] at h
      cases h
      exact (hzero rfl).2
    | bad => rw [gapN_bad hi] at h; cases h
    | go k =>
      by_cases hk : 0 < k ∧ k ≤ l.length
      · rw [gapN_go hi hk.1 hk.2] at h
        have h1 : (gapN (l.drop k)).1 + k = n := congrArg Prod.fst h
        have h2 : (gapN (l.drop k)).2 = true := congrArg Prod.snd h
        have hd := ih (l.drop k).length (by simp; omega) (l.drop k) (l'.drop k) (gapN (l.drop k)).1 rfl (Prod.ext rfl h2) (by simp; omega)
          (fun a e => hst a (by rw [List.getElem?_drop] at e; rw [← e]; congr 1; omega)) ((ha.drop k).mono (by omega))
        have hlen := ha.len (by omega)
        rw [gapN_go (item_pre hi (by omega) (ha.mono (by omega))) hk.1 (by omega), hd]
        exact Prod.ext h1 rfl
      · rw [gapN, hi] at h
        simp only at h
        rw [dif_neg hk] at h
        cases h
        exact (hzero rfl).2

theorem gap_take_bad : ∀ (N : Nat) (l : List UInt8) (n : Nat), l.length = N → gapN l = (n, false) → gapN (l.take n) = (n, true) := by
  intro N
  induction N using Nat.strongRecOn with
  | ind N ih =>
    intro l n hl h
    cases hi : item l with
    | stop => rw [gapN_stop hi] at h; cases h
    | bad => rw [gapN_bad hi] at h; cases h; rw [List.take_zero]; exact gapN_stop rfl
    | go k =>
      by_cases hk : 0 < k ∧ k ≤ l.length
      · rw [gapN_go hi hk.1 hk.2] at h
        have h1 : (gapN (l.drop k)).1 + k = n := congrArg Prod.fst h
        have h2 : (gapN (l.drop k)).2 = false := congrArg Prod.snd h
        have hd := ih (l.drop k).length (by simp; omega) (l.drop k) (gapN (l.drop k)).1 rfl (Prod.ext rfl h2)
        have hle : n ≤ l.length := by
          have := gapN_len (l.drop k)
          simp at this
          omega
        rw [gapN_go (item_take hi (by omega) hk.1) hk.1 (by rw [List.length_take]; omega), List.drop_take, show n - k = (gapN (l.drop k)).1 by omega, hd]
        exact Prod.ext h1 rfl
      · rw [gapN, hi] at h
        simp only at h
        rw [dif_neg hk] at h
        cases h

theorem next_pre {s s' : ByteArray} {o o' : Nat} {t : Tok} (ho : o ≤ s.size) (h : nextX s o = .tok t) (hk : t.k ≠ 0) (ha : Agree (rest s o) (rest s' o') (t.en - o)) (hs : Safe (rest s o) (rest s' o') (t.en - o)) :
    nextX s' o' = .tok ⟨t.k, t.t, t.n, t.op, o' + (t.off - o), o' + (t.en - o)⟩ := by
  obtain ⟨h1, h2, h3, h4⟩ := next_tok ho h
  obtain ⟨_, h5, h6⟩ := h4.resolve_left (fun h => hk h.1)
  have hg : t.off = o + (gapN (rest s o)).1 := h2
  obtain ⟨n, hn⟩ : ∃ n, n = (gapN (rest s o)).1 := ⟨_, rfl⟩
  have hgn : gapN (rest s o) = (n, true) := Prod.ext hn.symm h1
  rw [← hn] at hg
  have hgw : gapW s o = (o + n, true) := by unfold gapW; rw [hgn]
  unfold nextX at h
  rw [hgw] at h
  simp only [if_true] at h
  have hA : Agree (rest s (o + n)) (rest s' (o' + n)) (t.en - (o + n)) := by
    rw [← rest_drop, ← rest_drop]
    have := ha.drop n
    rw [show t.en - o - n = t.en - (o + n) by omega] at this
    exact this
  have hS : Safe (rest s (o + n)) (rest s' (o' + n)) (t.en - (o + n)) := by
    rw [← rest_drop, ← rest_drop]
    have := hs.drop (k := n) (by omega)
    rw [show t.en - o - n = t.en - (o + n) by omega] at this
    exact this
  obtain ⟨ht, hlt, hst⟩ := tokAt_pre (by omega) h hk hA hS
  have hg' : gapN (rest s' o') = (n, true) := by
    refine gap_pre _ (rest s o) _ n rfl hgn (by rw [rest_len]; omega) (fun a e => ?_) (ha.mono (by omega))
    rw [nth_byte s o n hlt] at e
    have : s[o + n] = a := Option.some.inj e
    rw [← this]; exact hst
  unfold nextX gapW
  rw [hg']
  simp only [if_true]
  rw [ht, show o' + n + (t.en - (o + n)) = o' + (t.en - o) by omega, show o' + (t.off - o) = o' + n by omega]

theorem toks_det {s : ByteArray} {o : Nat} {L : List Tok} {c : Int} {f : Nat} (h : Toks s o L c f) : ∀ {L' c' f'}, Toks s o L' c' f' → L' = L ∧ c' = c ∧ f' = f := by
  induction h with
  | bad h1 h2 =>
    intro L' c' f' h'
    cases h' with
    | bad _ k2 => rw [h2] at k2; injection k2 with a b; exact ⟨rfl, a.symm, b.symm⟩
    | last _ k2 _ => rw [h2] at k2; cases k2
    | more _ k2 _ _ => rw [h2] at k2; cases k2
  | last h1 h2 h3 =>
    intro L' c' f' h'
    cases h' with
    | bad _ k2 => rw [h2] at k2; cases k2
    | last _ k2 _ => rw [h2] at k2; injection k2 with a; subst a; exact ⟨rfl, rfl, rfl⟩
    | more _ k2 k3 _ => rw [h2] at k2; injection k2 with a; subst a; exact absurd h3 k3
  | more h1 h2 h3 h4 ih =>
    intro L' c' f' h'
    cases h' with
    | bad _ k2 => rw [h2] at k2; cases k2
    | last _ k2 k3 => rw [h2] at k2; injection k2 with a; subst a; exact absurd k3 h3
    | more _ k2 k3 k4 =>
      rw [h2] at k2
      injection k2 with a
      subst a
      obtain ⟨e1, e2, e3⟩ := ih k4
      exact ⟨by rw [e1], e2, e3⟩

theorem scan_eq {s : ByteArray} {L : List Tok} {c : Int} {f : Nat} (hs : s.size ≤ 65536) (h : Toks s 0 L c f) : scanX s = (L, c, f) := by
  obtain ⟨e1, e2, e3⟩ := toks_det h (scan_toks s hs)
  exact Prod.ext e1 (Prod.ext e2 e3)

/-- s' begins as s does, up to m; behind that stands nothing, or a blank, or what stands in s too. -/
structure Pre (s s' : ByteArray) (m : Nat) : Prop where
  le : m ≤ s.size
  le' : m ≤ s'.size
  same : ∀ i, i < m → s'.data.toList[i]? = s.data.toList[i]?
  behind : ∀ b, s'.data.toList[m]? = some b → s.data.toList[m]? = some b ∨ b = 10 ∨ b = 32

theorem Pre.agree {s s' : ByteArray} {m : Nat} (h : Pre s s' m) {o e : Nat} (he : e ≤ m) : Agree (rest s o) (rest s' o) (e - o) := fun i hi => by
  unfold rest
  rw [List.getElem?_drop, List.getElem?_drop]
  exact h.same _ (by omega)
theorem Pre.safe {s s' : ByteArray} {m : Nat} (h : Pre s s' m) {o e : Nat} (ho : o ≤ e) (he : e ≤ m) : Safe (rest s o) (rest s' o) (e - o) := fun b hb => by
  unfold rest at hb ⊢
  rw [List.getElem?_drop, show o + (e - o) = e by omega] at hb ⊢
  by_cases h1 : e = m
  · subst h1; exact h.behind b hb
  · exact .inl (by rw [← h.same e (by omega)]; exact hb)

theorem Pre.next {s s' : ByteArray} {m o : Nat} {t : Tok} (hp : Pre s s' m) (ho : o ≤ s.size) (h : nextX s o = .tok t) (hk : t.k ≠ 0) (he : t.en ≤ m) : nextX s' o = .tok t ∧ o ≤ t.off ∧ t.off < t.en := by
  obtain ⟨_, _, h3, h4⟩ := next_tok ho h
  obtain ⟨_, h5, _⟩ := h4.resolve_left (fun h => hk h.1)
  refine ⟨?_, h3, h5⟩
  rw [next_pre ho h hk (hp.agree he) (hp.safe (by omega) he), show o + (t.off - o) = t.off by omega, show o + (t.en - o) = t.en by omega]

theorem toks_more {s s' : ByteArray} (hp : Pre s s' s.size) {o : Nat} {L : List Tok} {c : Int} {f : Nat} (h : Toks s o L c f) : c = 0 → ∃ r c' f', Toks s' o (L.dropLast ++ r) c' f' := by
  induction h with
  | bad h1 h2 => intro hc; have := next_bad h2; omega
  | last h1 h2 h3 =>
    intro _
    obtain ⟨r, c, f, _, T⟩ := each_toks s' _ _ [] rfl (Nat.le_trans h1 hp.le')
    exact ⟨r, c, f, T⟩
  | more h1 h2 h3 h4 ih =>
    intro hc
    obtain ⟨r, c', f', T⟩ := ih hc
    have h0 := (toks_zero h4 hc).2.1
    refine ⟨r, c', f', ?_⟩
    rw [List.dropLast_cons_of_ne_nil (List.ne_nil_of_length_pos h0), List.cons_append]
    exact .more (Nat.le_trans h1 hp.le') (hp.next h1 h2 h3 h4.le).1 h3 T

theorem pre_append (s m : ByteArray) : Pre s (s ++ ⟨#[10]⟩ ++ m) s.size where
  le := Nat.le_refl _
  le' := by rw [ByteArray.size_append, ByteArray.size_append]; omega
  same i hi := by
    rw [ByteArray.data_append, ByteArray.data_append, Array.toList_append, Array.toList_append, List.append_assoc, List.getElem?_append_left (by simpa using hi)]
  behind b hb := by
    rw [ByteArray.data_append, ByteArray.data_append, Array.toList_append, Array.toList_append, List.append_assoc, List.getElem?_append_right (by simp)] at hb
    simp at hb
    exact .inr (.inl hb.symm)

theorem pre_extract (s : ByteArray) (m : Nat) (h : m ≤ s.size) : Pre s (s.extract 0 m) m := by
  have e : (s.extract 0 m).data.toList = s.data.toList.take m := by
    rw [ByteArray.data_extract, Array.toList_extract, List.extract_eq_take_drop, List.drop_zero, Nat.sub_zero]
  have hz : (s.extract 0 m).size = m := by rw [ByteArray.size_extract]; omega
  exact ⟨h, by omega, fun i hi => by rw [e, List.getElem?_take_of_lt hi], fun b hb => by rw [e, List.getElem?_take_eq_none (Nat.le_refl _)] at hb; cases hb⟩

theorem toks_ends {s : ByteArray} {o : Nat} {L : List Tok} {c : Int} {f : Nat} (h : Toks s o L c f) : o ≤ endOf o L := by
  induction h with
  | bad _ _ => exact Nat.le_refl _
  | last h1 h2 h3 =>
    rename_i o t
    have := next_tok h1 h2
    show o ≤ t.en
    omega
  | more h1 h2 h3 h4 ih =>
    rename_i o t r c f
    obtain ⟨_, _, a, b⟩ := next_tok h1 h2
    show o ≤ endOf t.en r
    omega

theorem rest_cut (s : ByteArray) (o m : Nat) : rest (s.extract 0 m) o = (rest s o).take (m - o) := by
  unfold rest
  rw [ByteArray.data_extract, Array.toList_extract, List.extract_eq_take_drop, List.drop_zero, Nat.sub_zero, List.drop_take]

theorem next_last (s : ByteArray) (o : Nat) (ho : o ≤ s.size) (h : gapW s o = (s.size, true)) : nextX s o = .tok (endTok s.size) := by
  unfold nextX
  rw [h]
  simp only [if_true]
  unfold tokAt
  rw [dif_neg (by omega)]
  rfl

theorem gap_cut (s : ByteArray) (o : Nat) (ho : o ≤ s.size) : gapW (s.extract 0 (gapW s o).1) o = ((gapW s o).1, true) := by
  have e : (gapW s o).1 = o + (gapN (rest s o)).1 := rfl
  unfold gapW at e ⊢
  simp only at e ⊢
  rw [rest_cut, show o + (gapN (rest s o)).1 - o = (gapN (rest s o)).1 by omega]
  have : gapN ((rest s o).take (gapN (rest s o)).1) = ((gapN (rest s o)).1, true) := by
    cases hb : (gapN (rest s o)).2 with
    | true => exact gap_take _ (rest s o) _ rfl (Prod.ext rfl hb)
    | false => exact gap_take_bad _ (rest s o) _ rfl (Prod.ext rfl hb)
  rw [this]

/-- Cut off ahead of its fault a text has the same tokens, and then its end. -/
theorem toks_first {s : ByteArray} {o : Nat} {L : List Tok} {c : Int} {f : Nat} (h : Toks s o L c f) : c ≠ 0 → Toks (s.extract 0 (gapW s (endOf o L)).1) o (L ++ [endTok (gapW s (endOf o L)).1]) 0 0 := by
  induction h with
  | bad h1 h2 =>
    rename_i o c f
    intro _
    have hg := gapW_le s o h1
    have hz : (s.extract 0 (gapW s o).1).size = (gapW s o).1 := by rw [ByteArray.size_extract]; omega
    have hc := gap_cut s o h1
    show Toks (s.extract 0 (gapW s o).1) o [endTok (gapW s o).1] 0 0
    have := next_last (s.extract 0 (gapW s o).1) o (by omega) (by rw [hz]; exact hc)
    rw [hz] at this
    exact .last (by omega) this rfl
  | last h1 h2 h3 => intro hc; exact absurd rfl hc
  | more h1 h2 h3 h4 ih =>
    rename_i o t r c f
    intro hc
    have T := ih hc
    have hb := toks_bad h4 hc
    have hg := gapW_le s _ hb.2.1
    have he := toks_ends h4
    have hp := pre_extract s (gapW s (endOf t.en r)).1 hg.2
    have hn := hp.next h1 h2 h3 (by omega)
    refine .more ?_ hn.1 h3 T
    have := hp.le'
    show o ≤ (s.extract 0 (gapW s (endOf t.en r)).1).size
    omega

theorem textF_cut {s : ByteArray} {g f : Nat} (hf : f ≤ s.size) : ∀ (N j : Nat) (vs : List Int), s.size - (g + j) = N → textF s g (g + j) vs = .bad 12 f → textF (s.extract 0 f) g (g + j) vs = .bad 11 g ∧ g + j ≤ f ∧ f < s.size := by
  have hp := pre_extract s f hf
  have hz : (s.extract 0 f).size = f := by rw [ByteArray.size_extract]; omega
  intro N
  induction N using Nat.strongRecOn with
  | ind N ih =>
    intro j vs hN h
    rw [textF] at h
    split at h
    · next hlt =>
      split at h
      · injection h with h _; cases h
      · next h32 =>
        split at h
        · cases h
        · next h34 =>
          split at h
          · next h92 =>
            split at h
            · injection h with _ h
              refine ⟨?_, by omega, by omega⟩
              rw [textF, dif_neg (by omega)]
            · next hn0 =>
              split at h
              · injection h with h _; cases h
              · next h255 =>
                obtain ⟨r1, r2, r3⟩ := ih (s.size - (g + (j + (escX (s.extract (g + j) s.size)).2.toNat))) (by omega) (j + (escX (s.extract (g + j) s.size)).2.toNat) _ rfl (by rw [← Nat.add_assoc]; exact h)
                have ha : Agree (rest s g) (rest (s.extract 0 f) g) (f - g) := hp.agree (Nat.le_refl _)
                obtain ⟨hlt', hb⟩ := byte_pre ha (j := j) (by omega) hlt
                refine ⟨?_, by omega, r3⟩
                rw [textF, dif_pos hlt', hb, if_neg h32, if_neg h34, if_pos h92]
                have hesc : escX ((s.extract 0 f).extract (g + j) (s.extract 0 f).size) = escX (s.extract (g + j) s.size) := by
                  refine escX_pre (fun e => hn0 (by rw [e]; rfl)) ?_
                  rw [extract_rest, extract_rest, ← rest_drop, ← rest_drop]
                  exact (ha.drop j).mono (by omega)
                rw [hesc, dif_neg hn0, if_neg h255, Nat.add_assoc]
                exact r1
          · next h92 =>
            split at h
            · injection h with h _; cases h
            · next h255 =>
              obtain ⟨r1, r2, r3⟩ := ih (s.size - (g + (j + 1))) (by omega) (j + 1) _ rfl (by rw [← Nat.add_assoc]; exact h)
              have ha : Agree (rest s g) (rest (s.extract 0 f) g) (f - g) := hp.agree (Nat.le_refl _)
              obtain ⟨hlt', hb⟩ := byte_pre ha (j := j) (by omega) hlt
              refine ⟨?_, by omega, r3⟩
              rw [textF, dif_pos hlt', hb, if_neg h32, if_neg h34, if_neg h92, if_neg h255, Nat.add_assoc]
              exact r1
    · injection h with h _; cases h

theorem tokAt_cut {s : ByteArray} {g f : Nat} (h : tokAt s g = .bad 12 f) : tokAt (s.extract 0 f) g = .bad 11 g ∧ g < f ∧ ∃ hlt : g < s.size, Start s[g] := by
  have hbd := tokAt_bad h
  have hlt : g < s.size := hbd.1
  have hn256 := s[g].toNat_lt
  unfold tokAt at h
  rw [dif_pos hlt] at h
  split at h
  · unfold wordX at h
    simp only at h
    repeat' split at h
    all_goals first | (injection h with h1 h2; cases h1; done) | (cases h; done)
  · next hw =>
    split at h
    · unfold intX at h
      split at h
      · cases h
      · injection h with h _; cases h
    · split at h
      · next h34 =>
        obtain ⟨r1, r2, r3⟩ := textF_cut (g := g) (by omega) _ 1 [] rfl h
        have hp := pre_extract s f (by omega)
        have ha : Agree (rest s g) (rest (s.extract 0 f) g) (f - g) := hp.agree (Nat.le_refl _)
        obtain ⟨hlt', hb⟩ := byte_pre ha (j := 0) (by omega) hlt
        simp only [Nat.add_zero] at hlt' hb
        refine ⟨?_, by omega, hlt, start_of (start_beg ⟨_, hn256⟩ (.inr (.inr h34)))⟩
        unfold tokAt
        rw [dif_pos hlt', hb, if_neg hw, beg_rest, if_neg, if_pos h34]
        · exact r1
        · unfold begL
          rw [first_byte _ g hlt', hb]
          simp only [Option.getD_some]
          rw [h34]
          simp [bDig]
      · unfold punctX at h
        cases hq : punctL marksT (rest s g) with
        | none => rw [hq] at h; injection h with h _; cases h
        | some x => obtain ⟨n, k, op⟩ := x; rw [hq] at h; cases h

theorem next_cut {s : ByteArray} {o f : Nat} (ho : o ≤ s.size) (h : nextX s o = .bad 12 f) : nextX (s.extract 0 f) o = .bad 11 (gapW s o).1 ∧ (gapW s o).1 < f ∧ f < s.size := by
  have hb := next_bad h
  obtain ⟨h1, _, _, _, h5, _⟩ := hb.resolve_left (fun h => by omega)
  obtain ⟨n, hn⟩ : ∃ n, n = (gapN (rest s o)).1 := ⟨_, rfl⟩
  have hgn : gapN (rest s o) = (n, true) := Prod.ext hn.symm h1
  have hgw : gapW s o = (o + n, true) := by unfold gapW; rw [hgn]
  unfold nextX at h
  rw [hgw] at h ⊢
  simp only [if_true] at h
  obtain ⟨r1, r2, hlt, hst⟩ := tokAt_cut h
  have hp := pre_extract s f (by omega)
  have ha : Agree (rest s o) (rest (s.extract 0 f) o) (f - o) := hp.agree (Nat.le_refl _)
  have hg' : gapN (rest (s.extract 0 f) o) = (n, true) := by
    refine gap_pre _ (rest s o) _ n rfl hgn (by rw [rest_len]; omega) (fun a e => ?_) (ha.mono (by omega))
    rw [nth_byte s o n hlt] at e
    have : s[o + n] = a := Option.some.inj e
    rw [← this]; exact hst
  refine ⟨?_, r2, h5⟩
  unfold nextX gapW
  rw [hg']
  simp only [if_true]
  exact r1

/-- Cut off at an escape that is none a text has the same tokens, and a text that is not closed. -/
theorem toks_escape {s : ByteArray} {o : Nat} {L : List Tok} {c : Int} {f : Nat} (h : Toks s o L c f) : c = 12 → Toks (s.extract 0 f) o L 11 (gapW s (endOf o L)).1 ∧ (gapW s (endOf o L)).1 < f ∧ f < s.size := by
  induction h with
  | bad h1 h2 =>
    rename_i o c f
    rintro rfl
    obtain ⟨r1, r2, r3⟩ := next_cut h1 h2
    have hg := gapW_le s o h1
    have hz : (s.extract 0 f).size = f := by rw [ByteArray.size_extract]; omega
    exact ⟨.bad (by omega) r1, r2, r3⟩
  | last h1 h2 h3 => intro hc; cases hc
  | more h1 h2 h3 h4 ih =>
    rename_i o t r c f
    intro hc
    obtain ⟨T, r2, r3⟩ := ih hc
    have hb := toks_bad h4 (by omega)
    have hg := gapW_le s _ hb.2.1
    have he := toks_ends h4
    have hp := pre_extract s f (by omega)
    have hn := hp.next h1 h2 h3 (by omega)
    have hz := hp.le'
    exact ⟨.more (by omega) hn.1 h3 T, r2, r3⟩

/-- The fault's place, but for escapes, is where the gap ends. -/
theorem toks_place {s : ByteArray} {o : Nat} {L : List Tok} {c : Int} {f : Nat} (h : Toks s o L c f) (hc : c ≠ 0) : f < s.size ∧ (c ≠ 12 → f = (gapW s (endOf o L)).1) := by
  obtain ⟨h1, h2, _⟩ := toks_bad h hc
  rcases next_bad h1 with ⟨a, b, d⟩ | ⟨a, _, _, _, d, e⟩
  · have := gap_bad_lt s _ h2 a
    exact ⟨by omega, fun _ => d⟩
  · exact ⟨d, e⟩

/-- A token's spelling, alone, is that token. -/
theorem alone_scan {s : ByteArray} {o : Nat} {t : Tok} (hs : s.size ≤ 65536) (ho : o ≤ s.size) (h : nextX s o = .tok t) (hk : t.k ≠ 0) :
    scanX (s.extract t.off t.en) = ([⟨t.k, t.t, t.n, t.op, 0, t.en - t.off⟩, endTok (t.en - t.off)], 0, 0) := by
  obtain ⟨h1, h2, h3, h4⟩ := next_tok ho h
  obtain ⟨_, h5, h6⟩ := h4.resolve_left (fun h => hk h.1)
  have hg : nextX s o = tokAt s t.off := by unfold nextX; rw [h1, ← h2]; rfl
  rw [hg] at h
  have hz : (s.extract t.off t.en).size = t.en - t.off := by rw [ByteArray.size_extract]; omega
  have hr : rest (s.extract t.off t.en) 0 = (rest s t.off).take (t.en - t.off) := by
    have := extract_list s t.off (t.en - t.off)
    rw [show t.off + (t.en - t.off) = t.en by omega] at this
    unfold rest at this ⊢
    rw [List.drop_zero]; exact this
  have ha : Agree (rest s t.off) (rest (s.extract t.off t.en) 0) (t.en - t.off) := fun i hi => by rw [hr, List.getElem?_take_of_lt hi]
  have hsf : Safe (rest s t.off) (rest (s.extract t.off t.en) 0) (t.en - t.off) := fun b hb => by rw [hr, List.getElem?_take_eq_none (Nat.le_refl _)] at hb; cases hb
  obtain ⟨r1, hlt, hst⟩ := tokAt_pre (by omega) h hk ha hsf
  rw [Nat.zero_add] at r1
  generalize hS : s.extract t.off t.en = S at *
  have hg0 : gapW S 0 = (0, true) := by
    obtain ⟨hlt', hb⟩ := byte_pre ha (j := 0) (by omega) hlt
    simp only [Nat.add_zero] at hlt' hb
    unfold gapW
    rw [rest_cons S 0 hlt', hb, gapN_stop (item_start hst _)]
    rfl
  have n0 : nextX S 0 = .tok ⟨t.k, t.t, t.n, t.op, 0, t.en - t.off⟩ := by
    unfold nextX
    rw [hg0]
    simp only [if_true]
    exact r1
  have n1 : nextX S (t.en - t.off) = .tok (endTok (t.en - t.off)) := by
    have := next_last S (t.en - t.off) (by omega) (by rw [hz]; exact gapW_end S _ (by omega))
    rw [hz] at this
    exact this
  exact scan_eq (by omega) (.more (Nat.zero_le _) n0 hk (.last (by show t.en - t.off ≤ _; omega) n1 rfl))

end Go.Proofs.YtfbmddgjbmapiaaDoor

namespace Go.Proofs.YtfbmddgjbmapiaaDoor
set_option linter.unusedSimpArgs false
set_option linter.unusedVariables false
open Go.RowKit

theorem toks_wf {s : ByteArray} {o : Nat} {L : List Tok} {c : Int} {f : Nat} (h : Toks s o L c f) : Wf c L := by
  induction h with
  | bad ho hx => unfold Wf; have := next_bad hx; omega
  | last ho hx hk => unfold Wf; rw [if_pos hk]; exact ⟨rfl, rfl⟩
  | more ho hx hk _ ih => unfold Wf; rw [if_neg hk]; exact ih
theorem scan_wf (s : ByteArray) : Wf (scanX s).2.1 (scanX s).1 := by
  by_cases h : s.size ≤ 65536
  · exact toks_wf (scan_toks s h)
  · rw [show scanX s = ([], 1, 0) from if_pos (by omega)]
    unfold Wf; decide
def fstR (r : Nat) : Int := if r = 0 then 0 else if r = 1 then 15 else if r = 2 then 5 else 20
def fltU : PR Unit → Int × Int
  | .bad x o => (x, o)
  | .ok _ _ => (0, 0)
theorem flt_meet {α : Type} {P : PR α} {Q : PR Unit} (h1 : ∀ x o, P = .bad x o → Q = .bad x o) (h2 : ∀ b r, P = .ok b r → Q = .ok () []) : fltP P = fltU Q := by
  cases P with
  | bad x o => rw [h1 x o rfl]; rfl
  | ok b r => rw [h2 b r rfl]; rfl
theorem fOf_chk (r : Nat) (hr : r < 4) (s : ByteArray) : fOf r s = fltU (chkR (scanX s).2.1 ((scanX s).2.2 : Int) (fstR r) (fstR r) ⟨0, 0, 0⟩ (scanX s).1) := by
  have hw := scan_wf s
  match r, hr with
  | 0, _ => exact flt_meet (prog_meet hw).1 fun b r h => ((prog_meet hw).2 b r h).1
  | 1, _ => exact flt_meet (facts_meet hw).1 fun b r h => ((facts_meet hw).2 b r h).1
  | 2, _ => exact flt_meet (query_meet hw).1 fun b r h => ((query_meet hw).2 b r h).1
  | 3, _ => exact flt_meet (fact_meet hw).1 fun b r h => ((fact_meet hw).2 b r h).1
theorem take_fin (first : Int) (c : Cnt) (s : Int) (h : moveP first s 0 ≠ -1) : takeC c s 0 = c := by
  have h5 : s ≠ 5 := fun e => by subst e; exact h (by unfold moveP moveBodyP isTermB; simp)
  have h2 : s ≠ 2 := fun e => by subst e; exact h (by unfold moveP moveHeadP isTermB; simp)
  have h9 : s ≠ 9 := fun e => by subst e; exact h (by unfold moveP moveBodyP isTermB; simp)
  have h17 : s ≠ 17 := fun e => by subst e; exact h (by unfold moveP moveFactP isValueB; simp)
  have h22 : s ≠ 22 := fun e => by subst e; exact h (by unfold moveP moveFactP isValueB; simp)
  unfold takeC
  simp [h5, h2, h9, h17, h22]
theorem over_code (first : Int) (c : Cnt) : overC first c = 0 ∨ (22 ≤ overC first c ∧ overC first c ≤ 24) := by
  unfold overC
  split
  · exact .inr (by decide)
  · split
    · exact .inr (by decide)
    · split
      · exact .inr (by decide)
      · exact .inl rfl
/-- A fault of the grammar stands at a token, whatever follows it. -/
theorem chk_at {ec eo first : Int} : ∀ (L : List Tok) (s : Int) (c : Cnt) (x o : Int), overC first c = 0 → chkR ec eo first s c L = .bad x o → (x = ec ∧ ec ≠ 0) ∨
    ∃ X t r, L = X ++ t :: r ∧ (t.off : Int) = o ∧ (x = 20 ∨ x = 21 ∨ (22 ≤ x ∧ x ≤ 24)) ∧ (x = 21 ↔ t.k = 0) ∧ ∀ (ec' eo' : Int) (r' : List Tok), chkR ec' eo' first s c (X ++ t :: r') = .bad x o
  | [], s, c, x, o, h0, h => by
    unfold chkR at h
    split at h
    · cases h
    · rename_i he; cases h; exact .inl ⟨rfl, he⟩
  | t :: r, s, c, x, o, h0, h => by
    unfold chkR at h
    split at h
    · rename_i hm
      injection h with e1 e2
      subst e1 e2
      refine .inr ⟨[], t, r, rfl, rfl, ?_, ?_, fun ec' eo' r' => ?_⟩
      · unfold misK; split <;> simp
      · unfold misK; split <;> simp_all
      · rw [List.nil_append]; exact chk_mis hm
    · rename_i hm
      split at h
      · rename_i hov
        injection h with e1 e2
        subst e1 e2
        have hc := (over_code first (takeC c s t.k)).resolve_left hov
        refine .inr ⟨[], t, r, rfl, rfl, .inr (.inr hc), ⟨fun e => by omega, fun e => ?_⟩, fun ec' eo' r' => ?_⟩
        · exfalso
          rw [e] at hm hov
          rw [take_fin first c s hm] at hov
          exact hov h0
        · rw [List.nil_append, chkR, if_neg hm, if_pos hov]
      · rename_i hov
        have hov0 : overC first (takeC c s t.k) = 0 := Decidable.not_not.1 hov
        rcases chk_at r _ _ x o hov0 h with h1 | ⟨X, u, q, h1, h2, h3, h4, h5⟩
        · exact .inl h1
        · refine .inr ⟨t :: X, u, q, by rw [h1]; rfl, h2, h3, h4, fun ec' eo' r' => ?_⟩
          rw [List.cons_append, chkR, if_neg hm, if_neg hov]
          exact h5 ec' eo' r'
theorem toks_ge {s : ByteArray} {o : Nat} {L : List Tok} {c : Int} {f : Nat} (h : Toks s o L c f) : ∀ u ∈ L, o ≤ u.off ∧ u.en ≤ s.size := by
  induction h with
  | bad ho hx => simp
  | last ho hx hk =>
    intro u hu
    simp only [List.mem_singleton] at hu; subst hu
    obtain ⟨-, -, h3, h4⟩ := next_tok ho hx
    exact ⟨h3, by rcases h4 with h | h <;> omega⟩
  | more ho hx hk _ ih =>
    intro u hu
    obtain ⟨-, -, h3, h4⟩ := next_tok ho hx
    rcases List.mem_cons.1 hu with rfl | hu
    · exact ⟨h3, by rcases h4 with h | h <;> omega⟩
    · have := ih u hu
      exact ⟨by rcases h4 with h | h <;> omega, this.2⟩
theorem toks_one {s : ByteArray} {o : Nat} {L : List Tok} {c : Int} {f : Nat} (h : Toks s o L c f) : ∀ u ∈ L, ∀ v ∈ L, u.off = v.off → u.off < u.en → v.off < v.en → u.en = v.en := by
  induction h with
  | bad ho hx => simp
  | last ho hx hk =>
    intro u hu v hv
    simp only [List.mem_singleton] at hu hv; subst hu hv
    intros; rfl
  | more ho hx hk hT ih =>
    rename_i o t r c f
    have hge := toks_ge hT
    obtain ⟨-, -, h3, h4⟩ := next_tok ho hx
    have h5 : t.off < t.en := by rcases h4 with h | h <;> omega
    intro u hu v hv e1 e2 e3
    rcases List.mem_cons.1 hu with hu' | hu'
    · rcases List.mem_cons.1 hv with hv' | hv'
      · rw [hu', hv']
      · have := (hge v hv').1; rw [hu'] at e1; omega
    · rcases List.mem_cons.1 hv with hv' | hv'
      · have := (hge u hu').1; rw [hv'] at e1; omega
      · exact ih u hu' v hv' e1 e2 e3
/-- The tokens up to one that ends where two texts part. -/
theorem toks_prefix {s s' : ByteArray} {o : Nat} {L : List Tok} {c : Int} {f : Nat} (h : Toks s o L c f) : ∀ X t r, L = X ++ t :: r → t.k ≠ 0 → Pre s s' t.en → (∃ r' c' f', Toks s' o (X ++ t :: r') c' f') ∧ t.off < t.en := by
  induction h with
  | bad ho hx => intro X t r he; exact absurd he (by simp)
  | last ho hx hk =>
    intro X t r he htk
    exfalso
    cases X with
    | nil => rw [List.nil_append] at he; injection he with e1 e2; subst e1; exact htk hk
    | cons a X => have := congrArg List.length he; simp at this
  | more ho hx hk hT ih =>
    rename_i o u q c f
    intro X t r he htk hp
    obtain ⟨-, -, h3, h4⟩ := next_tok ho hx
    have h5 : u.off < u.en := by rcases h4 with h | h <;> omega
    cases X with
    | nil =>
      rw [List.nil_append] at he
      injection he with e1 e2
      subst e1
      have hn := (hp.next ho hx hk (Nat.le_refl _)).1
      obtain ⟨r', c', f', -, T⟩ := each_toks s' _ u.en [] rfl hp.le'
      exact ⟨⟨r', c', f', .more (by have := hp.le'; omega) hn hk T⟩, h5⟩
    | cons a X =>
      rw [List.cons_append] at he
      injection he with e1 e2
      subst e1
      obtain ⟨⟨r', c', f', T⟩, h6⟩ := ih X t r e2 htk hp
      have hge := (toks_ge hT t (by rw [e2]; simp)).1
      have hn := (hp.next ho hx hk (by omega)).1
      refine ⟨⟨r', c', f', ?_⟩, h6⟩
      rw [List.cons_append]
      exact .more (by have := hp.le'; omega) hn hk T
def cutB (s : ByteArray) (e : Nat) (m : ByteArray) : ByteArray := s.extract 0 e ++ ⟨#[10]⟩ ++ m
theorem cut_size (s : ByteArray) (e : Nat) (m : ByteArray) (h : e ≤ s.size) : (cutB s e m).size = e + 1 + m.size := by
  unfold cutB
  rw [ByteArray.size_append, ByteArray.size_append, ByteArray.size_extract]
  show min e s.size - 0 + 1 + m.size = _
  omega
theorem cut_pre (s : ByteArray) (e : Nat) (m : ByteArray) (h : e ≤ s.size) : Pre s (cutB s e m) e := by
  have hl : (s.extract 0 e).data.toList = s.data.toList.take e := by
    rw [ByteArray.data_extract, Array.toList_extract, List.extract_eq_take_drop, List.drop_zero, Nat.sub_zero]
  have hlen : (s.data.toList.take e).length = e := by rw [List.length_take]; exact Nat.min_eq_left h
  have hd : (cutB s e m).data.toList = s.data.toList.take e ++ (10 :: m.data.toList) := by
    unfold cutB
    rw [ByteArray.data_append, ByteArray.data_append, Array.toList_append, Array.toList_append, hl, List.append_assoc]
    rfl
  refine ⟨h, by rw [cut_size s e m h]; omega, fun i hi => ?_, fun b hb => ?_⟩
  · rw [hd, List.getElem?_append_left (by rw [hlen]; exact hi), List.getElem?_take, if_pos hi]
  · rw [hd, List.getElem?_append_right (by rw [hlen]; exact Nat.le_refl _), hlen, Nat.sub_self] at hb
    exact .inr (.inl (Option.some.inj hb).symm)
theorem toks_code {s : ByteArray} {o : Nat} {L : List Tok} {c : Int} {f : Nat} (h : Toks s o L c f) : c ≤ 16 := by
  induction h with
  | bad ho hx => have := next_bad hx; omega
  | last => decide
  | more _ _ _ _ ih => exact ih
theorem scan_code (s : ByteArray) : (scanX s).2.1 ≤ 16 := by
  by_cases h : s.size ≤ 65536
  · exact toks_code (scan_toks s h)
  · rw [show scanX s = ([], 1, 0) from if_pos (by omega)]
    decide
/-- The fault of a text stays when it is cut off behind the token at which it stands, whatever follows. -/
theorem behind {r : Nat} (hr : r < 4) {s : ByteArray} {x o : Int} (h : fOf r s = (x, o)) (h20 : 20 ≤ x) (h21 : x ≠ 21) :
    ∃ t ∈ (scanX s).1, (t.off : Int) = o ∧ t.off < t.en ∧ t.en ≤ s.size ∧ (∀ u ∈ (scanX s).1, (u.off : Int) = o → u.off < u.en → u.en = t.en) ∧ ∀ m : ByteArray, t.en + 1 + m.size ≤ 65536 → fOf r (cutB s t.en m) = (x, o) := by
  have hsz : s.size ≤ 65536 := by
    rcases Nat.lt_or_ge 65536 s.size with hh | hh
    · exfalso
      rw [fOf_chk r hr, show scanX s = ([], 1, 0) from if_pos hh] at h
      have e : fltU (chkR 1 ((0 : Nat) : Int) (fstR r) (fstR r) ⟨0, 0, 0⟩ []) = (1, 0) := by unfold chkR; rfl
      simp only at h
      rw [e] at h
      injection h with h1 h2
      omega
    · exact hh
  have T := scan_toks s hsz
  rw [fOf_chk r hr] at h
  cases hC : chkR (scanX s).2.1 ((scanX s).2.2 : Int) (fstR r) (fstR r) ⟨0, 0, 0⟩ (scanX s).1 with
  | ok u q => rw [hC] at h; injection h with h1 h2; omega
  | bad x' o' =>
    rw [hC] at h
    injection h with h1 h2
    subst h1 h2
    have h00 : overC (fstR r) ⟨0, 0, 0⟩ = 0 := by unfold overC; simp
    rcases chk_at _ _ _ _ _ h00 hC with ⟨e1, -⟩ | ⟨X, t, q, e1, e2, e3, e4, e5⟩
    · have := scan_code s; omega
    · have htk : t.k ≠ 0 := fun e => h21 (e4.2 e)
      have hmem : t ∈ (scanX s).1 := by rw [e1]; simp
      have hen := (toks_ge T t hmem).2
      have hlt := (toks_prefix T X t q e1 htk (cut_pre s t.en ⟨#[]⟩ hen)).2
      refine ⟨t, hmem, e2, hlt, hen, fun u hu e6 e7 => ?_, fun m hm => ?_⟩
      · exact toks_one T u hu t hmem (by omega) e7 hlt
      · obtain ⟨⟨r', c', f', T'⟩, -⟩ := toks_prefix T X t q e1 htk (cut_pre s t.en m hen)
        rw [fOf_chk r hr, scan_eq (by rw [cut_size s t.en m hen]; exact hm) T']
        simp only
        rw [e5]
        rfl
end Go.Proofs.YtfbmddgjbmapiaaDoor

namespace Go.Proofs.YtfbmddgjbmapiaaDoor
set_option linter.unusedSimpArgs false
set_option linter.unusedVariables false
open Go.RowKit

/-- The next token: its kind and where it ends; it stands at once. -/
def Nxt (s : ByteArray) (o : Nat) (k : Int) (e : Nat) : Prop := ∃ t, nextX s o = .tok t ∧ t.k = k ∧ t.off = o ∧ t.en = e
theorem nxt_pre {s : ByteArray} {o : Nat} {c d : UInt8} {r : List UInt8} {k : Int} {x : Tok} (h0 : nextX ⟨#[c, d]⟩ 0 = .tok x) (h1 : x.k = k) (h2 : x.off = 0) (h3 : x.en = 1) (hk : k ≠ 0) (hr : rest s o = c :: d :: r) : Nxt s o k (o + 1) := by
  have h := next_pre (s := ⟨#[c, d]⟩) (s' := s) (o := 0) (o' := o) (Nat.zero_le _) h0 (by rw [h1]; exact hk) (fun i hi => ?_) (fun b hb => ?_)
  · exact ⟨_, h, h1, by simp only; rw [h2]; rfl, by simp only; rw [h3]⟩
  · have : i = 0 := by rw [h3] at hi; omega
    subst this
    rw [hr]; rfl
  · rw [h3, hr] at hb
    rw [h3]
    exact .inl hb
theorem nxt_punct {s : ByteArray} {o : Nat} {c : UInt8} {r : List UInt8} {n : Nat} {k op : Int} (hr : rest s o = c :: r) (h1 : blankN (c.toNat : Int) = false ∧ c.toNat ≠ 37 ∧ c.toNat ≠ 47) (hw : (bLow (c.toNat : Int) || (bUp (c.toNat : Int) || (c.toNat : Int) == 95)) = false) (hb : begL (c :: r) = false) (h34 : ¬ (c.toNat : Int) = 34) (hp : P2 c r[0]? = some (n, k, op)) (hk : k ≠ 0) (hn : 0 < n) : Nxt s o k (o + n) := by
  have ho : o < s.size := by
    have := rest_len s o
    rw [hr] at this
    simp at this
    omega
  have hc : s[o] = c := by
    have := first_byte s o ho
    rw [hr] at this
    exact (Option.some.inj this).symm
  have hg : gapW s o = (o, true) := by
    unfold gapW
    rw [hr, gapN_stop (item_start (start_of h1) r)]
    rfl
  refine ⟨⟨k, ⟨#[]⟩, 0, op, o, o + n⟩, ?_, rfl, rfl, rfl⟩
  unfold nextX
  rw [hg]
  simp only [if_true]
  unfold tokAt
  rw [dif_pos ho, hc, beg_rest, hr, hw, hb, if_neg (by decide), if_neg (by decide), if_neg h34]
  unfold punctX
  rw [hr, punct_two, hp]
  rfl
theorem nx_p_dot {s : ByteArray} {o : Nat} {r : List UInt8} (hr : rest s o = 112 :: 46 :: r) : Nxt s o 1 (o + 1) := nxt_pre (c := 112) (d := 46) (k := 1) (x := ⟨1, ⟨#[112]⟩, 0, 0, 0, 1⟩) (by kernel_rfl) rfl rfl rfl (by decide) hr
theorem nx_p_open {s : ByteArray} {o : Nat} {r : List UInt8} (hr : rest s o = 112 :: 40 :: r) : Nxt s o 1 (o + 1) := nxt_pre (c := 112) (d := 40) (k := 1) (x := ⟨1, ⟨#[112]⟩, 0, 0, 0, 1⟩) (by kernel_rfl) rfl rfl rfl (by decide) hr
theorem nx_h_col {s : ByteArray} {o : Nat} {r : List UInt8} (hr : rest s o = 104 :: 58 :: r) : Nxt s o 1 (o + 1) := nxt_pre (c := 104) (d := 58) (k := 1) (x := ⟨1, ⟨#[104]⟩, 0, 0, 0, 1⟩) (by kernel_rfl) rfl rfl rfl (by decide) hr
theorem nx_1_eq {s : ByteArray} {o : Nat} {r : List UInt8} (hr : rest s o = 49 :: 61 :: r) : Nxt s o 3 (o + 1) := nxt_pre (c := 49) (d := 61) (k := 3) (x := ⟨3, ⟨#[]⟩, 1, 0, 0, 1⟩) (by kernel_rfl) rfl rfl rfl (by decide) hr
theorem nx_1_com {s : ByteArray} {o : Nat} {r : List UInt8} (hr : rest s o = 49 :: 44 :: r) : Nxt s o 3 (o + 1) := nxt_pre (c := 49) (d := 44) (k := 3) (x := ⟨3, ⟨#[]⟩, 1, 0, 0, 1⟩) (by kernel_rfl) rfl rfl rfl (by decide) hr
theorem nx_1_dot {s : ByteArray} {o : Nat} {r : List UInt8} (hr : rest s o = 49 :: 46 :: r) : Nxt s o 3 (o + 1) := nxt_pre (c := 49) (d := 46) (k := 3) (x := ⟨3, ⟨#[]⟩, 1, 0, 0, 1⟩) (by kernel_rfl) rfl rfl rfl (by decide) hr
theorem nx_1_shut {s : ByteArray} {o : Nat} {r : List UInt8} (hr : rest s o = 49 :: 41 :: r) : Nxt s o 3 (o + 1) := nxt_pre (c := 49) (d := 41) (k := 3) (x := ⟨3, ⟨#[]⟩, 1, 0, 0, 1⟩) (by kernel_rfl) rfl rfl rfl (by decide) hr
theorem nx_dot {s : ByteArray} {o : Nat} {r : List UInt8} (hr : rest s o = 46 :: r) : Nxt s o 8 (o + 1) := nxt_punct (n := 1) (op := 0) hr (by decide) (by decide) (by unfold begL bDig; simp) (by decide) (by unfold P2 P1; simp) (by decide) (by decide)
theorem nx_com {s : ByteArray} {o : Nat} {r : List UInt8} (hr : rest s o = 44 :: r) : Nxt s o 7 (o + 1) := nxt_punct (n := 1) (op := 0) hr (by decide) (by decide) (by unfold begL bDig; simp) (by decide) (by unfold P2 P1; simp) (by decide) (by decide)
theorem nx_open {s : ByteArray} {o : Nat} {r : List UInt8} (hr : rest s o = 40 :: r) : Nxt s o 5 (o + 1) := nxt_punct (n := 1) (op := 0) hr (by decide) (by decide) (by unfold begL bDig; simp) (by decide) (by unfold P2 P1; simp) (by decide) (by decide)
theorem nx_shut {s : ByteArray} {o : Nat} {r : List UInt8} (hr : rest s o = 41 :: r) : Nxt s o 6 (o + 1) := nxt_punct (n := 1) (op := 0) hr (by decide) (by decide) (by unfold begL bDig; simp) (by decide) (by unfold P2 P1; simp) (by decide) (by decide)
theorem nx_eq {s : ByteArray} {o : Nat} {r : List UInt8} (hr : rest s o = 61 :: r) : Nxt s o 11 (o + 1) := nxt_punct (n := 1) (op := 1) hr (by decide) (by decide) (by unfold begL bDig; simp) (by decide) (by unfold P2 P1; simp) (by decide) (by decide)
theorem nx_arrow {s : ByteArray} {o : Nat} {r : List UInt8} (hr : rest s o = 58 :: 45 :: r) : Nxt s o 9 (o + 2) := nxt_punct (n := 2) (op := 0) hr (by decide) (by decide) (by unfold begL bDig; simp) (by decide) (by unfold P2; simp) (by decide) (by decide)

/-- What the table of states says from a place on. -/
def Chk (s : ByteArray) (o : Nat) (first st : Int) (c : Cnt) (x y : Int) : Prop := ∀ L ec eo, Toks s o L ec eo → fltU (chkR ec (eo : Int) first st c L) = (x, y)
section
variable {s : ByteArray} {o e : Nat} {first st k n x y : Int} {c c' : Cnt}
theorem nxt_more (h : Nxt s o k e) (hk : k ≠ 0) {L : List Tok} {ec : Int} {eo : Nat} (T : Toks s o L ec eo) : ∃ t r, L = t :: r ∧ t.k = k ∧ t.off = o ∧ Toks s e r ec eo := by
  obtain ⟨t, h1, h2, h3, h4⟩ := h
  cases T with
  | bad ho hx => rw [h1] at hx; cases hx
  | last ho hx h0 =>
    rw [h1] at hx
    injection hx with hx
    subst hx
    exact absurd (h2.symm.trans h0) hk
  | more ho hx h0 hT =>
    rw [h1] at hx
    injection hx with hx
    subst hx
    exact ⟨t, _, rfl, h2, h3, by rw [← h4]; exact hT⟩
theorem chk_step (h : Nxt s o k e) (hk : k ≠ 0) (hm : moveP first st k = n) (hn : n ≠ -1) (hc : takeC c st k = c') (hl : Lim first c') (hC : Chk s e first n c' x y) : Chk s o first st c x y := fun L ec eo T => by
  obtain ⟨t, r, rfl, h1, h2, hT⟩ := nxt_more h hk T
  rw [chk_go (by rw [h1]; exact hm) hn (by rw [h1]; exact hc) hl]
  exact hC r ec eo hT
theorem chk_miss (h : Nxt s o k e) (hk : k ≠ 0) (hm : moveP first st k = -1) : Chk s o first st c 20 o := fun L ec eo T => by
  obtain ⟨t, r, rfl, h1, h2, hT⟩ := nxt_more h hk T
  rw [chk_mis (by rw [h1]; exact hm), h1, h2]
  unfold misK
  rw [if_neg hk]
  rfl
theorem chk_over (h : Nxt s o k e) (hk : k ≠ 0) (hm : moveP first st k = n) (hn : n ≠ -1) (hc : takeC c st k = c') (hl : overC first c' = x) (hx : x ≠ 0) : Chk s o first st c x o := fun L ec eo T => by
  obtain ⟨t, r, rfl, h1, h2, hT⟩ := nxt_more h hk T
  rw [chk_lim (by rw [h1]; exact hm) hn (by rw [h1]; exact hc) hl hx, h2]
  rfl
theorem chk_end (h : s.size ≤ o) (hm : moveP first st 0 = n) (hn : n ≠ -1) (hc : takeC c st 0 = c') (hl : Lim first c') : Chk s o first st c 0 0 := fun L ec eo T => by
  have hx0 : ∀ ho : o ≤ s.size, nextX s o = .tok (endTok s.size) := fun ho => next_last s o ho (by
    have : o = s.size := by omega
    rw [gapW_end s o h, this])
  cases T with
  | bad ho hx => rw [hx0 ho] at hx; cases hx
  | last ho hx h0 =>
    rw [chk_go (by rw [h0]; exact hm) hn (by rw [h0]; exact hc) hl]
    rfl
  | more ho hx h0 hT =>
    rw [hx0 ho] at hx
    injection hx with hx
    subst hx
    exact absurd rfl h0
end
def repB : Nat → List UInt8 → List UInt8
  | 0, _ => []
  | n + 1, p => p ++ repB n p
theorem rep_add (p : List UInt8) (b : Nat) : ∀ a, repB (a + b) p = repB a p ++ repB b p
  | 0 => by rw [Nat.zero_add]; rfl
  | a + 1 => by rw [Nat.add_right_comm]; show p ++ repB (a + b) p = (p ++ repB a p) ++ _; rw [rep_add p b a, List.append_assoc]
theorem rep_len (p : List UInt8) : ∀ a, (repB a p).length = a * p.length
  | 0 => by rw [Nat.zero_mul]; rfl
  | a + 1 => by show (p ++ repB a p).length = _; rw [List.length_append, rep_len p a, Nat.succ_mul]; omega
theorem rest_go {s : ByteArray} {o : Nat} {p R : List UInt8} (h : rest s o = p ++ R) : rest s (o + p.length) = R := by
  rw [← rest_drop, h, List.drop_left]
theorem rep_chk {s : ByteArray} {first st x y : Int} {pat : List UInt8} {cn : Nat → Cnt} {M : Nat} (step : ∀ (o : Nat) (R : List UInt8) (i : Nat), i < M → rest s o = pat ++ R → Chk s (o + pat.length) first st (cn (i + 1)) x y → Chk s o first st (cn i) x y) (T : List UInt8) : ∀ (j i o : Nat), i + j ≤ M → rest s o = repB j pat ++ T → Chk s (o + j * pat.length) first st (cn (i + j)) x y → Chk s o first st (cn i) x y
  | 0, i, o, _, _, h => by rw [Nat.zero_mul] at h; exact h
  | j + 1, i, o, hM, hr, h => by
    have hr' : rest s o = pat ++ (repB j pat ++ T) := by rw [hr]; show (pat ++ repB j pat) ++ T = _; rw [List.append_assoc]
    refine step o _ i (by omega) hr' (rep_chk step T j (i + 1) _ (by omega) (rest_go hr') ?_)
    rw [show o + pat.length + j * pat.length = o + (j + 1) * pat.length by rw [Nat.succ_mul]; omega, show i + 1 + j = i + (j + 1) by omega]
    exact h
theorem rd_prog {s : ByteArray} {x y : Int} (o : Nat) (R : List UInt8) (i : Nat) (hi : i < 512) (hr : rest s o = [112, 46] ++ R) (h : Chk s (o + ([112, 46] : List UInt8).length) 0 0 ⟨((i + 1 : Nat) : Int), 0, 0⟩ x y) : Chk s o 0 0 ⟨(i : Int), 0, 0⟩ x y := by
  refine chk_step (nx_p_dot hr) (by decide) (n := 1) (by unfold moveP moveHeadP; simp [isTermB, isValueB, bhP]) (by decide) (c' := ⟨((i + 1 : Nat) : Int), 0, 0⟩) (by unfold takeC; simp) ⟨by simp <;> omega, by simp <;> omega, by simp <;> omega, by simp <;> omega⟩ ?_
  refine chk_step (nx_dot (rest_go (p := [112]) hr)) (by decide) (n := 0) (by unfold moveP moveHeadP; simp [isTermB, isValueB, bhP]) (by decide) (c' := ⟨((i + 1 : Nat) : Int), 0, 0⟩) (by unfold takeC; simp) ⟨by simp <;> omega, by simp <;> omega, by simp <;> omega, by simp <;> omega⟩ ?_
  exact h
theorem rd_facts {s : ByteArray} {x y : Int} (o : Nat) (R : List UInt8) (i : Nat) (hi : i < 4096) (hr : rest s o = [112, 46] ++ R) (h : Chk s (o + ([112, 46] : List UInt8).length) 15 15 ⟨((i + 1 : Nat) : Int), 0, 0⟩ x y) : Chk s o 15 15 ⟨(i : Int), 0, 0⟩ x y := by
  refine chk_step (nx_p_dot hr) (by decide) (n := 16) (by unfold moveP moveFactP; simp [isTermB, isValueB, bhP]) (by decide) (c' := ⟨((i + 1 : Nat) : Int), 0, 0⟩) (by unfold takeC; simp) ⟨by simp <;> omega, by simp <;> omega, by simp <;> omega, by simp <;> omega⟩ ?_
  refine chk_step (nx_dot (rest_go (p := [112]) hr)) (by decide) (n := 15) (by unfold moveP moveFactP; simp [isTermB, isValueB, bhP]) (by decide) (c' := ⟨((i + 1 : Nat) : Int), 0, 0⟩) (by unfold takeC; simp) ⟨by simp <;> omega, by simp <;> omega, by simp <;> omega, by simp <;> omega⟩ ?_
  exact h
theorem rd_lit0 {s : ByteArray} {x y : Int} (o : Nat) (R : List UInt8) (i : Nat) (hi : i < 16) (hr : rest s o = [49, 61, 49, 44] ++ R) (h : Chk s (o + ([49, 61, 49, 44] : List UInt8).length) 0 5 ⟨1, ((i + 1 : Nat) : Int), 0⟩ x y) : Chk s o 0 5 ⟨1, (i : Int), 0⟩ x y := by
  refine chk_step (nx_1_eq hr) (by decide) (n := 8) (by unfold moveP moveBodyP; simp [isTermB, isValueB, bhP]) (by decide) (c' := ⟨1, ((i + 1 : Nat) : Int), 0⟩) (by unfold takeC; simp) ⟨by simp <;> omega, by simp <;> omega, by simp <;> omega, by simp <;> omega⟩ ?_
  refine chk_step (nx_eq (rest_go (p := [49]) hr)) (by decide) (n := 11) (by unfold moveP moveBodyP; simp [isTermB, isValueB, bhP]) (by decide) (c' := ⟨1, ((i + 1 : Nat) : Int), 0⟩) (by unfold takeC; simp) ⟨by simp <;> omega, by simp <;> omega, by simp <;> omega, by simp <;> omega⟩ ?_
  refine chk_step (nx_1_com (rest_go (p := [49, 61]) hr)) (by decide) (n := 14) (by unfold moveP moveBodyP; simp [isTermB, isValueB, bhP]) (by decide) (c' := ⟨1, ((i + 1 : Nat) : Int), 0⟩) (by unfold takeC; simp) ⟨by simp <;> omega, by simp <;> omega, by simp <;> omega, by simp <;> omega⟩ ?_
  refine chk_step (nx_com (rest_go (p := [49, 61, 49]) hr)) (by decide) (n := 5) (by unfold moveP moveBodyP; simp [isTermB, isValueB, bhP]) (by decide) (c' := ⟨1, ((i + 1 : Nat) : Int), 0⟩) (by unfold takeC; simp) ⟨by simp <;> omega, by simp <;> omega, by simp <;> omega, by simp <;> omega⟩ ?_
  exact h
theorem rd_lit5 {s : ByteArray} {x y : Int} (o : Nat) (R : List UInt8) (i : Nat) (hi : i < 16) (hr : rest s o = [49, 61, 49, 44] ++ R) (h : Chk s (o + ([49, 61, 49, 44] : List UInt8).length) 5 5 ⟨0, ((i + 1 : Nat) : Int), 0⟩ x y) : Chk s o 5 5 ⟨0, (i : Int), 0⟩ x y := by
  refine chk_step (nx_1_eq hr) (by decide) (n := 8) (by unfold moveP moveBodyP; simp [isTermB, isValueB, bhP]) (by decide) (c' := ⟨0, ((i + 1 : Nat) : Int), 0⟩) (by unfold takeC; simp) ⟨by simp <;> omega, by simp <;> omega, by simp <;> omega, by simp <;> omega⟩ ?_
  refine chk_step (nx_eq (rest_go (p := [49]) hr)) (by decide) (n := 11) (by unfold moveP moveBodyP; simp [isTermB, isValueB, bhP]) (by decide) (c' := ⟨0, ((i + 1 : Nat) : Int), 0⟩) (by unfold takeC; simp) ⟨by simp <;> omega, by simp <;> omega, by simp <;> omega, by simp <;> omega⟩ ?_
  refine chk_step (nx_1_com (rest_go (p := [49, 61]) hr)) (by decide) (n := 14) (by unfold moveP moveBodyP; simp [isTermB, isValueB, bhP]) (by decide) (c' := ⟨0, ((i + 1 : Nat) : Int), 0⟩) (by unfold takeC; simp) ⟨by simp <;> omega, by simp <;> omega, by simp <;> omega, by simp <;> omega⟩ ?_
  refine chk_step (nx_com (rest_go (p := [49, 61, 49]) hr)) (by decide) (n := 5) (by unfold moveP moveBodyP; simp [isTermB, isValueB, bhP]) (by decide) (c' := ⟨0, ((i + 1 : Nat) : Int), 0⟩) (by unfold takeC; simp) ⟨by simp <;> omega, by simp <;> omega, by simp <;> omega, by simp <;> omega⟩ ?_
  exact h
theorem rd_arg0 {s : ByteArray} {x y : Int} (o : Nat) (R : List UInt8) (i : Nat) (hi : i < 8) (hr : rest s o = [49, 44] ++ R) (h : Chk s (o + ([49, 44] : List UInt8).length) 0 2 ⟨1, 0, ((i + 1 : Nat) : Int)⟩ x y) : Chk s o 0 2 ⟨1, 0, (i : Int)⟩ x y := by
  refine chk_step (nx_1_com hr) (by decide) (n := 3) (by unfold moveP moveHeadP; simp [isTermB, isValueB, bhP]) (by decide) (c' := ⟨1, 0, ((i + 1 : Nat) : Int)⟩) (by unfold takeC; simp) ⟨by simp <;> omega, by simp <;> omega, by simp <;> omega, by simp <;> omega⟩ ?_
  refine chk_step (nx_com (rest_go (p := [49]) hr)) (by decide) (n := 2) (by unfold moveP moveHeadP; simp [isTermB, isValueB, bhP]) (by decide) (c' := ⟨1, 0, ((i + 1 : Nat) : Int)⟩) (by unfold takeC; simp) ⟨by simp <;> omega, by simp <;> omega, by simp <;> omega, by simp <;> omega⟩ ?_
  exact h
theorem rd_arg20 {s : ByteArray} {x y : Int} (o : Nat) (R : List UInt8) (i : Nat) (hi : i < 8) (hr : rest s o = [49, 44] ++ R) (h : Chk s (o + ([49, 44] : List UInt8).length) 20 22 ⟨0, 0, ((i + 1 : Nat) : Int)⟩ x y) : Chk s o 20 22 ⟨0, 0, (i : Int)⟩ x y := by
  refine chk_step (nx_1_com hr) (by decide) (n := 23) (by unfold moveP moveFactP; simp [isTermB, isValueB, bhP]) (by decide) (c' := ⟨0, 0, ((i + 1 : Nat) : Int)⟩) (by unfold takeC; simp) ⟨by simp <;> omega, by simp <;> omega, by simp <;> omega, by simp <;> omega⟩ ?_
  refine chk_step (nx_com (rest_go (p := [49]) hr)) (by decide) (n := 22) (by unfold moveP moveFactP; simp [isTermB, isValueB, bhP]) (by decide) (c' := ⟨0, 0, ((i + 1 : Nat) : Int)⟩) (by unfold takeC; simp) ⟨by simp <;> omega, by simp <;> omega, by simp <;> omega, by simp <;> omega⟩ ?_
  exact h
end Go.Proofs.YtfbmddgjbmapiaaDoor

namespace Go.Proofs.YtfbmddgjbmapiaaDoor
set_option linter.unusedSimpArgs false
set_option linter.unusedVariables false
open Go.RowKit

theorem rest_out {s : ByteArray} {o : Nat} (h : rest s o = []) : s.size ≤ o := by
  have := rest_len s o
  rw [h] at this
  simp at this
  omega
theorem lim0 {s : ByteArray} {m : Nat} {bad : Bool} (hs : rest s 0 = (repB m [112, 46] ++ (if bad then ([41, 46] : List UInt8) else [112, 46]))) (hz : s.size ≤ 65536) :
    (512 ≤ m → (bad = true → 512 < m) → fOf 0 s = (24, 1024)) ∧ (bad = true → m ≤ 512 → fOf 0 s = (20, ((0 + m * 2 : Nat) : Int))) ∧ (bad = false → m < 512 → fOf 0 s = (0, 0)) := by
  have key : ∀ x y, Chk s 0 0 0 ⟨((0 : Nat) : Int), 0, 0⟩ x y → fOf 0 s = (x, y) := fun x y h => by
    rw [fOf_chk 0 (by decide) s]
    have h0 : Chk s 0 0 0 ⟨0, 0, 0⟩ x y := by
      exact h
    exact h0 _ _ _ (scan_toks s hz)
  have hr : rest s 0 = repB m [112, 46] ++ (if bad then ([41, 46] : List UInt8) else [112, 46]) := hs
  clear hs
  refine ⟨fun hM hb => key _ _ ?_, fun hb hm => key _ _ ?_, fun hb hm => key _ _ ?_⟩
  · have hr2 : rest s 0 = repB 512 [112, 46] ++ (repB (m - 512) [112, 46] ++ (if bad then ([41, 46] : List UInt8) else [112, 46])) := by rw [hr, ← List.append_assoc, ← rep_add, show 512 + (m - 512) = m by omega]
    refine rep_chk (cn := fun i => ⟨(i : Int), 0, 0⟩) (M := 512) rd_prog _ 512 0 _ (by omega) hr2 ?_
    have h3 := rest_go hr2
    rw [rep_len] at h3
    cases hd : m - 512 with
    | zero =>
      have hbf : bad = false := by
        cases bad with
        | false => rfl
        | true => have := hb rfl; omega
      rw [hd, hbf] at h3
      exact chk_over (nx_p_dot h3) (by decide) (n := 1) (by unfold moveP moveHeadP; simp [isTermB, isValueB, bhP]) (by decide) (c' := ⟨((513 : Nat) : Int), 0, 0⟩) (by unfold takeC; simp) (by unfold overC; simp) (by decide)
    | succ q =>
      rw [hd] at h3
      exact chk_over (nx_p_dot h3) (by decide) (n := 1) (by unfold moveP moveHeadP; simp [isTermB, isValueB, bhP]) (by decide) (c' := ⟨((513 : Nat) : Int), 0, 0⟩) (by unfold takeC; simp) (by unfold overC; simp) (by decide)
  · subst hb
    refine rep_chk (cn := fun i => ⟨(i : Int), 0, 0⟩) (M := 512) rd_prog _ m 0 _ (by omega) hr ?_
    have h3 := rest_go hr
    rw [rep_len] at h3
    exact chk_miss (nx_shut h3) (by decide) (by unfold moveP moveHeadP; simp [isTermB, isValueB, bhP])
  · subst hb
    refine rep_chk (cn := fun i => ⟨(i : Int), 0, 0⟩) (M := 512) rd_prog _ m 0 _ (by omega) hr ?_
    have h3 := rest_go hr
    rw [rep_len] at h3
    have h4 := rest_go (p := [112, 46]) (R := []) h3
    simp only [Nat.zero_add]
    simp only [Nat.zero_add] at h3 h4
    refine chk_step (nx_p_dot h3) (by decide) (n := 1) (by unfold moveP moveHeadP; simp [isTermB, isValueB, bhP]) (by decide) (c' := ⟨((m + 1 : Nat) : Int), 0, 0⟩) (by unfold takeC; simp) ⟨by simp <;> omega, by simp <;> omega, by simp <;> omega, by simp <;> omega⟩ ?_
    refine chk_step (nx_dot (rest_go (p := [112]) h3)) (by decide) (n := 0) (by unfold moveP moveHeadP; simp [isTermB, isValueB, bhP]) (by decide) (c' := ⟨((m + 1 : Nat) : Int), 0, 0⟩) (by unfold takeC; simp) ⟨by simp <;> omega, by simp <;> omega, by simp <;> omega, by simp <;> omega⟩ ?_
    exact chk_end (rest_out h4) (n := 26) (by unfold moveP moveHeadP; simp [bhP]) (by decide) (c' := ⟨((m + 1 : Nat) : Int), 0, 0⟩) (by unfold takeC; simp) ⟨by simp <;> omega, by simp <;> omega, by simp <;> omega, by simp <;> omega⟩
theorem lim1 {s : ByteArray} {m : Nat} {bad : Bool} (hs : rest s 0 = (repB m [112, 46] ++ (if bad then ([41, 46] : List UInt8) else [112, 46]))) (hz : s.size ≤ 65536) :
    (4096 ≤ m → (bad = true → 4096 < m) → fOf 1 s = (24, 8192)) ∧ (bad = true → m ≤ 4096 → fOf 1 s = (20, ((0 + m * 2 : Nat) : Int))) ∧ (bad = false → m < 4096 → fOf 1 s = (0, 0)) := by
  have key : ∀ x y, Chk s 0 15 15 ⟨((0 : Nat) : Int), 0, 0⟩ x y → fOf 1 s = (x, y) := fun x y h => by
    rw [fOf_chk 1 (by decide) s]
    have h0 : Chk s 0 15 15 ⟨0, 0, 0⟩ x y := by
      exact h
    exact h0 _ _ _ (scan_toks s hz)
  have hr : rest s 0 = repB m [112, 46] ++ (if bad then ([41, 46] : List UInt8) else [112, 46]) := hs
  clear hs
  refine ⟨fun hM hb => key _ _ ?_, fun hb hm => key _ _ ?_, fun hb hm => key _ _ ?_⟩
  · have hr2 : rest s 0 = repB 4096 [112, 46] ++ (repB (m - 4096) [112, 46] ++ (if bad then ([41, 46] : List UInt8) else [112, 46])) := by rw [hr, ← List.append_assoc, ← rep_add, show 4096 + (m - 4096) = m by omega]
    refine rep_chk (cn := fun i => ⟨(i : Int), 0, 0⟩) (M := 4096) rd_facts _ 4096 0 _ (by omega) hr2 ?_
    have h3 := rest_go hr2
    rw [rep_len] at h3
    cases hd : m - 4096 with
    | zero =>
      have hbf : bad = false := by
        cases bad with
        | false => rfl
        | true => have := hb rfl; omega
      rw [hd, hbf] at h3
      exact chk_over (nx_p_dot h3) (by decide) (n := 16) (by unfold moveP moveFactP; simp [isTermB, isValueB, bhP]) (by decide) (c' := ⟨((4097 : Nat) : Int), 0, 0⟩) (by unfold takeC; simp) (by unfold overC; simp) (by decide)
    | succ q =>
      rw [hd] at h3
      exact chk_over (nx_p_dot h3) (by decide) (n := 16) (by unfold moveP moveFactP; simp [isTermB, isValueB, bhP]) (by decide) (c' := ⟨((4097 : Nat) : Int), 0, 0⟩) (by unfold takeC; simp) (by unfold overC; simp) (by decide)
  · subst hb
    refine rep_chk (cn := fun i => ⟨(i : Int), 0, 0⟩) (M := 4096) rd_facts _ m 0 _ (by omega) hr ?_
    have h3 := rest_go hr
    rw [rep_len] at h3
    exact chk_miss (nx_shut h3) (by decide) (by unfold moveP moveFactP; simp [isTermB, isValueB, bhP])
  · subst hb
    refine rep_chk (cn := fun i => ⟨(i : Int), 0, 0⟩) (M := 4096) rd_facts _ m 0 _ (by omega) hr ?_
    have h3 := rest_go hr
    rw [rep_len] at h3
    have h4 := rest_go (p := [112, 46]) (R := []) h3
    simp only [Nat.zero_add]
    simp only [Nat.zero_add] at h3 h4
    refine chk_step (nx_p_dot h3) (by decide) (n := 16) (by unfold moveP moveFactP; simp [isTermB, isValueB, bhP]) (by decide) (c' := ⟨((m + 1 : Nat) : Int), 0, 0⟩) (by unfold takeC; simp) ⟨by simp <;> omega, by simp <;> omega, by simp <;> omega, by simp <;> omega⟩ ?_
    refine chk_step (nx_dot (rest_go (p := [112]) h3)) (by decide) (n := 15) (by unfold moveP moveFactP; simp [isTermB, isValueB, bhP]) (by decide) (c' := ⟨((m + 1 : Nat) : Int), 0, 0⟩) (by unfold takeC; simp) ⟨by simp <;> omega, by simp <;> omega, by simp <;> omega, by simp <;> omega⟩ ?_
    exact chk_end (rest_out h4) (n := 26) (by unfold moveP moveFactP; simp [bhP]) (by decide) (c' := ⟨((m + 1 : Nat) : Int), 0, 0⟩) (by unfold takeC; simp) ⟨by simp <;> omega, by simp <;> omega, by simp <;> omega, by simp <;> omega⟩
theorem lim2 {s : ByteArray} {m : Nat} {bad : Bool} (hs : rest s 0 = [104, 58, 45] ++ (repB m [49, 61, 49, 44] ++ (if bad then ([41, 61, 49, 46] : List UInt8) else [49, 61, 49, 46]))) (hz : s.size ≤ 65536) :
    (16 ≤ m → (bad = true → 16 < m) → fOf 0 s = (23, 67)) ∧ (bad = true → m ≤ 16 → fOf 0 s = (20, ((3 + m * 4 : Nat) : Int))) ∧ (bad = false → m < 16 → fOf 0 s = (0, 0)) := by
  have key : ∀ x y, Chk s 3 0 5 ⟨1, ((0 : Nat) : Int), 0⟩ x y → fOf 0 s = (x, y) := fun x y h => by
    rw [fOf_chk 0 (by decide) s]
    have h0 : Chk s 0 0 0 ⟨0, 0, 0⟩ x y := by
      refine chk_step (nx_h_col hs) (by decide) (n := 1) (by unfold moveP moveHeadP; simp [isTermB, isValueB, bhP]) (by decide) (c' := ⟨1, 0, 0⟩) (by unfold takeC; simp) ⟨by simp <;> omega, by simp <;> omega, by simp <;> omega, by simp <;> omega⟩ ?_
      refine chk_step (nx_arrow (rest_go (p := [104]) hs)) (by decide) (n := 5) (by unfold moveP moveHeadP; simp [isTermB, isValueB, bhP]) (by decide) (c' := ⟨1, 0, 0⟩) (by unfold takeC; simp) ⟨by simp <;> omega, by simp <;> omega, by simp <;> omega, by simp <;> omega⟩ ?_
      exact h
    exact h0 _ _ _ (scan_toks s hz)
  have hr : rest s 3 = repB m [49, 61, 49, 44] ++ (if bad then ([41, 61, 49, 46] : List UInt8) else [49, 61, 49, 46]) := rest_go (p := [104, 58, 45]) hs
  clear hs
  refine ⟨fun hM hb => key _ _ ?_, fun hb hm => key _ _ ?_, fun hb hm => key _ _ ?_⟩
  · have hr2 : rest s 3 = repB 16 [49, 61, 49, 44] ++ (repB (m - 16) [49, 61, 49, 44] ++ (if bad then ([41, 61, 49, 46] : List UInt8) else [49, 61, 49, 46])) := by rw [hr, ← List.append_assoc, ← rep_add, show 16 + (m - 16) = m by omega]
    refine rep_chk (cn := fun i => ⟨1, (i : Int), 0⟩) (M := 16) rd_lit0 _ 16 0 _ (by omega) hr2 ?_
    have h3 := rest_go hr2
    rw [rep_len] at h3
    cases hd : m - 16 with
    | zero =>
      have hbf : bad = false := by
        cases bad with
        | false => rfl
        | true => have := hb rfl; omega
      rw [hd, hbf] at h3
      exact chk_over (nx_1_eq h3) (by decide) (n := 8) (by unfold moveP moveBodyP; simp [isTermB, isValueB, bhP]) (by decide) (c' := ⟨1, ((17 : Nat) : Int), 0⟩) (by unfold takeC; simp) (by unfold overC; simp) (by decide)
    | succ q =>
      rw [hd] at h3
      exact chk_over (nx_1_eq h3) (by decide) (n := 8) (by unfold moveP moveBodyP; simp [isTermB, isValueB, bhP]) (by decide) (c' := ⟨1, ((17 : Nat) : Int), 0⟩) (by unfold takeC; simp) (by unfold overC; simp) (by decide)
  · subst hb
    refine rep_chk (cn := fun i => ⟨1, (i : Int), 0⟩) (M := 16) rd_lit0 _ m 0 _ (by omega) hr ?_
    have h3 := rest_go hr
    rw [rep_len] at h3
    exact chk_miss (nx_shut h3) (by decide) (by unfold moveP moveBodyP; simp [isTermB, isValueB, bhP])
  · subst hb
    refine rep_chk (cn := fun i => ⟨1, (i : Int), 0⟩) (M := 16) rd_lit0 _ m 0 _ (by omega) hr ?_
    have h3 := rest_go hr
    rw [rep_len] at h3
    have h4 := rest_go (p := [49, 61, 49, 46]) (R := []) h3
    simp only [Nat.zero_add]
    refine chk_step (nx_1_eq h3) (by decide) (n := 8) (by unfold moveP moveBodyP; simp [isTermB, isValueB, bhP]) (by decide) (c' := ⟨1, ((m + 1 : Nat) : Int), 0⟩) (by unfold takeC; simp) ⟨by simp <;> omega, by simp <;> omega, by simp <;> omega, by simp <;> omega⟩ ?_
    refine chk_step (nx_eq (rest_go (p := [49]) h3)) (by decide) (n := 11) (by unfold moveP moveBodyP; simp [isTermB, isValueB, bhP]) (by decide) (c' := ⟨1, ((m + 1 : Nat) : Int), 0⟩) (by unfold takeC; simp) ⟨by simp <;> omega, by simp <;> omega, by simp <;> omega, by simp <;> omega⟩ ?_
    refine chk_step (nx_1_dot (rest_go (p := [49, 61]) h3)) (by decide) (n := 14) (by unfold moveP moveBodyP; simp [isTermB, isValueB, bhP]) (by decide) (c' := ⟨1, ((m + 1 : Nat) : Int), 0⟩) (by unfold takeC; simp) ⟨by simp <;> omega, by simp <;> omega, by simp <;> omega, by simp <;> omega⟩ ?_
    refine chk_step (nx_dot (rest_go (p := [49, 61, 49]) h3)) (by decide) (n := 0) (by unfold moveP moveBodyP; simp [isTermB, isValueB, bhP]) (by decide) (c' := ⟨1, ((m + 1 : Nat) : Int), 0⟩) (by unfold takeC; simp) ⟨by simp <;> omega, by simp <;> omega, by simp <;> omega, by simp <;> omega⟩ ?_
    exact chk_end (rest_out h4) (n := 26) (by unfold moveP moveHeadP; simp [bhP]) (by decide) (c' := ⟨1, ((m + 1 : Nat) : Int), 0⟩) (by unfold takeC; simp) ⟨by simp <;> omega, by simp <;> omega, by simp <;> omega, by simp <;> omega⟩
theorem lim3 {s : ByteArray} {m : Nat} {bad : Bool} (hs : rest s 0 = (repB m [49, 61, 49, 44] ++ (if bad then ([41, 61, 49, 46] : List UInt8) else [49, 61, 49, 46]))) (hz : s.size ≤ 65536) :
    (16 ≤ m → (bad = true → 16 < m) → fOf 2 s = (23, 64)) ∧ (bad = true → m ≤ 16 → fOf 2 s = (20, ((0 + m * 4 : Nat) : Int))) ∧ (bad = false → m < 16 → fOf 2 s = (0, 0)) := by
  have key : ∀ x y, Chk s 0 5 5 ⟨0, ((0 : Nat) : Int), 0⟩ x y → fOf 2 s = (x, y) := fun x y h => by
    rw [fOf_chk 2 (by decide) s]
    have h0 : Chk s 0 5 5 ⟨0, 0, 0⟩ x y := by
      exact h
    exact h0 _ _ _ (scan_toks s hz)
  have hr : rest s 0 = repB m [49, 61, 49, 44] ++ (if bad then ([41, 61, 49, 46] : List UInt8) else [49, 61, 49, 46]) := hs
  clear hs
  refine ⟨fun hM hb => key _ _ ?_, fun hb hm => key _ _ ?_, fun hb hm => key _ _ ?_⟩
  · have hr2 : rest s 0 = repB 16 [49, 61, 49, 44] ++ (repB (m - 16) [49, 61, 49, 44] ++ (if bad then ([41, 61, 49, 46] : List UInt8) else [49, 61, 49, 46])) := by rw [hr, ← List.append_assoc, ← rep_add, show 16 + (m - 16) = m by omega]
    refine rep_chk (cn := fun i => ⟨0, (i : Int), 0⟩) (M := 16) rd_lit5 _ 16 0 _ (by omega) hr2 ?_
    have h3 := rest_go hr2
    rw [rep_len] at h3
    cases hd : m - 16 with
    | zero =>
      have hbf : bad = false := by
        cases bad with
        | false => rfl
        | true => have := hb rfl; omega
      rw [hd, hbf] at h3
      exact chk_over (nx_1_eq h3) (by decide) (n := 8) (by unfold moveP moveBodyP; simp [isTermB, isValueB, bhP]) (by decide) (c' := ⟨0, ((17 : Nat) : Int), 0⟩) (by unfold takeC; simp) (by unfold overC; simp) (by decide)
    | succ q =>
      rw [hd] at h3
      exact chk_over (nx_1_eq h3) (by decide) (n := 8) (by unfold moveP moveBodyP; simp [isTermB, isValueB, bhP]) (by decide) (c' := ⟨0, ((17 : Nat) : Int), 0⟩) (by unfold takeC; simp) (by unfold overC; simp) (by decide)
  · subst hb
    refine rep_chk (cn := fun i => ⟨0, (i : Int), 0⟩) (M := 16) rd_lit5 _ m 0 _ (by omega) hr ?_
    have h3 := rest_go hr
    rw [rep_len] at h3
    exact chk_miss (nx_shut h3) (by decide) (by unfold moveP moveBodyP; simp [isTermB, isValueB, bhP])
  · subst hb
    refine rep_chk (cn := fun i => ⟨0, (i : Int), 0⟩) (M := 16) rd_lit5 _ m 0 _ (by omega) hr ?_
    have h3 := rest_go hr
    rw [rep_len] at h3
    have h4 := rest_go (p := [49, 61, 49, 46]) (R := []) h3
    simp only [Nat.zero_add]
    simp only [Nat.zero_add] at h3 h4
    refine chk_step (nx_1_eq h3) (by decide) (n := 8) (by unfold moveP moveBodyP; simp [isTermB, isValueB, bhP]) (by decide) (c' := ⟨0, ((m + 1 : Nat) : Int), 0⟩) (by unfold takeC; simp) ⟨by simp <;> omega, by simp <;> omega, by simp <;> omega, by simp <;> omega⟩ ?_
    refine chk_step (nx_eq (rest_go (p := [49]) h3)) (by decide) (n := 11) (by unfold moveP moveBodyP; simp [isTermB, isValueB, bhP]) (by decide) (c' := ⟨0, ((m + 1 : Nat) : Int), 0⟩) (by unfold takeC; simp) ⟨by simp <;> omega, by simp <;> omega, by simp <;> omega, by simp <;> omega⟩ ?_
    refine chk_step (nx_1_dot (rest_go (p := [49, 61]) h3)) (by decide) (n := 14) (by unfold moveP moveBodyP; simp [isTermB, isValueB, bhP]) (by decide) (c' := ⟨0, ((m + 1 : Nat) : Int), 0⟩) (by unfold takeC; simp) ⟨by simp <;> omega, by simp <;> omega, by simp <;> omega, by simp <;> omega⟩ ?_
    refine chk_step (nx_dot (rest_go (p := [49, 61, 49]) h3)) (by decide) (n := 25) (by unfold moveP moveBodyP; simp [isTermB, isValueB, bhP]) (by decide) (c' := ⟨0, ((m + 1 : Nat) : Int), 0⟩) (by unfold takeC; simp) ⟨by simp <;> omega, by simp <;> omega, by simp <;> omega, by simp <;> omega⟩ ?_
    exact chk_end (rest_out h4) (n := 26) (by unfold moveP moveBodyP; simp [bhP]) (by decide) (c' := ⟨0, ((m + 1 : Nat) : Int), 0⟩) (by unfold takeC; simp) ⟨by simp <;> omega, by simp <;> omega, by simp <;> omega, by simp <;> omega⟩
theorem lim4 {s : ByteArray} {m : Nat} {bad : Bool} (hs : rest s 0 = [112, 40] ++ (repB m [49, 44] ++ (if bad then ([41, 41, 46] : List UInt8) else [49, 41, 46]))) (hz : s.size ≤ 65536) :
    (8 ≤ m → (bad = true → 8 < m) → fOf 0 s = (22, 18)) ∧ (bad = true → m ≤ 8 → fOf 0 s = (20, ((2 + m * 2 : Nat) : Int))) ∧ (bad = false → m < 8 → fOf 0 s = (0, 0)) := by
  have key : ∀ x y, Chk s 2 0 2 ⟨1, 0, ((0 : Nat) : Int)⟩ x y → fOf 0 s = (x, y) := fun x y h => by
    rw [fOf_chk 0 (by decide) s]
    have h0 : Chk s 0 0 0 ⟨0, 0, 0⟩ x y := by
      refine chk_step (nx_p_open hs) (by decide) (n := 1) (by unfold moveP moveHeadP; simp [isTermB, isValueB, bhP]) (by decide) (c' := ⟨1, 0, 0⟩) (by unfold takeC; simp) ⟨by simp <;> omega, by simp <;> omega, by simp <;> omega, by simp <;> omega⟩ ?_
      refine chk_step (nx_open (rest_go (p := [112]) hs)) (by decide) (n := 2) (by unfold moveP moveHeadP; simp [isTermB, isValueB, bhP]) (by decide) (c' := ⟨1, 0, 0⟩) (by unfold takeC; simp) ⟨by simp <;> omega, by simp <;> omega, by simp <;> omega, by simp <;> omega⟩ ?_
      exact h
    exact h0 _ _ _ (scan_toks s hz)
  have hr : rest s 2 = repB m [49, 44] ++ (if bad then ([41, 41, 46] : List UInt8) else [49, 41, 46]) := rest_go (p := [112, 40]) hs
  clear hs
  refine ⟨fun hM hb => key _ _ ?_, fun hb hm => key _ _ ?_, fun hb hm => key _ _ ?_⟩
  · have hr2 : rest s 2 = repB 8 [49, 44] ++ (repB (m - 8) [49, 44] ++ (if bad then ([41, 41, 46] : List UInt8) else [49, 41, 46])) := by rw [hr, ← List.append_assoc, ← rep_add, show 8 + (m - 8) = m by omega]
    refine rep_chk (cn := fun i => ⟨1, 0, (i : Int)⟩) (M := 8) rd_arg0 _ 8 0 _ (by omega) hr2 ?_
    have h3 := rest_go hr2
    rw [rep_len] at h3
    cases hd : m - 8 with
    | zero =>
      have hbf : bad = false := by
        cases bad with
        | false => rfl
        | true => have := hb rfl; omega
      rw [hd, hbf] at h3
      exact chk_over (nx_1_shut h3) (by decide) (n := 3) (by unfold moveP moveHeadP; simp [isTermB, isValueB, bhP]) (by decide) (c' := ⟨1, 0, ((9 : Nat) : Int)⟩) (by unfold takeC; simp) (by unfold overC; simp) (by decide)
    | succ q =>
      rw [hd] at h3
      exact chk_over (nx_1_com h3) (by decide) (n := 3) (by unfold moveP moveHeadP; simp [isTermB, isValueB, bhP]) (by decide) (c' := ⟨1, 0, ((9 : Nat) : Int)⟩) (by unfold takeC; simp) (by unfold overC; simp) (by decide)
  · subst hb
    refine rep_chk (cn := fun i => ⟨1, 0, (i : Int)⟩) (M := 8) rd_arg0 _ m 0 _ (by omega) hr ?_
    have h3 := rest_go hr
    rw [rep_len] at h3
    exact chk_miss (nx_shut h3) (by decide) (by unfold moveP moveHeadP; simp [isTermB, isValueB, bhP])
  · subst hb
    refine rep_chk (cn := fun i => ⟨1, 0, (i : Int)⟩) (M := 8) rd_arg0 _ m 0 _ (by omega) hr ?_
    have h3 := rest_go hr
    rw [rep_len] at h3
    have h4 := rest_go (p := [49, 41, 46]) (R := []) h3
    simp only [Nat.zero_add]
    refine chk_step (nx_1_shut h3) (by decide) (n := 3) (by unfold moveP moveHeadP; simp [isTermB, isValueB, bhP]) (by decide) (c' := ⟨1, 0, ((m + 1 : Nat) : Int)⟩) (by unfold takeC; simp) ⟨by simp <;> omega, by simp <;> omega, by simp <;> omega, by simp <;> omega⟩ ?_
    refine chk_step (nx_shut (rest_go (p := [49]) h3)) (by decide) (n := 4) (by unfold moveP moveHeadP; simp [isTermB, isValueB, bhP]) (by decide) (c' := ⟨1, 0, ((m + 1 : Nat) : Int)⟩) (by unfold takeC; simp) ⟨by simp <;> omega, by simp <;> omega, by simp <;> omega, by simp <;> omega⟩ ?_
    refine chk_step (nx_dot (rest_go (p := [49, 41]) h3)) (by decide) (n := 0) (by unfold moveP moveHeadP; simp [isTermB, isValueB, bhP]) (by decide) (c' := ⟨1, 0, ((m + 1 : Nat) : Int)⟩) (by unfold takeC; simp) ⟨by simp <;> omega, by simp <;> omega, by simp <;> omega, by simp <;> omega⟩ ?_
    exact chk_end (rest_out h4) (n := 26) (by unfold moveP moveHeadP; simp [bhP]) (by decide) (c' := ⟨1, 0, ((m + 1 : Nat) : Int)⟩) (by unfold takeC; simp) ⟨by simp <;> omega, by simp <;> omega, by simp <;> omega, by simp <;> omega⟩
theorem lim5 {s : ByteArray} {m : Nat} {bad : Bool} (hs : rest s 0 = [112, 40] ++ (repB m [49, 44] ++ (if bad then ([41, 41] : List UInt8) else [49, 41]))) (hz : s.size ≤ 65536) :
    (8 ≤ m → (bad = true → 8 < m) → fOf 3 s = (22, 18)) ∧ (bad = true → m ≤ 8 → fOf 3 s = (20, ((2 + m * 2 : Nat) : Int))) ∧ (bad = false → m < 8 → fOf 3 s = (0, 0)) := by
  have key : ∀ x y, Chk s 2 20 22 ⟨0, 0, ((0 : Nat) : Int)⟩ x y → fOf 3 s = (x, y) := fun x y h => by
    rw [fOf_chk 3 (by decide) s]
    have h0 : Chk s 0 20 20 ⟨0, 0, 0⟩ x y := by
      refine chk_step (nx_p_open hs) (by decide) (n := 21) (by unfold moveP moveFactP; simp [isTermB, isValueB, bhP]) (by decide) (c' := ⟨0, 0, 0⟩) (by unfold takeC; simp) ⟨by simp <;> omega, by simp <;> omega, by simp <;> omega, by simp <;> omega⟩ ?_
      refine chk_step (nx_open (rest_go (p := [112]) hs)) (by decide) (n := 22) (by unfold moveP moveFactP; simp [isTermB, isValueB, bhP]) (by decide) (c' := ⟨0, 0, 0⟩) (by unfold takeC; simp) ⟨by simp <;> omega, by simp <;> omega, by simp <;> omega, by simp <;> omega⟩ ?_
      exact h
    exact h0 _ _ _ (scan_toks s hz)
  have hr : rest s 2 = repB m [49, 44] ++ (if bad then ([41, 41] : List UInt8) else [49, 41]) := rest_go (p := [112, 40]) hs
  clear hs
  refine ⟨fun hM hb => key _ _ ?_, fun hb hm => key _ _ ?_, fun hb hm => key _ _ ?_⟩
  · have hr2 : rest s 2 = repB 8 [49, 44] ++ (repB (m - 8) [49, 44] ++ (if bad then ([41, 41] : List UInt8) else [49, 41])) := by rw [hr, ← List.append_assoc, ← rep_add, show 8 + (m - 8) = m by omega]
    refine rep_chk (cn := fun i => ⟨0, 0, (i : Int)⟩) (M := 8) rd_arg20 _ 8 0 _ (by omega) hr2 ?_
    have h3 := rest_go hr2
    rw [rep_len] at h3
    cases hd : m - 8 with
    | zero =>
      have hbf : bad = false := by
        cases bad with
        | false => rfl
        | true => have := hb rfl; omega
      rw [hd, hbf] at h3
      exact chk_over (nx_1_shut h3) (by decide) (n := 23) (by unfold moveP moveFactP; simp [isTermB, isValueB, bhP]) (by decide) (c' := ⟨0, 0, ((9 : Nat) : Int)⟩) (by unfold takeC; simp) (by unfold overC; simp) (by decide)
    | succ q =>
      rw [hd] at h3
      exact chk_over (nx_1_com h3) (by decide) (n := 23) (by unfold moveP moveFactP; simp [isTermB, isValueB, bhP]) (by decide) (c' := ⟨0, 0, ((9 : Nat) : Int)⟩) (by unfold takeC; simp) (by unfold overC; simp) (by decide)
  · subst hb
    refine rep_chk (cn := fun i => ⟨0, 0, (i : Int)⟩) (M := 8) rd_arg20 _ m 0 _ (by omega) hr ?_
    have h3 := rest_go hr
    rw [rep_len] at h3
    exact chk_miss (nx_shut h3) (by decide) (by unfold moveP moveFactP; simp [isTermB, isValueB, bhP])
  · subst hb
    refine rep_chk (cn := fun i => ⟨0, 0, (i : Int)⟩) (M := 8) rd_arg20 _ m 0 _ (by omega) hr ?_
    have h3 := rest_go hr
    rw [rep_len] at h3
    have h4 := rest_go (p := [49, 41]) (R := []) h3
    simp only [Nat.zero_add]
    refine chk_step (nx_1_shut h3) (by decide) (n := 23) (by unfold moveP moveFactP; simp [isTermB, isValueB, bhP]) (by decide) (c' := ⟨0, 0, ((m + 1 : Nat) : Int)⟩) (by unfold takeC; simp) ⟨by simp <;> omega, by simp <;> omega, by simp <;> omega, by simp <;> omega⟩ ?_
    refine chk_step (nx_shut (rest_go (p := [49]) h3)) (by decide) (n := 24) (by unfold moveP moveFactP; simp [isTermB, isValueB, bhP]) (by decide) (c' := ⟨0, 0, ((m + 1 : Nat) : Int)⟩) (by unfold takeC; simp) ⟨by simp <;> omega, by simp <;> omega, by simp <;> omega, by simp <;> omega⟩ ?_
    exact chk_end (rest_out h4) (n := 26) (by unfold moveP moveFactP; simp [bhP]) (by decide) (c' := ⟨0, 0, ((m + 1 : Nat) : Int)⟩) (by unfold takeC; simp) ⟨by simp <;> omega, by simp <;> omega, by simp <;> omega, by simp <;> omega⟩
end Go.Proofs.YtfbmddgjbmapiaaDoor
