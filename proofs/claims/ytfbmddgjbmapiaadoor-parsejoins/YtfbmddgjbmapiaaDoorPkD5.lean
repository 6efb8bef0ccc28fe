/- The document's table of states over a list of tokens, and the cutting of tokens at a kind that stands outside all brackets, as plain functions. The document's table of states finds the fault that parse's grammar finds, and its trees, cut out of the tokens, are the grammar's. The document's table of states and its cuts against parse's grammar: clauses, programs, facts, queries, one fact. A fault of parse's grammar is that of the tokens, or bears a number of parse's own. The first fault of the grammar hangs on the tokens up to the one at which it stands. What ParseJoins needs of memory: lists that grow, the readers' answers in one form, faults held against one another. -/
import Derived.Test.YtfbmddgjbmapiaaDoorParsePure
import Derived.Test.YtfbmddgjbmapiaaDoorParseLen
import Derived.Test.YtfbmddgjbmapiaaDoorParseGood
import Derived.Test.YtfbmddgjbmapiaaDoorPkA5
import Derived.Test.YtfbmddgjbmapiaaDoorProg
import Derived.Test.YtfbmddgjbmapiaaDoorPkB5
import Derived.Test.YtfbmddgjbmapiaaDoorPkC5
import Derived.Test.YtfbmddgjbmapiaaDoorPush

namespace Go.Proofs.YtfbmddgjbmapiaaDoor
set_option linter.unusedSimpArgs false
set_option linter.unusedVariables false
open Go.RowKit

def isTermB (k : Int) : Bool := (k == 1) || (k == 2) || (k == 3) || (k == 4)
def isValueB (k : Int) : Bool := (k == 1) || (k == 3) || (k == 4)
def moveHeadP (s k : Int) : Int :=
  if s = 0 ∧ k = 1 then 1
  else if s = 0 ∧ k = 0 then 26
  else if (s = 1 ∧ k = 5) ∨ (s = 3 ∧ k = 7) then 2
  else if s = 2 ∧ isTermB k = true then 3
  else if s = 3 ∧ k = 6 then 4
  else if (s = 1 ∨ s = 4) ∧ k = 8 then 0
  else if (s = 1 ∨ s = 4) ∧ k = 9 then 5
  else -1
def moveBodyP (s k behind : Int) : Int :=
  if s = 5 ∧ k = 1 then 6
  else if s = 5 ∧ k = 10 then 7
  else if s = 5 ∧ isTermB k = true then 8
  else if (s = 6 ∨ s = 8) ∧ k = 11 then 11
  else if s = 7 ∧ k = 1 then 12
  else if ((s = 6 ∨ s = 12) ∧ k = 5) ∨ (s = 10 ∧ k = 7) then 9
  else if s = 9 ∧ isTermB k = true then 10
  else if s = 10 ∧ k = 6 then 13
  else if s = 11 ∧ isTermB k = true then 14
  else if s = 6 ∨ s = 12 ∨ s = 13 ∨ s = 14 then (if k = 7 then 5 else if k = 8 then behind else -1)
  else if s = 25 ∧ k = 0 then 26
  else -1
def moveFactP (s k : Int) : Int :=
  if s = 15 ∧ k = 1 then 16
  else if s = 15 ∧ k = 0 then 26
  else if s = 20 ∧ k = 1 then 21
  else if (s = 16 ∧ k = 5) ∨ (s = 18 ∧ k = 7) then 17
  else if (s = 21 ∧ k = 5) ∨ (s = 23 ∧ k = 7) then 22
  else if s = 17 ∧ isValueB k = true then 18
  else if s = 22 ∧ isValueB k = true then 23
  else if s = 18 ∧ k = 6 then 19
  else if s = 23 ∧ k = 6 then 24
  else if (s = 16 ∨ s = 19) ∧ k = 8 then 15
  else if (s = 21 ∨ s = 24) ∧ k = 0 then 26
  else -1
def bhP (first : Int) : Int := if first = 5 then 25 else 0
def moveP (first s k : Int) : Int :=
  if s ≤ 4 then moveHeadP s k
  else if 15 ≤ s ∧ s ≤ 24 then moveFactP s k
  else moveBodyP s k (bhP first)

structure Cnt where
  c : Int
  l : Int
  t : Int
def takeC (c : Cnt) (s k : Int) : Cnt :=
  let c1 := if (s = 0 ∧ k = 1) ∨ (s = 15 ∧ k = 1) then (⟨c.c + 1, c.l, c.t⟩ : Cnt) else if s = 5 then ⟨c.c, c.l + 1, c.t⟩ else if s = 2 ∨ s = 9 ∨ s = 17 ∨ s = 22 then ⟨c.c, c.l, c.t + 1⟩ else c
  let c2 := if k = 5 then (⟨c1.c, c1.l, 0⟩ : Cnt) else c1
  if k = 9 then ⟨c2.c, 0, c2.t⟩ else c2
def overC (first : Int) (c : Cnt) : Int :=
  if (first = 0 ∧ 512 < c.c) ∨ (first = 15 ∧ 4096 < c.c) then 24 else if 16 < c.l then 23 else if 8 < c.t then 22 else 0
def Lim (first : Int) (c : Cnt) : Prop := (first = 0 → c.c ≤ 512) ∧ (first = 15 → c.c ≤ 4096) ∧ c.l ≤ 16 ∧ c.t ≤ 8
theorem no_cls {first : Int} {c : Cnt} (h1 : first = 0 → c.c ≤ 512) (h2 : first = 15 → c.c ≤ 4096) : ¬ ((first = 0 ∧ 512 < c.c) ∨ (first = 15 ∧ 4096 < c.c)) := by
  rintro (⟨a, b⟩ | ⟨a, b⟩)
  · have := h1 a; omega
  · have := h2 a; omega
theorem over_zero {first : Int} {c : Cnt} (h : Lim first c) : overC first c = 0 := by
  obtain ⟨h1, h2, h3, h4⟩ := h
  unfold overC
  rw [if_neg (no_cls h1 h2), if_neg (by omega), if_neg (by omega)]

/-- The document's check: the state, the counts, what is left. -/
def chkR (ec eo first : Int) : Int → Cnt → List Tok → PR Unit
  | _, _, [] => if ec = 0 then .ok () [] else .bad ec eo
  | s, c, t :: r =>
    if moveP first s t.k = -1 then .bad (misK t.k) t.off
    else if overC first (takeC c s t.k) ≠ 0 then .bad (overC first (takeC c s t.k)) t.off
    else chkR ec eo first (moveP first s t.k) (takeC c s t.k) r

/-- The end is the last token, and there just if there is no fault. -/
def Wf (ec : Int) : List Tok → Prop
  | [] => ec ≠ 0
  | t :: r => if t.k = 0 then r = [] ∧ ec = 0 else Wf ec r
theorem Wf.tail {ec : Int} {t : Tok} {r : List Tok} (h : Wf ec (t :: r)) (hk : t.k ≠ 0) : Wf ec r := by unfold Wf at h; rw [if_neg hk] at h; exact h
theorem Wf.last {ec : Int} {t : Tok} {r : List Tok} (h : Wf ec (t :: r)) (hk : t.k = 0) : r = [] ∧ ec = 0 := by unfold Wf at h; rw [if_pos hk] at h; exact h

theorem chk_nil {ec eo first s : Int} {c : Cnt} (h : Wf ec []) : chkR ec eo first s c [] = .bad ec eo := by
  unfold chkR; exact if_neg h
theorem chk_mis {ec eo first s : Int} {c : Cnt} {t : Tok} {r : List Tok} (h : moveP first s t.k = -1) : chkR ec eo first s c (t :: r) = .bad (misK t.k) t.off := by
  unfold chkR; exact if_pos h
theorem chk_go {ec eo first s n : Int} {c c' : Cnt} {t : Tok} {r : List Tok} (h : moveP first s t.k = n) (hn : n ≠ -1) (hc : takeC c s t.k = c') (hl : Lim first c') : chkR ec eo first s c (t :: r) = chkR ec eo first n c' r := by
  rw [chkR, h, if_neg hn, hc, over_zero hl, if_neg (by simp)]
theorem chk_lim {ec eo first s n x : Int} {c c' : Cnt} {t : Tok} {r : List Tok} (h : moveP first s t.k = n) (hn : n ≠ -1) (hc : takeC c s t.k = c') (hl : overC first c' = x) (hx : x ≠ 0) : chkR ec eo first s c (t :: r) = .bad x t.off := by
  rw [chkR, h, if_neg hn, hc, hl, if_pos hx]

/-- cut: the tokens between those of the kind k that stand outside all brackets. -/
def depthP (d : Int) (t : Tok) : Int := (if t.k = 5 then d + 1 else d) - (if t.k = 6 then 1 else 0)
def cutF (k : Int) : Int → List Tok → List (List Tok) → List Tok → List (List Tok)
  | _, now, out, [] => out ++ [now]
  | d, now, out, t :: r => if t.k = k ∧ depthP d t = 0 then cutF k (depthP d t) [] (out ++ [now]) r else cutF k (depthP d t) (now ++ [t]) out r
def Closed (k : Int) (P : List Tok) : Prop := ∀ now out L, cutF k 0 now out (P ++ L) = cutF k 0 (now ++ P) out L
def Inner (k : Int) (P : List Tok) : Prop := ∀ now out L, cutF k 1 now out (P ++ L) = cutF k 0 (now ++ P) out L
theorem cut_out (k : Int) : ∀ (L : List Tok) (d : Int) (now : List Tok) (out : List (List Tok)), cutF k d now out L = out ++ cutF k d now [] L
  | [], d, now, out => by simp [cutF]
  | t :: r, d, now, out => by
    unfold cutF
    by_cases h : t.k = k ∧ depthP d t = 0
    · rw [if_pos h, if_pos h, cut_out k r _ _ (out ++ [now]), cut_out k r _ _ ([] ++ [now])]; simp
    · rw [if_neg h, if_neg h, cut_out k r _ _ out]
theorem Closed.nil (k : Int) : Closed k [] := fun now out L => by simp
theorem Closed.app {k : Int} {P Q : List Tok} (h1 : Closed k P) (h2 : Closed k Q) : Closed k (P ++ Q) := fun now out L => by
  rw [List.append_assoc, h1, h2, List.append_assoc]
theorem Closed.one {k : Int} {t : Tok} (h5 : t.k ≠ 5) (h6 : t.k ≠ 6) (hk : t.k ≠ k) : Closed k [t] := fun now out L => by
  rw [List.cons_append, List.nil_append, cutF, if_neg (fun h => hk h.1)]
  simp [depthP, h5, h6]
theorem Closed.cons {k : Int} {t : Tok} {P : List Tok} (h5 : t.k ≠ 5) (h6 : t.k ≠ 6) (hk : t.k ≠ k) (h : Closed k P) : Closed k (t :: P) := (Closed.one h5 h6 hk).app h
theorem cut_sep {k : Int} {P : List Tok} {t : Tok} (h : Closed k P) (ht : t.k = k) (h5 : k ≠ 5) (h6 : k ≠ 6) (out : List (List Tok)) (L : List Tok) : cutF k 0 [] out (P ++ t :: L) = cutF k 0 [] (out ++ [P]) L := by
  have hd : depthP 0 t = 0 := by simp [depthP, ht, h5, h6]
  rw [h, List.nil_append, cutF, if_pos ⟨ht, hd⟩, hd]
theorem cut_whole {k : Int} {P : List Tok} (h : Closed k P) : cutF k 0 [] [] P = [P] := by
  have := h [] [] []
  rw [List.append_nil] at this
  rw [this]; simp [cutF]

def atomR : List Tok → PAtom
  | [] => zeroAtom
  | n :: r => ⟨n.t, (r.filter fun t => isTermB t.k).map termP, n.off⟩
def litR : List Tok → PLit
  | [] => ⟨0, zeroAtom, 0, zeroTrm, zeroTrm, 0⟩
  | t :: r => if t.k = 10 then ⟨2, atomR r, 0, zeroTrm, zeroTrm, t.off⟩
    else match r with
      | [o, u] => if o.k = 11 then ⟨3, zeroAtom, o.op, termP t, termP u, t.off⟩ else ⟨1, atomR (t :: r), 0, zeroTrm, zeroTrm, t.off⟩
      | _ => ⟨1, atomR (t :: r), 0, zeroTrm, zeroTrm, t.off⟩
def LitOk : List Tok → Prop
  | [] => False
  | t :: r => t.k = 10 → r ≠ []
def bodyR (P : List Tok) : List PLit := (cutF 7 0 [] [] P).map litR
def BodyOk (P : List Tok) : Prop := ∀ L ∈ cutF 7 0 [] [] P, LitOk L
def clsR (P : List Tok) : PCls :=
  ⟨atomR ((cutF 9 0 [] [] P).getD 0 []), if (cutF 9 0 [] [] P).length = 2 then bodyR ((cutF 9 0 [] [] P).getD 1 []) else []⟩
def ClsOk (P : List Tok) : Prop := (cutF 9 0 [] [] P).getD 0 [] ≠ [] ∧ ((cutF 9 0 [] [] P).length = 2 → BodyOk ((cutF 9 0 [] [] P).getD 1 []))

/-- The three states of the terms of an atom. -/
structure ArgSt (first sT sM sE : Int) (ks : List Int) : Prop where
  mT : ∀ k, k ∈ ks → moveP first sT k = sM
  mT' : ∀ k, k ∉ ks → moveP first sT k = -1
  mM7 : moveP first sM 7 = sT
  mM6 : moveP first sM 6 = sE
  mM' : ∀ k, k ≠ 7 → k ≠ 6 → moveP first sM k = -1
  tT : ∀ c k, k ∈ ks → takeC c sT k = ⟨c.c, c.l, c.t + 1⟩
  tM : ∀ c k, k = 7 ∨ k = 6 → takeC c sM k = c
  n1 : sT ≠ -1
  n2 : sM ≠ -1
  n3 : sE ≠ -1
  kk : ∀ k, k ∈ ks → k = 1 ∨ k = 2 ∨ k = 3 ∨ k = 4

theorem args_nil (ec eo : Int) (ks : List Int) (acc : List Trm) : argsP ec eo ks acc [] = .bad ec eo := rfl
theorem args_mis {ec eo : Int} {ks : List Int} {acc : List Trm} {t : Tok} {r : List Tok} (h : t.k ∉ ks) : argsP ec eo ks acc (t :: r) = .bad (misK t.k) t.off := by
  unfold argsP; rw [if_neg h]
theorem args_lim8 {ec eo : Int} {ks : List Int} {acc : List Trm} {t : Tok} {r : List Tok} (h : t.k ∈ ks) (h8 : acc.length = 8) : argsP ec eo ks acc (t :: r) = .bad 22 t.off := by
  unfold argsP; rw [if_pos h, if_pos h8]
theorem args_two {ec eo : Int} {ks : List Int} {acc : List Trm} {t s : Tok} {r : List Tok} (h : t.k ∈ ks) (h8 : acc.length ≠ 8) : argsP ec eo ks acc (t :: s :: r) = if s.k = 7 then argsP ec eo ks (acc ++ [termP t]) r else if s.k = 6 then .ok (acc ++ [termP t]) r else .bad (misK s.k) s.off := by
  rw [argsP, if_pos h, if_neg h8]
theorem args_one {ec eo : Int} {ks : List Int} {acc : List Trm} {t : Tok} (h : t.k ∈ ks) (h8 : acc.length ≠ 8) : argsP ec eo ks acc [t] = .bad ec eo := by
  rw [argsP, if_pos h, if_neg h8]

theorem args_sim {ec eo first sT sM sE : Int} {ks : List Int} (H : ArgSt first sT sM sE ks) : ∀ (R : List Tok) (acc : List Trm) (c : Cnt), c.t = acc.length → Lim first c → Wf ec R →
    (∀ x o, argsP ec eo ks acc R = .bad x o → chkR ec eo first sT c R = .bad x o) ∧
    (∀ ts r', argsP ec eo ks acc R = .ok ts r' → chkR ec eo first sT c R = chkR ec eo first sE ⟨c.c, c.l, ts.length⟩ r' ∧ ts.length ≤ 8 ∧ Wf ec r' ∧
      ∃ P, R = P ++ r' ∧ ts = acc ++ (P.filter fun t => isTermB t.k).map termP ∧ ∀ k, k = 7 ∨ k = 8 ∨ k = 9 → Inner k P)
  | [], acc, c, hc, hl, hw => ⟨fun x o h => by rw [args_nil] at h; rw [chk_nil hw]; cases h; rfl, fun ts r' h => by rw [args_nil] at h; cases h⟩
  | t :: r, acc, c, hc, hl, hw => by
    by_cases hk : t.k ∈ ks
    · have hz : t.k ≠ 0 := by have := H.kk _ hk; omega
      have hw1 := hw.tail hz
      have ht : isTermB t.k = true := by have := H.kk _ hk; rcases this with h | h | h | h <;> simp [isTermB, h]
      by_cases h8 : acc.length = 8
      · refine ⟨fun x o h => ?_, fun ts r' h => by rw [args_lim8 hk h8] at h; cases h⟩
        rw [args_lim8 hk h8] at h
        cases h
        refine chk_lim (H.mT _ hk) H.n2 (H.tT c _ hk) ?_ (by decide)
        obtain ⟨h1, h2, h3, h4⟩ := hl
        unfold overC
        rw [if_neg (no_cls (c := ⟨c.c, c.l, c.t + 1⟩) h1 h2), if_neg (by simp only; omega), if_pos (by simp only; omega)]
      · have hlt : acc.length < 8 := by have := hl.2.2.2; omega
        have hl2 : Lim first ⟨c.c, c.l, c.t + 1⟩ := ⟨hl.1, hl.2.1, hl.2.2.1, by simp only; omega⟩
        have hgo : ∀ r, chkR ec eo first sT c (t :: r) = chkR ec eo first sM ⟨c.c, c.l, c.t + 1⟩ r := fun r => chk_go (H.mT _ hk) H.n2 (H.tT c _ hk) hl2
        match r, hw1 with
        | [], hw1 => exact ⟨fun x o h => by rw [args_one hk h8] at h; rw [hgo, chk_nil hw1]; cases h; rfl, fun ts r' h => by rw [args_one hk h8] at h; cases h⟩
        | s :: r2, hw1 =>
          rw [args_two hk h8, hgo]
          by_cases h7 : s.k = 7
          · rw [if_pos h7]
            have e : chkR ec eo first sM ⟨c.c, c.l, c.t + 1⟩ (s :: r2) = chkR ec eo first sT ⟨c.c, c.l, c.t + 1⟩ r2 := chk_go (by rw [h7]; exact H.mM7) H.n1 (H.tM _ _ (.inl h7)) hl2
            obtain ⟨i1, i2⟩ := args_sim H r2 (acc ++ [termP t]) ⟨c.c, c.l, c.t + 1⟩ (by simp [hc]) hl2 (hw1.tail (by omega))
            rw [e]
            refine ⟨i1, fun ts r' h => ?_⟩
            obtain ⟨j1, j2, j3, P, j4, j5, j6⟩ := i2 ts r' h
            refine ⟨j1, j2, j3, t :: s :: P, by rw [j4]; rfl, ?_, fun k hk3 now out L => ?_⟩
            · have hs : isTermB s.k = false := by simp [isTermB, h7]
              rw [j5]; simp [List.filter_cons, ht, hs]
            · have d1 : depthP 1 t = 1 := by have := H.kk _ hk; rcases this with h | h | h | h <;> simp [depthP, h]
              have d2 : depthP 1 s = 1 := by simp [depthP, h7]
              rw [List.cons_append, cutF, d1, if_neg (by omega), List.cons_append, cutF, d2, if_neg (by omega), j6 k hk3]
              simp
          · rw [if_neg h7]
            by_cases h6 : s.k = 6
            · rw [if_pos h6]
              refine ⟨fun x o h => (by cases h), fun ts r' h => ?_⟩
              cases h
              have e : chkR ec eo first sM ⟨c.c, c.l, c.t + 1⟩ (s :: r2) = chkR ec eo first sE ⟨c.c, c.l, c.t + 1⟩ r2 := chk_go (by rw [h6]; exact H.mM6) H.n3 (H.tM _ _ (.inr h6)) hl2
              refine ⟨by rw [e, hc]; simp, by simp; omega, hw1.tail (by omega), [t, s], rfl, by simp [List.filter_cons, ht, show isTermB s.k = false by simp [isTermB, h6]], fun k hk3 now out L => ?_⟩
              have d1 : depthP 1 t = 1 := by have := H.kk _ hk; rcases this with h | h | h | h <;> simp [depthP, h]
              have d2 : depthP 1 s = 0 := by simp [depthP, h6]
              rw [List.cons_append, cutF, d1, if_neg (by omega), List.cons_append, cutF, d2, if_neg (by omega)]
              simp
            · rw [if_neg h6]
              refine ⟨fun x o h => ?_, fun ts r' h => by cases h⟩
              cases h
              exact chk_mis (H.mM' _ h7 h6)
    · refine ⟨fun x o h => ?_, fun ts r' h => by rw [args_mis hk] at h; cases h⟩
      rw [args_mis hk] at h
      cases h
      exact chk_mis (H.mT' _ hk)
termination_by R => R.length
end Go.Proofs.YtfbmddgjbmapiaaDoor

namespace Go.Proofs.YtfbmddgjbmapiaaDoor
set_option linter.unusedSimpArgs false
set_option linter.unusedVariables false
open Go.RowKit

theorem mem_termKs {k : Int} : k ∈ termKs ↔ k = 2 ∨ k = 3 ∨ k = 1 ∨ k = 4 := by simp [termKs]
theorem mem_valueKs {k : Int} : k ∈ valueKs ↔ k = 3 ∨ k = 1 ∨ k = 4 := by simp [valueKs]

theorem st_head : ArgSt 0 2 3 4 termKs where
  mT := fun k hk => by rw [mem_termKs] at hk; rcases hk with rfl | rfl | rfl | rfl <;> decide
  mT' := fun k hk => by rw [mem_termKs] at hk; simp only [not_or] at hk; obtain ⟨a, b, c, d⟩ := hk; simp [moveP, moveHeadP, isTermB, a, b, c, d]
  mM7 := by decide
  mM6 := by decide
  mM' := fun k h7 h6 => by simp [moveP, moveHeadP, h7, h6]
  tT := fun c k hk => by rw [mem_termKs] at hk; rcases hk with rfl | rfl | rfl | rfl <;> simp [takeC]
  tM := fun c k hk => by rcases hk with rfl | rfl <;> simp [takeC]
  n1 := by decide
  n2 := by decide
  n3 := by decide
  kk := fun k hk => by rw [mem_termKs] at hk; omega
theorem st_lit {first : Int} (hf : first = 0 ∨ first = 5) : ArgSt first 9 10 13 termKs where
  mT := fun k hk => by rw [mem_termKs] at hk; rcases hf with rfl | rfl <;> rcases hk with rfl | rfl | rfl | rfl <;> decide
  mT' := fun k hk => by rw [mem_termKs] at hk; simp only [not_or] at hk; obtain ⟨a, b, c, d⟩ := hk; simp [moveP, moveBodyP, isTermB, a, b, c, d]
  mM7 := by rcases hf with rfl | rfl <;> decide
  mM6 := by rcases hf with rfl | rfl <;> decide
  mM' := fun k h7 h6 => by simp [moveP, moveBodyP, h7, h6]
  tT := fun c k hk => by rw [mem_termKs] at hk; rcases hk with rfl | rfl | rfl | rfl <;> simp [takeC]
  tM := fun c k hk => by rcases hk with rfl | rfl <;> simp [takeC]
  n1 := by decide
  n2 := by decide
  n3 := by decide
  kk := fun k hk => by rw [mem_termKs] at hk; omega
theorem st_facts : ArgSt 15 17 18 19 valueKs where
  mT := fun k hk => by rw [mem_valueKs] at hk; rcases hk with rfl | rfl | rfl <;> decide
  mT' := fun k hk => by rw [mem_valueKs] at hk; simp only [not_or] at hk; obtain ⟨a, b, c⟩ := hk; simp [moveP, moveFactP, isValueB, a, b, c]
  mM7 := by decide
  mM6 := by decide
  mM' := fun k h7 h6 => by simp [moveP, moveFactP, h7, h6]
  tT := fun c k hk => by rw [mem_valueKs] at hk; rcases hk with rfl | rfl | rfl <;> simp [takeC]
  tM := fun c k hk => by rcases hk with rfl | rfl <;> simp [takeC]
  n1 := by decide
  n2 := by decide
  n3 := by decide
  kk := fun k hk => by rw [mem_valueKs] at hk; omega
theorem st_one : ArgSt 20 22 23 24 valueKs where
  mT := fun k hk => by rw [mem_valueKs] at hk; rcases hk with rfl | rfl | rfl <;> decide
  mT' := fun k hk => by rw [mem_valueKs] at hk; simp only [not_or] at hk; obtain ⟨a, b, c⟩ := hk; simp [moveP, moveFactP, isValueB, a, b, c]
  mM7 := by decide
  mM6 := by decide
  mM' := fun k h7 h6 => by simp [moveP, moveFactP, h7, h6]
  tT := fun c k hk => by rw [mem_valueKs] at hk; rcases hk with rfl | rfl | rfl <;> simp [takeC]
  tM := fun c k hk => by rcases hk with rfl | rfl <;> simp [takeC]
  n1 := by decide
  n2 := by decide
  n3 := by decide
  kk := fun k hk => by rw [mem_valueKs] at hk; omega

theorem take_bad2 {ec eo first s x o : Int} {c : Cnt} {ks : List Int} {R : List Tok} (hm : ∀ t r, R = t :: r → t.k ∉ ks → moveP first s t.k = -1) (hw : Wf ec R) (h : takeP ec eo ks R = .bad x o) : chkR ec eo first s c R = .bad x o := by
  cases R with
  | nil => unfold takeP at h; cases h; exact chk_nil hw
  | cons t r =>
    simp only [takeP] at h
    by_cases hk : t.k ∈ ks
    · rw [if_pos hk] at h; cases h
    · rw [if_neg hk] at h; cases h; exact chk_mis (hm t r rfl hk)
theorem take_isok {ec eo : Int} {ks : List Int} {R r : List Tok} {t : Tok} (h : takeP ec eo ks R = .ok t r) : R = t :: r ∧ t.k ∈ ks := by
  cases R with
  | nil => unfold takeP at h; cases h
  | cons t' r' =>
    simp only [takeP] at h
    by_cases hk : t'.k ∈ ks
    · rw [if_pos hk] at h; cases h; exact ⟨rfl, hk⟩
    · rw [if_neg hk] at h; cases h

theorem atom_sim {ec eo first sN sT sM sE : Int} {ks : List Int} (H : ArgSt first sT sM sE ks) (hm : moveP first sN 5 = sT) (ht : ∀ c : Cnt, takeC c sN 5 = ⟨c.c, c.l, 0⟩) (name : Tok) (R : List Tok) (c : Cnt) (hl : Lim first c) (hw : Wf ec R) :
    (∀ x o, atomP ec eo ks name R = .bad x o → chkR ec eo first sN c R = .bad x o) ∧
    (∀ a r', atomP ec eo ks name R = .ok a r' → Wf ec r' ∧ ∃ P, R = P ++ r' ∧ a = atomR (name :: P) ∧ (∀ k, k = 7 ∨ k = 8 ∨ k = 9 → Closed k P) ∧ (P = [] ∨ ∃ l Q, P = l :: Q ∧ l.k = 5) ∧
      ∃ s' c', chkR ec eo first sN c R = chkR ec eo first s' c' r' ∧ c'.c = c.c ∧ c'.l = c.l ∧ Lim first c' ∧ (s' = sE ∨ (s' = sN ∧ R = r' ∧ ∃ t r, r' = t :: r ∧ t.k ≠ 5))) := by
  cases R with
  | nil => exact ⟨fun x o h => by unfold atomP at h; cases h; exact chk_nil hw, fun a r' h => by unfold atomP at h; cases h⟩
  | cons t r =>
    simp only [atomP]
    by_cases h5 : t.k = 5
    · rw [if_pos h5]
      have hl0 : Lim first ⟨c.c, c.l, 0⟩ := ⟨hl.1, hl.2.1, hl.2.2.1, by show (0 : Int) ≤ 8; decide⟩
      have e : chkR ec eo first sN c (t :: r) = chkR ec eo first sT ⟨c.c, c.l, 0⟩ r := chk_go (by rw [h5]; exact hm) H.n1 (by rw [h5]; exact ht c) hl0
      obtain ⟨i1, i2⟩ := args_sim (eo := eo) H r [] ⟨c.c, c.l, 0⟩ rfl hl0 (hw.tail (by omega))
      cases ha : argsP ec eo ks [] r with
      | bad x o => exact ⟨fun x' o' h => by cases h; rw [e]; exact i1 _ _ ha, fun a r' h => by cases h⟩
      | ok ts r2 =>
        obtain ⟨j1, j2, j3, P, j4, j5, j6⟩ := i2 _ _ ha
        refine ⟨fun x o h => (by cases h), fun a r' h => ?_⟩
        cases h
        refine ⟨j3, t :: P, by rw [j4]; rfl, ?_, fun k hk now out L => ?_, .inr ⟨t, P, rfl, h5⟩, sE, ⟨c.c, c.l, ts.length⟩, by rw [e, j1], rfl, rfl, ⟨hl.1, hl.2.1, hl.2.2.1, by show (ts.length : Int) ≤ 8; omega⟩, .inl rfl⟩
        · rw [j5]; simp [atomR, List.filter_cons, show isTermB t.k = false by simp [isTermB, h5]]
        · have d1 : depthP 0 t = 1 := by simp [depthP, h5]
          rw [List.cons_append, cutF, d1, if_neg (by omega), j6 k hk]
          simp
    · rw [if_neg h5]
      refine ⟨fun x o h => (by cases h), fun a r' h => ?_⟩
      cases h
      exact ⟨hw, [], rfl, by simp [atomR], fun k _ => Closed.nil k, .inl rfl, sN, c, rfl, rfl, rfl, hl, .inr ⟨rfl, rfl, t, r, rfl, h5⟩⟩

/-- Behind a literal: a comma or a dot. -/
def Fol (first s : Int) (c : Cnt) (r : List Tok) : Prop :=
  (∀ t r', r = t :: r' → t.k ≠ 7 → t.k ≠ 8 → moveP first s t.k = -1) ∧ moveP first s 7 = 5 ∧ moveP first s 8 = bhP first ∧ takeC c s 7 = c ∧ takeC c s 8 = c
theorem fol_end {first : Int} (c : Cnt) (r : List Tok) {s : Int} (hs : s = 13 ∨ s = 14) : Fol first s c r := by
  rcases hs with rfl | rfl <;> exact ⟨fun t r' _ h7 h8 => by simp [moveP, moveBodyP, h7, h8], by simp [moveP, moveBodyP], by simp [moveP, moveBodyP], by simp [takeC], by simp [takeC]⟩
theorem fol_neg {first : Int} (c : Cnt) {r r2 : List Tok} {t : Tok} (hr : r = t :: r2) (h5 : t.k ≠ 5) : Fol first 12 c r :=
  ⟨fun u r' e h7 h8 => by rw [hr] at e; cases e; simp [moveP, moveBodyP, h7, h8, h5], by simp [moveP, moveBodyP], by simp [moveP, moveBodyP], by simp [takeC], by simp [takeC]⟩
theorem fol_name {first : Int} (c : Cnt) {r r2 : List Tok} {t : Tok} (hr : r = t :: r2) (h5 : t.k ≠ 5) (h11 : t.k ≠ 11) : Fol first 6 c r :=
  ⟨fun u r' e h7 h8 => by rw [hr] at e; cases e; simp [moveP, moveBodyP, h7, h8, h5, h11], by simp [moveP, moveBodyP], by simp [moveP, moveBodyP], by simp [takeC], by simp [takeC]⟩

def litS (k : Int) : Int := if k = 1 then 6 else if k = 10 then 7 else 8
def LitKs : List Int := [1, 10, 2, 3, 4]

theorem closed3 {P : List Tok} {t : Tok} (h : ∀ k, k = 7 ∨ k = 8 ∨ k = 9 → Closed k P) (ht : t.k ≠ 5 ∧ t.k ≠ 6 ∧ t.k ≠ 7 ∧ t.k ≠ 8 ∧ t.k ≠ 9) : ∀ k, k = 7 ∨ k = 8 ∨ k = 9 → Closed k (t :: P) := fun k hk =>
  (h k hk).cons ht.1 ht.2.1 (by omega)

/-- A test: an operator and a right side. -/
theorem test_sim {ec eo first s1 : Int} (hs : s1 = 6 ∨ s1 = 8) (ft : Tok) (hft : ft.k = 1 ∨ ft.k = 2 ∨ ft.k = 3 ∨ ft.k = 4) (R : List Tok) (c : Cnt) (hl : Lim first c) (hw : Wf ec R) (h11 : s1 = 8 ∨ ∃ t r, R = t :: r ∧ t.k = 11) :
    (∀ x o, (match takeP ec eo [11] R with | .bad c o => PR.bad c o | .ok o1 r' => match takeP ec eo termKs r' with | .bad c o => .bad c o | .ok t2 r'' => .ok (⟨3, zeroAtom, o1.op, termP ft, termP t2, ft.off⟩ : PLit) r'') = .bad x o → chkR ec eo first s1 c R = .bad x o) ∧
    (∀ y r', (match takeP ec eo [11] R with | .bad c o => PR.bad c o | .ok o1 r' => match takeP ec eo termKs r' with | .bad c o => .bad c o | .ok t2 r'' => .ok (⟨3, zeroAtom, o1.op, termP ft, termP t2, ft.off⟩ : PLit) r'') = .ok y r' → Wf ec r' ∧ ∃ P, R = P ++ r' ∧ y = litR (ft :: P) ∧ LitOk (ft :: P) ∧ (∀ k, k = 7 ∨ k = 8 ∨ k = 9 → Closed k (ft :: P)) ∧
      ∃ s' c', chkR ec eo first s1 c R = chkR ec eo first s' c' r' ∧ c'.c = c.c ∧ c'.l = c.l ∧ Lim first c' ∧ Fol first s' c' r') := by
  have hm : ∀ t r, R = t :: r → t.k ∉ [(11 : Int)] → moveP first s1 t.k = -1 := fun t r e hk => by
    simp only [List.mem_singleton] at hk
    rcases h11 with rfl | ⟨t', r', e', h'⟩
    · simp [moveP, moveBodyP, hk]
    · rw [e] at e'; cases e'; exact absurd h' hk
  cases h1 : takeP ec eo [11] R with
  | bad x o => exact ⟨fun x' o' h => by cases h; exact take_bad2 hm hw h1, fun y r' h => by cases h⟩
  | ok o1 r1 =>
    obtain ⟨rfl, ho⟩ := take_isok h1
    simp only [List.mem_singleton] at ho
    have e1 : chkR ec eo first s1 c (o1 :: r1) = chkR ec eo first 11 c r1 := chk_go (by rw [ho]; rcases hs with rfl | rfl <;> simp [moveP, moveBodyP]) (by decide) (by rw [ho]; rcases hs with rfl | rfl <;> simp [takeC]) hl
    have hw1 : Wf ec r1 := hw.tail (by omega)
    have hm2 : ∀ t r, r1 = t :: r → t.k ∉ termKs → moveP first 11 t.k = -1 := fun t r e hk => by
      rw [mem_termKs] at hk; simp only [not_or] at hk; obtain ⟨a, b, c, d⟩ := hk
      simp [moveP, moveBodyP, isTermB, a, b, c, d]
    cases h2 : takeP ec eo termKs r1 with
    | bad x o => exact ⟨fun x' o' h => by simp only [h2] at h; cases h; rw [e1]; exact take_bad2 hm2 hw1 h2, fun y r' h => by simp only [h2] at h; cases h⟩
    | ok t2 r2 =>
      obtain ⟨rfl, hk2⟩ := take_isok h2
      rw [mem_termKs] at hk2
      refine ⟨fun x o h => (by simp only [h2] at h; cases h), fun y r' h => ?_⟩
      simp only [h2] at h
      cases h
      have e2 : chkR ec eo first 11 c (t2 :: r2) = chkR ec eo first 14 c r2 := chk_go (by rcases hk2 with h | h | h | h <;> rw [h] <;> simp [moveP, moveBodyP, isTermB]) (by decide) (by rcases hk2 with h | h | h | h <;> rw [h] <;> simp [takeC]) hl
      refine ⟨hw1.tail (by omega), [o1, t2], rfl, ?_, ?_, ?_, 14, c, by rw [e1, e2], rfl, rfl, hl, fol_end c _ (.inr rfl)⟩
      · have : ft.k ≠ 10 := by omega
        simp [litR, this, ho]
      · intro h; omega
      · clear h11 hm hm2
        exact closed3 (closed3 (closed3 (fun k _ => Closed.nil k) (by omega)) (by omega)) (by omega)

theorem lit_sim {ec eo first : Int} (hf : first = 0 ∨ first = 5) (ft : Tok) (hft : ft.k ∈ LitKs) (R : List Tok) (c : Cnt) (hl : Lim first c) (hw : Wf ec R) :
    (∀ x o, litP ec eo ft R = .bad x o → chkR ec eo first (litS ft.k) c R = .bad x o) ∧
    (∀ y r', litP ec eo ft R = .ok y r' → Wf ec r' ∧ ∃ P, R = P ++ r' ∧ y = litR (ft :: P) ∧ LitOk (ft :: P) ∧ (∀ k, k = 7 ∨ k = 8 ∨ k = 9 → Closed k (ft :: P)) ∧
      ∃ s' c', chkR ec eo first (litS ft.k) c R = chkR ec eo first s' c' r' ∧ c'.c = c.c ∧ c'.l = c.l ∧ Lim first c' ∧ Fol first s' c' r') := by
  simp only [LitKs, List.mem_cons, List.not_mem_nil, or_false] at hft
  unfold litP
  by_cases h10 : ft.k = 10
  · rw [if_pos h10, show litS ft.k = 7 by simp [litS, h10]]
    cases h1 : takeP ec eo [1] R with
    | bad x o => exact ⟨fun x' o' h => by cases h; exact take_bad2 (fun t r _ hk => by simp only [List.mem_singleton] at hk; simp [moveP, moveBodyP, hk]) hw h1, fun y r' h => by cases h⟩
    | ok n r1 =>
      obtain ⟨rfl, hn⟩ := take_isok h1
      simp only [List.mem_singleton] at hn
      have e1 : chkR ec eo first 7 c (n :: r1) = chkR ec eo first 12 c r1 := chk_go (by rw [hn]; simp [moveP, moveBodyP]) (by decide) (by rw [hn]; simp [takeC]) hl
      have hw1 : Wf ec r1 := hw.tail (by omega)
      obtain ⟨i1, i2⟩ := atom_sim (ec := ec) (eo := eo) (sN := 12) (st_lit hf) (by simp [moveP, moveBodyP]) (fun c => by simp [takeC]) n r1 c hl hw1
      cases h2 : atomP ec eo termKs n r1 with
      | bad x o => exact ⟨fun x' o' h => by simp only [h2] at h; cases h; rw [e1]; exact i1 _ _ h2, fun y r' h => by simp only [h2] at h; cases h⟩
      | ok a r2 =>
        obtain ⟨j1, P, j2, j3, j4, j5, s', c', j6, j7, j8, j9, j10⟩ := i2 _ _ h2
        refine ⟨fun x o h => (by simp only [h2] at h; cases h), fun y r' h => ?_⟩
        simp only [h2] at h
        cases h
        refine ⟨j1, n :: P, by rw [j2]; rfl, ?_, fun _ => by simp, closed3 (closed3 j4 (by omega)) (by omega), s', c', by rw [e1, j6], j7, j8, j9, ?_⟩
        · simp [litR, h10, j3]
        · rcases j10 with rfl | ⟨rfl, -, t, r, e, h5⟩
          · exact fol_end c' _ (.inl rfl)
          · exact fol_neg c' e h5
  · rw [if_neg h10]
    have hk : ft.k = 1 ∨ ft.k = 2 ∨ ft.k = 3 ∨ ft.k = 4 := by omega
    by_cases h1 : ft.k = 1
    · rw [show litS ft.k = 6 by simp [litS, h1]]
      simp only [h1, if_true]
      cases R with
      | nil => exact ⟨fun x o h => by cases h; exact chk_nil hw, fun y r' h => by cases h⟩
      | cons t r =>
        by_cases h11 : t.k = 11
        · simp only [h11, if_true]
          exact test_sim (.inl rfl) ft hk (t :: r) c hl hw (.inr ⟨t, r, rfl, h11⟩)
        · simp only [h11, if_false]
          obtain ⟨i1, i2⟩ := atom_sim (ec := ec) (eo := eo) (sN := 6) (st_lit hf) (by simp [moveP, moveBodyP]) (fun c => by simp [takeC]) ft (t :: r) c hl hw
          cases h2 : atomP ec eo termKs ft (t :: r) with
          | bad x o => exact ⟨fun x' o' h => by cases h; exact i1 _ _ h2, fun y r' h => by cases h⟩
          | ok a r2 =>
            obtain ⟨j1, P, j2, j3, j4, j5, s', c', j6, j7, j8, j9, j10⟩ := i2 _ _ h2
            refine ⟨fun x o h => (by cases h), fun y r' h => ?_⟩
            cases h
            refine ⟨j1, P, j2, ?_, fun h => absurd h h10, closed3 j4 (by omega), s', c', j6, j7, j8, j9, ?_⟩
            · rcases j5 with rfl | ⟨l, Q, rfl, hl5⟩
              · simp [litR, h10, j3]
              · match Q with
                | [] => simp [litR, h10, j3]
                | [u] => simp [litR, h10, j3, hl5]
                | u :: v :: w => simp [litR, h10, j3]
            · rcases j10 with rfl | ⟨rfl, e0, t', r', e, h5⟩
              · exact fol_end c' _ (.inl rfl)
              · exact fol_name c' e h5 (by rw [e] at e0; cases e0; exact h11)
    · rw [show litS ft.k = 8 by simp [litS, h1, h10]]
      simp only [h1, if_false]
      exact test_sim (.inr rfl) ft hk R c hl hw (.inl rfl)

theorem bodyF_succ (ec eo : Int) (n : Nat) (acc : List PLit) (R : List Tok) : bodyF ec eo (n + 1) acc R = match takeP ec eo [1, 10, 2, 3, 4] R with
    | .bad c o => .bad c o
    | .ok t r => if acc.length = 16 then .bad 23 t.off else match litP ec eo t r with
      | .bad c o => .bad c o
      | .ok x r' => match takeP ec eo [7, 8] r' with
        | .bad c o => .bad c o
        | .ok s r'' => if s.k = 8 then .ok (acc ++ [x]) r'' else bodyF ec eo n (acc ++ [x]) r'' := rfl

theorem body_sim {ec eo first : Int} (hf : first = 0 ∨ first = 5) : ∀ (n : Nat) (acc : List PLit) (R : List Tok) (c : Cnt), c.l = acc.length → Lim first c → Wf ec R → R.length < n →
    (∀ x o, bodyF ec eo n acc R = .bad x o → chkR ec eo first 5 c R = .bad x o) ∧
    (∀ b r', bodyF ec eo n acc R = .ok b r' → Wf ec r' ∧ ∃ P dot, R = P ++ dot :: r' ∧ dot.k = 8 ∧ Closed 8 P ∧ Closed 9 P ∧ BodyOk P ∧ b = acc ++ bodyR P ∧
      ∃ c', chkR ec eo first 5 c R = chkR ec eo first (bhP first) c' r' ∧ c'.c = c.c ∧ Lim first c')
  | 0, acc, R, c, hc, hl, hw, hn => absurd hn (Nat.not_lt_zero _)
  | n + 1, acc, R, c, hc, hl, hw, hn => by
    rw [bodyF_succ]
    have hm : ∀ t r, R = t :: r → t.k ∉ [(1 : Int), 10, 2, 3, 4] → moveP first 5 t.k = -1 := fun t r _ hk => by
      simp only [List.mem_cons, List.not_mem_nil, or_false, not_or] at hk
      obtain ⟨a, b, c, d, e⟩ := hk
      simp [moveP, moveBodyP, isTermB, a, b, c, d, e]
    cases h1 : takeP ec eo [1, 10, 2, 3, 4] R with
    | bad x o => exact ⟨fun x' o' h => by cases h; exact take_bad2 hm hw h1, fun y r' h => by cases h⟩
    | ok t r =>
      obtain ⟨rfl, ht⟩ := take_isok h1
      have hkt : t.k = 1 ∨ t.k = 10 ∨ t.k = 2 ∨ t.k = 3 ∨ t.k = 4 := by simpa using ht
      have hw1 : Wf ec r := hw.tail (by omega)
      have hmv : moveP first 5 t.k = litS t.k := by rcases hkt with h | h | h | h | h <;> rw [h] <;> simp [moveP, moveBodyP, litS, isTermB]
      have htk : takeC c 5 t.k = ⟨c.c, c.l + 1, c.t⟩ := by rcases hkt with h | h | h | h | h <;> rw [h] <;> simp [takeC]
      have hne : litS t.k ≠ -1 := by rcases hkt with h | h | h | h | h <;> rw [h] <;> decide
      simp only
      by_cases h16 : acc.length = 16
      · rw [if_pos h16]
        refine ⟨fun x o h => ?_, fun b r' h => by cases h⟩
        cases h
        refine chk_lim hmv hne htk ?_ (by decide)
        obtain ⟨g1, g2, g3, g4⟩ := hl
        unfold overC
        rw [if_neg (no_cls (c := ⟨c.c, c.l + 1, c.t⟩) g1 g2), if_pos (by simp only; omega)]
      · rw [if_neg h16]
        have hl2 : Lim first ⟨c.c, c.l + 1, c.t⟩ := ⟨hl.1, hl.2.1, by have := hl.2.2.1; simp only; omega, hl.2.2.2⟩
        have e1 : chkR ec eo first 5 c (t :: r) = chkR ec eo first (litS t.k) ⟨c.c, c.l + 1, c.t⟩ r := chk_go hmv hne htk hl2
        obtain ⟨i1, i2⟩ := lit_sim (ec := ec) (eo := eo) hf t ht r _ hl2 hw1
        cases h2 : litP ec eo t r with
        | bad x o => exact ⟨fun x' o' h => by cases h; rw [e1]; exact i1 _ _ h2, fun y r' h => by cases h⟩
        | ok x r1 =>
          obtain ⟨j1, P, j2, j3, j4, j5, s', c', j6, j7, j8, j9, f0, f7, f8, t7, t8⟩ := i2 _ _ h2
          simp only
          cases h3 : takeP ec eo [7, 8] r1 with
          | bad x' o' => exact ⟨fun x'' o'' h => by cases h; rw [e1, j6]; exact take_bad2 (fun t r e hk => by simp only [List.mem_cons, List.not_mem_nil, or_false, not_or] at hk; exact f0 t r e hk.1 hk.2) j1 h3, fun y r' h => by cases h⟩
          | ok s r2 =>
            obtain ⟨rfl, hs⟩ := take_isok h3
            have hs' : s.k = 7 ∨ s.k = 8 := by simpa using hs
            simp only
            by_cases h8 : s.k = 8
            · rw [if_pos h8]
              refine ⟨fun x o h => (by cases h), fun b r' h => ?_⟩
              cases h
              have e3 : chkR ec eo first s' c' (s :: r2) = chkR ec eo first (bhP first) c' r2 := chk_go (by rw [h8]; exact f8) (by rcases hf with rfl | rfl <;> decide) (by rw [h8]; exact t8) j9
              refine ⟨j1.tail (by omega), t :: P, s, by rw [j2]; rfl, h8, j5 8 (by omega), j5 9 (by omega), ?_, ?_, c', by rw [e1, j6, e3], by rw [j7], j9⟩
              · intro L hL; rw [cut_whole (j5 7 (by omega))] at hL; rw [List.mem_singleton.1 hL]; exact j4
              · unfold bodyR; rw [cut_whole (j5 7 (by omega))]; simp [j3]
            · rw [if_neg h8]
              have h7 : s.k = 7 := by omega
              have e3 : chkR ec eo first s' c' (s :: r2) = chkR ec eo first 5 c' r2 := chk_go (by rw [h7]; exact f7) (by decide) (by rw [h7]; exact t7) j9
              have hlen : r2.length < n := by
                have := congrArg List.length j2
                simp only [List.length_append, List.length_cons] at this hn
                omega
              obtain ⟨k1, k2⟩ := body_sim (eo := eo) hf n (acc ++ [x]) r2 c' (by rw [j8]; simp [hc]) j9 (j1.tail (by omega)) hlen
              refine ⟨fun x' o' h => by rw [e1, j6, e3]; exact k1 _ _ h, fun b r' h => ?_⟩
              obtain ⟨l1, P2, dot, l2, l3, l4, l5, l6, l7, c2, l8, l9, l10⟩ := k2 _ _ h
              have hcut : cutF 7 0 [] [] ((t :: P) ++ s :: P2) = [t :: P] ++ cutF 7 0 [] [] P2 := by
                rw [cut_sep (j5 7 (by omega)) h7 (by decide) (by decide), List.nil_append, cut_out]
              refine ⟨l1, (t :: P) ++ s :: P2, dot, by rw [j2, l2]; simp, l3, (j5 8 (by omega)).app (l4.cons (by omega) (by omega) (by omega)), (j5 9 (by omega)).app (l5.cons (by omega) (by omega) (by omega)), ?_, ?_, c2, by rw [e1, j6, e3, l8], by rw [l9, j7], l10⟩
              · intro L hL
                rw [hcut] at hL
                rcases List.mem_append.1 hL with h | h
                · rw [List.mem_singleton.1 h]; exact j4
                · exact l6 L h
              · rw [l7]; unfold bodyR; rw [hcut]; simp [j3]
end Go.Proofs.YtfbmddgjbmapiaaDoor

namespace Go.Proofs.YtfbmddgjbmapiaaDoor
set_option linter.unusedSimpArgs false
set_option linter.unusedVariables false
open Go.RowKit

theorem clause_sim {ec eo : Int} (name : Tok) (hn : name.k = 1) (R : List Tok) (c : Cnt) (hl : Lim 0 c) (hw : Wf ec R) :
    (∀ x o, clauseP ec eo name R = .bad x o → chkR ec eo 0 1 c R = .bad x o) ∧
    (∀ y r', clauseP ec eo name R = .ok y r' → Wf ec r' ∧ ∃ P dot, name :: R = P ++ dot :: r' ∧ dot.k = 8 ∧ Closed 8 P ∧ ClsOk P ∧ y = clsR P ∧
      ∃ c', chkR ec eo 0 1 c R = chkR ec eo 0 0 c' r' ∧ c'.c = c.c ∧ Lim 0 c') := by
  unfold clauseP
  obtain ⟨i1, i2⟩ := atom_sim (ec := ec) (eo := eo) (sN := 1) st_head (by decide) (fun c => by simp [takeC]) name R c hl hw
  cases h1 : atomP ec eo termKs name R with
  | bad x o => exact ⟨fun x' o' h => by cases h; exact i1 _ _ h1, fun y r' h => by cases h⟩
  | ok a r1 =>
    obtain ⟨j1, P, j2, j3, j4, -, s', c1, j6, j7, j8, j9, j10⟩ := i2 _ _ h1
    have hm : ∀ t r, r1 = t :: r → t.k ∉ [(8 : Int), 9] → moveP 0 s' t.k = -1 := fun t r e hk => by
      simp only [List.mem_cons, List.not_mem_nil, or_false, not_or] at hk
      rcases j10 with rfl | ⟨rfl, -, t', r', e', h5⟩
      · simp [moveP, moveHeadP, hk.1, hk.2]
      · rw [e] at e'; cases e'; simp [moveP, moveHeadP, hk.1, hk.2, h5]
    have hs4 : s' = 4 ∨ s' = 1 := j10.imp id (fun h => h.1)
    simp only
    cases h2 : takeP ec eo [8, 9] r1 with
    | bad x o => exact ⟨fun x' o' h => by cases h; rw [j6]; exact take_bad2 hm j1 h2, fun y r' h => by cases h⟩
    | ok s r2 =>
      obtain ⟨rfl, hs⟩ := take_isok h2
      have hs' : s.k = 8 ∨ s.k = 9 := by simpa using hs
      have hc3 := closed3 (t := name) j4 (by omega)
      simp only
      by_cases h9 : s.k = 9
      · rw [if_pos h9]
        have hl2 : Lim 0 ⟨c1.c, 0, c1.t⟩ := ⟨j9.1, j9.2.1, by show (0 : Int) ≤ 16; decide, j9.2.2.2⟩
        have e2 : chkR ec eo 0 s' c1 (s :: r2) = chkR ec eo 0 5 ⟨c1.c, 0, c1.t⟩ r2 := chk_go (by rw [h9]; rcases hs4 with rfl | rfl <;> decide) (by decide) (by rw [h9]; rcases hs4 with rfl | rfl <;> simp [takeC]) hl2
        obtain ⟨k1, k2⟩ := body_sim (eo := eo) (.inl rfl) (r2.length + 1) [] r2 ⟨c1.c, 0, c1.t⟩ rfl hl2 (j1.tail (by omega)) (by omega)
        unfold bodyP
        cases h3 : bodyF ec eo (r2.length + 1) [] r2 with
        | bad x o => exact ⟨fun x' o' h => by cases h; rw [j6, e2]; exact k1 _ _ h3, fun y r' h => by cases h⟩
        | ok b r3 =>
          obtain ⟨l1, P2, dot, l2, l3, l4, l5, l6, l7, c2, l8, l9, l10⟩ := k2 _ _ h3
          refine ⟨fun x o h => (by cases h), fun y r' h => ?_⟩
          cases h
          have hcut : cutF 9 0 [] [] ((name :: P) ++ s :: P2) = [name :: P, P2] := by
            rw [cut_sep (hc3 9 (by omega)) h9 (by decide) (by decide), cut_out, cut_whole l5]; rfl
          refine ⟨l1, (name :: P) ++ s :: P2, dot, by rw [j2, l2]; simp, l3, (hc3 8 (by omega)).app (l4.cons (by omega) (by omega) (by omega)), ?_, ?_, c2, by rw [j6, e2, l8]; rfl, by rw [l9]; exact j7, l10⟩
          · unfold ClsOk; rw [hcut]; exact ⟨by simp, fun _ => l6⟩
          · unfold clsR; rw [hcut, l7, j3]; simp
      · rw [if_neg h9]
        have h8 : s.k = 8 := by omega
        refine ⟨fun x o h => (by cases h), fun y r' h => ?_⟩
        cases h
        have e2 : chkR ec eo 0 s' c1 (s :: r2) = chkR ec eo 0 0 c1 r2 := chk_go (by rw [h8]; rcases hs4 with rfl | rfl <;> decide) (by decide) (by rw [h8]; rcases hs4 with rfl | rfl <;> simp [takeC]) j9
        refine ⟨j1.tail (by omega), name :: P, s, by rw [j2]; rfl, h8, hc3 8 (by omega), ?_, ?_, c1, by rw [j6, e2], j7, j9⟩
        · unfold ClsOk; rw [cut_whole (hc3 9 (by omega))]; exact ⟨by simp, fun h => by simp at h⟩
        · unfold clsR; rw [cut_whole (hc3 9 (by omega)), j3]; simp

theorem progF_succ (ec eo : Int) (n : Nat) (acc : List PCls) (R : List Tok) : progF ec eo (n + 1) acc R = match takeP ec eo [1, 0] R with
    | .bad c o => .bad c o
    | .ok t r => if t.k = 0 then .ok acc r else if acc.length = 512 then .bad 24 t.off else match clauseP ec eo t r with
      | .bad c o => .bad c o
      | .ok x r' => progF ec eo n (acc ++ [x]) r' := rfl
theorem chk_done {ec eo first s : Int} {c : Cnt} {t : Tok} {r : List Tok} (h : moveP first s t.k = 26) (hk : t.k = 0) (hc : takeC c s 0 = c) (hl : Lim first c) (hw : Wf ec (t :: r)) : chkR ec eo first s c (t :: r) = .ok () [] := by
  obtain ⟨rfl, rfl⟩ := hw.last hk
  rw [chk_go h (by decide) (by rw [hk]; exact hc) hl]
  unfold chkR; rw [if_pos rfl]
theorem cut_last {t : Tok} (h : t.k = 0) : cutF 8 0 [] [] [t] = [[t]] := cut_whole (Closed.one (by omega) (by omega) (by omega))

theorem prog_sim {ec eo : Int} : ∀ (n : Nat) (acc : List PCls) (R : List Tok) (c : Cnt), c.c = acc.length → Lim 0 c → Wf ec R → R.length < n →
    (∀ x o, progF ec eo n acc R = .bad x o → chkR ec eo 0 0 c R = .bad x o) ∧
    (∀ b r', progF ec eo n acc R = .ok b r' → chkR ec eo 0 0 c R = .ok () [] ∧ ∃ S last, cutF 8 0 [] [] R = S ++ [last] ∧ b = acc ++ S.map clsR ∧ ∀ L ∈ S, ClsOk L)
  | 0, acc, R, c, hc, hl, hw, hn => absurd hn (Nat.not_lt_zero _)
  | n + 1, acc, R, c, hc, hl, hw, hn => by
    rw [progF_succ]
    cases h1 : takeP ec eo [1, 0] R with
    | bad x o => exact ⟨fun x' o' h => by cases h; exact take_bad2 (fun t r _ hk => by simp only [List.mem_cons, List.not_mem_nil, or_false, not_or] at hk; simp [moveP, moveHeadP, hk.1, hk.2]) hw h1, fun y r' h => by cases h⟩
    | ok t r =>
      obtain ⟨rfl, ht⟩ := take_isok h1
      have ht' : t.k = 1 ∨ t.k = 0 := by simpa using ht
      simp only
      by_cases h0 : t.k = 0
      · rw [if_pos h0]
        obtain ⟨rfl, rfl⟩ := hw.last h0
        refine ⟨fun x o h => (by cases h), fun b r' h => ?_⟩
        cases h
        exact ⟨chk_done (by rw [h0]; decide) h0 (by simp [takeC]) hl hw, [], [t], cut_last h0, by simp, by simp⟩
      · rw [if_neg h0]
        have hk : t.k = 1 := by omega
        by_cases h5 : acc.length = 512
        · rw [if_pos h5]
          refine ⟨fun x o h => ?_, fun b r' h => (by cases h)⟩
          cases h
          refine chk_lim (n := 1) (c' := ⟨c.c + 1, c.l, c.t⟩) (by rw [hk]; decide) (by decide) (by rw [hk]; simp [takeC]) ?_ (by decide)
          unfold overC
          rw [if_pos (.inl ⟨rfl, by simp only; omega⟩)]
        · rw [if_neg h5]
          have hl2 : Lim 0 ⟨c.c + 1, c.l, c.t⟩ := ⟨fun h => by have := hl.1 h; simp only; omega, fun h => (by cases h), hl.2.2.1, hl.2.2.2⟩
          have e1 : chkR ec eo 0 0 c (t :: r) = chkR ec eo 0 1 ⟨c.c + 1, c.l, c.t⟩ r := chk_go (by rw [hk]; decide) (by decide) (by rw [hk]; simp [takeC]) hl2
          obtain ⟨i1, i2⟩ := clause_sim (ec := ec) (eo := eo) t hk r _ hl2 (hw.tail h0)
          cases h2 : clauseP ec eo t r with
          | bad x o => exact ⟨fun x' o' h => by cases h; rw [e1]; exact i1 _ _ h2, fun y r' h => by cases h⟩
          | ok y r1 =>
            obtain ⟨j1, P, dot, j2, j3, j4, j5, j6, c', j7, j8, j9⟩ := i2 _ _ h2
            have hlen : r1.length < n := by
              have := congrArg List.length j2
              simp only [List.length_append, List.length_cons] at this hn
              omega
            obtain ⟨k1, k2⟩ := prog_sim (eo := eo) n (acc ++ [y]) r1 c' (by rw [j8]; simp [hc]) j9 j1 hlen
            refine ⟨fun x o h => by rw [e1, j7]; exact k1 _ _ h, fun b r' h => ?_⟩
            obtain ⟨l1, S, last, l2, l3, l4⟩ := k2 _ _ h
            refine ⟨by rw [e1, j7, l1], P :: S, last, ?_, by rw [l3, j6]; simp, ?_⟩
            · rw [j2, cut_sep j4 j3 (by decide) (by decide), cut_out, l2]; rfl
            · intro L hL
              rcases List.mem_cons.1 hL with rfl | h
              · exact j5
              · exact l4 L h

theorem factsF_succ (ec eo : Int) (n : Nat) (acc : List PAtom) (R : List Tok) : factsF ec eo (n + 1) acc R = match takeP ec eo [1, 0] R with
    | .bad c o => .bad c o
    | .ok t r => if t.k = 0 then .ok acc r else if acc.length = 4096 then .bad 24 t.off else match atomP ec eo valueKs t r with
      | .bad c o => .bad c o
      | .ok x r' => match takeP ec eo [8] r' with
        | .bad c o => .bad c o
        | .ok _ r'' => factsF ec eo n (acc ++ [x]) r'' := rfl

theorem facts_sim {ec eo : Int} : ∀ (n : Nat) (acc : List PAtom) (R : List Tok) (c : Cnt), c.c = acc.length → Lim 15 c → Wf ec R → R.length < n →
    (∀ x o, factsF ec eo n acc R = .bad x o → chkR ec eo 15 15 c R = .bad x o) ∧
    (∀ b r', factsF ec eo n acc R = .ok b r' → chkR ec eo 15 15 c R = .ok () [] ∧ ∃ S last, cutF 8 0 [] [] R = S ++ [last] ∧ b = acc ++ S.map atomR ∧ ∀ L ∈ S, L ≠ [])
  | 0, acc, R, c, hc, hl, hw, hn => absurd hn (Nat.not_lt_zero _)
  | n + 1, acc, R, c, hc, hl, hw, hn => by
    rw [factsF_succ]
    cases h1 : takeP ec eo [1, 0] R with
    | bad x o => exact ⟨fun x' o' h => by cases h; exact take_bad2 (fun t r _ hk => by simp only [List.mem_cons, List.not_mem_nil, or_false, not_or] at hk; simp [moveP, moveFactP, hk.1, hk.2]) hw h1, fun y r' h => by cases h⟩
    | ok t r =>
      obtain ⟨rfl, ht⟩ := take_isok h1
      have ht' : t.k = 1 ∨ t.k = 0 := by simpa using ht
      simp only
      by_cases h0 : t.k = 0
      · rw [if_pos h0]
        obtain ⟨rfl, rfl⟩ := hw.last h0
        refine ⟨fun x o h => (by cases h), fun b r' h => ?_⟩
        cases h
        exact ⟨chk_done (by rw [h0]; decide) h0 (by simp [takeC]) hl hw, [], [t], cut_last h0, by simp, by simp⟩
      · rw [if_neg h0]
        have hk : t.k = 1 := by omega
        by_cases h5 : acc.length = 4096
        · rw [if_pos h5]
          refine ⟨fun x o h => ?_, fun b r' h => (by cases h)⟩
          cases h
          refine chk_lim (n := 16) (c' := ⟨c.c + 1, c.l, c.t⟩) (by rw [hk]; decide) (by decide) (by rw [hk]; simp [takeC]) ?_ (by decide)
          unfold overC
          rw [if_pos (.inr ⟨rfl, by simp only; omega⟩)]
        · rw [if_neg h5]
          have hl2 : Lim 15 ⟨c.c + 1, c.l, c.t⟩ := ⟨fun h => (by cases h), fun h => (by have := hl.2.1 h; show c.c + 1 ≤ 4096; omega), hl.2.2.1, hl.2.2.2⟩
          have e1 : chkR ec eo 15 15 c (t :: r) = chkR ec eo 15 16 ⟨c.c + 1, c.l, c.t⟩ r := chk_go (by rw [hk]; decide) (by decide) (by rw [hk]; simp [takeC]) hl2
          obtain ⟨i1, i2⟩ := atom_sim (ec := ec) (eo := eo) (sN := 16) st_facts (by decide) (fun c => by simp [takeC]) t r _ hl2 (hw.tail h0)
          cases h2 : atomP ec eo valueKs t r with
          | bad x o => exact ⟨fun x' o' h => by cases h; rw [e1]; exact i1 _ _ h2, fun y r' h => by cases h⟩
          | ok a r1 =>
            obtain ⟨j1, P, j2, j3, j4, -, s', c1, j6, j7, j8, j9, j10⟩ := i2 _ _ h2
            have hs4 : s' = 19 ∨ s' = 16 := j10.imp id (fun h => h.1)
            have hm : ∀ t r, r1 = t :: r → t.k ∉ [(8 : Int)] → moveP 15 s' t.k = -1 := fun t r e hk => by
              simp only [List.mem_singleton] at hk
              rcases j10 with rfl | ⟨rfl, -, t', r', e', h5⟩
              · simp [moveP, moveFactP, hk]
              · rw [e] at e'; cases e'; simp [moveP, moveFactP, hk, h5]
            simp only
            cases h3 : takeP ec eo [8] r1 with
            | bad x o => exact ⟨fun x' o' h => by cases h; rw [e1, j6]; exact take_bad2 hm j1 h3, fun y r' h => by cases h⟩
            | ok s r2 =>
              obtain ⟨rfl, hs⟩ := take_isok h3
              have h8 : s.k = 8 := by simpa using hs
              have e2 : chkR ec eo 15 s' c1 (s :: r2) = chkR ec eo 15 15 c1 r2 := chk_go (by rw [h8]; rcases hs4 with rfl | rfl <;> decide) (by decide) (by rw [h8]; rcases hs4 with rfl | rfl <;> simp [takeC]) j9
              have hlen : r2.length < n := by
                have := congrArg List.length j2
                simp only [List.length_append, List.length_cons] at this hn
                omega
              obtain ⟨k1, k2⟩ := facts_sim (eo := eo) n (acc ++ [a]) r2 c1 (by rw [j7]; simp [hc]) j9 (j1.tail (by omega)) hlen
              refine ⟨fun x o h => by rw [e1, j6, e2]; exact k1 _ _ h, fun b r' h => ?_⟩
              obtain ⟨l1, S, last, l2, l3, l4⟩ := k2 _ _ h
              have hc3 := closed3 (t := t) j4 (by omega)
              refine ⟨by rw [e1, j6, e2, l1], (t :: P) :: S, last, ?_, by rw [l3, j3]; simp, ?_⟩
              · rw [j2, show t :: (P ++ s :: r2) = (t :: P) ++ s :: r2 from rfl, cut_sep (hc3 8 (by omega)) h8 (by decide) (by decide), cut_out, l2]; rfl
              · intro L hL
                rcases List.mem_cons.1 hL with rfl | h
                · simp
                · exact l4 L h

theorem prog_meet {ec eo : Int} {R : List Tok} (hw : Wf ec R) :
    (∀ x o, progP ec eo R = .bad x o → chkR ec eo 0 0 ⟨0, 0, 0⟩ R = .bad x o) ∧
    (∀ b r', progP ec eo R = .ok b r' → chkR ec eo 0 0 ⟨0, 0, 0⟩ R = .ok () [] ∧ ∃ S last, cutF 8 0 [] [] R = S ++ [last] ∧ b = S.map clsR ∧ ∀ L ∈ S, ClsOk L) := by
  have := prog_sim (ec := ec) (eo := eo) (R.length + 1) [] R ⟨0, 0, 0⟩ rfl ⟨fun _ => by decide, fun _ => by decide, by decide, by decide⟩ hw (by omega)
  unfold progP
  simpa only [List.nil_append] using this
theorem facts_meet {ec eo : Int} {R : List Tok} (hw : Wf ec R) :
    (∀ x o, factsP ec eo R = .bad x o → chkR ec eo 15 15 ⟨0, 0, 0⟩ R = .bad x o) ∧
    (∀ b r', factsP ec eo R = .ok b r' → chkR ec eo 15 15 ⟨0, 0, 0⟩ R = .ok () [] ∧ ∃ S last, cutF 8 0 [] [] R = S ++ [last] ∧ b = S.map atomR ∧ ∀ L ∈ S, L ≠ []) := by
  have := facts_sim (ec := ec) (eo := eo) (R.length + 1) [] R ⟨0, 0, 0⟩ rfl ⟨fun _ => by decide, fun _ => by decide, by decide, by decide⟩ hw (by omega)
  unfold factsP
  simpa only [List.nil_append] using this
theorem query_meet {ec eo : Int} {R : List Tok} (hw : Wf ec R) :
    (∀ x o, queryP ec eo R = .bad x o → chkR ec eo 5 5 ⟨0, 0, 0⟩ R = .bad x o) ∧
    (∀ b r', queryP ec eo R = .ok b r' → chkR ec eo 5 5 ⟨0, 0, 0⟩ R = .ok () [] ∧ ∃ P last, cutF 8 0 [] [] R = [P, last] ∧ b = bodyR P ∧ BodyOk P) := by
  have hl : Lim 5 ⟨0, 0, 0⟩ := ⟨fun _ => by decide, fun _ => by decide, by decide, by decide⟩
  obtain ⟨k1, k2⟩ := body_sim (ec := ec) (eo := eo) (first := 5) (.inr rfl) (R.length + 1) [] R ⟨0, 0, 0⟩ rfl hl hw (by omega)
  unfold queryP bodyP
  cases h1 : bodyF ec eo (R.length + 1) [] R with
  | bad x o => exact ⟨fun x' o' h => by cases h; exact k1 _ _ h1, fun y r' h => by cases h⟩
  | ok b r =>
    obtain ⟨l1, P, dot, l2, l3, l4, -, l6, l7, c2, l8, l9, l10⟩ := k2 _ _ h1
    simp only
    have hb : chkR ec eo 5 5 ⟨0, 0, 0⟩ R = chkR ec eo 5 25 c2 r := l8
    cases h2 : takeP ec eo [0] r with
    | bad x o => exact ⟨fun x' o' h => by cases h; rw [hb]; exact take_bad2 (fun t r _ hk => by simp only [List.mem_singleton] at hk; simp [moveP, moveBodyP, hk]) l1 h2, fun y r' h => by cases h⟩
    | ok t r2 =>
      obtain ⟨rfl, ht⟩ := take_isok h2
      have h0 : t.k = 0 := by simpa using ht
      obtain ⟨rfl, rfl⟩ := l1.last h0
      refine ⟨fun x o h => (by cases h), fun b r' h => ?_⟩
      cases h
      refine ⟨by rw [hb]; exact chk_done (by rw [h0]; decide) h0 (by simp [takeC]) l10 l1, P, [t], ?_, by rw [l7]; simp, l6⟩
      rw [l2, cut_sep l4 l3 (by decide) (by decide), cut_out, cut_last h0]; rfl
theorem fact_meet {ec eo : Int} {R : List Tok} (hw : Wf ec R) :
    (∀ x o, factP ec eo R = .bad x o → chkR ec eo 20 20 ⟨0, 0, 0⟩ R = .bad x o) ∧
    (∀ b r', factP ec eo R = .ok b r' → chkR ec eo 20 20 ⟨0, 0, 0⟩ R = .ok () [] ∧ b = atomR R ∧ R ≠ []) := by
  have hl : Lim 20 ⟨0, 0, 0⟩ := ⟨fun _ => by decide, fun _ => by decide, by decide, by decide⟩
  unfold factP
  cases h1 : takeP ec eo [1] R with
  | bad x o => exact ⟨fun x' o' h => by cases h; exact take_bad2 (fun t r _ hk => by simp only [List.mem_singleton] at hk; simp [moveP, moveFactP, hk]) hw h1, fun y r' h => by cases h⟩
  | ok t r =>
    obtain ⟨rfl, ht⟩ := take_isok h1
    have hk : t.k = 1 := by simpa using ht
    have e1 : chkR ec eo 20 20 ⟨0, 0, 0⟩ (t :: r) = chkR ec eo 20 21 ⟨0, 0, 0⟩ r := chk_go (by rw [hk]; decide) (by decide) (by rw [hk]; simp [takeC]) hl
    obtain ⟨i1, i2⟩ := atom_sim (ec := ec) (eo := eo) (sN := 21) st_one (by decide) (fun c => by simp [takeC]) t r _ hl (hw.tail (by omega))
    simp only
    cases h2 : atomP ec eo valueKs t r with
    | bad x o => exact ⟨fun x' o' h => by cases h; rw [e1]; exact i1 _ _ h2, fun y r' h => by cases h⟩
    | ok a r1 =>
      obtain ⟨j1, P, j2, j3, j4, -, s', c1, j6, j7, j8, j9, j10⟩ := i2 _ _ h2
      have hs4 : s' = 24 ∨ s' = 21 := j10.imp id (fun h => h.1)
      have hm : ∀ t r, r1 = t :: r → t.k ∉ [(0 : Int)] → moveP 20 s' t.k = -1 := fun t r e hk => by
        simp only [List.mem_singleton] at hk
        rcases j10 with rfl | ⟨rfl, -, t', r', e', h5⟩
        · simp [moveP, moveFactP, hk]
        · rw [e] at e'; cases e'; simp [moveP, moveFactP, hk, h5]
      simp only
      cases h3 : takeP ec eo [0] r1 with
      | bad x o => exact ⟨fun x' o' h => by cases h; rw [e1, j6]; exact take_bad2 hm j1 h3, fun y r' h => by cases h⟩
      | ok e r2 =>
        obtain ⟨rfl, he⟩ := take_isok h3
        have h0 : e.k = 0 := by simpa using he
        obtain ⟨rfl, rfl⟩ := j1.last h0
        refine ⟨fun x o h => (by cases h), fun b r' h => ?_⟩
        cases h
        refine ⟨by rw [e1, j6]; exact chk_done (by rw [h0]; rcases hs4 with rfl | rfl <;> decide) h0 (by rcases hs4 with rfl | rfl <;> simp [takeC]) j9 j1, ?_, by simp⟩
        rw [j3, j2]
        simp [atomR, List.filter_append, List.filter_cons, show isTermB e.k = false by simp [isTermB, h0]]
end Go.Proofs.YtfbmddgjbmapiaaDoor

namespace Go.Proofs.YtfbmddgjbmapiaaDoor
set_option linter.unusedSimpArgs false
set_option linter.unusedVariables false
open Go.RowKit

def Cd {α : Type} (c : Int) : PR α → Prop
  | .bad ec _ => ec = c ∨ 20 ≤ ec
  | .ok _ _ => True
theorem misK_20 (k : Int) : 20 ≤ misK k := by unfold misK; split <;> decide
theorem take_cd {c f : Int} {ks : List Int} {R : List Tok} : Cd c (takeP c f ks R) := by
  match R with
  | [] => exact .inl rfl
  | t :: r =>
    simp only [takeP]
    by_cases hm : t.k ∈ ks
    · rw [if_pos hm]; trivial
    · rw [if_neg hm]; exact .inr (misK_20 _)
theorem cd_bad {α : Type} {c ec eo : Int} {x : PR α} (h : Cd c x) (e : x = .bad ec eo) : ec = c ∨ 20 ≤ ec := by subst e; exact h
theorem args_cd {c f : Int} {ks : List Int} : ∀ (n : Nat) (acc : List Trm) (R : List Tok), R.length = n → Cd c (argsP c f ks acc R) := by
  intro n
  induction n using Nat.strongRecOn with
  | ind n ih =>
    intro acc R hn
    cases hT : takeP c f ks R with
    | bad ec eo => rw [args_bad1 hT]; exact cd_bad take_cd hT
    | ok t r1 =>
      have l1 := take_len hT
      by_cases h8 : acc.length = 8
      · rw [args_lim hT h8]; exact .inr (by decide)
      · rw [args_next hT h8]
        cases hU : takeP c f [7, 6] r1 with
        | bad ec eo => exact cd_bad take_cd hU
        | ok s r2 =>
          have l2 := take_len hU
          simp only
          by_cases h7 : s.k = 7
          · rw [if_pos h7]; exact ih r2.length (by omega) _ r2 rfl
          · rw [if_neg h7]; trivial
theorem atom_cd {c f : Int} {ks : List Int} {name : Tok} {R : List Tok} : Cd c (atomP c f ks name R) := by
  match R with
  | [] => exact .inl rfl
  | t :: r1 =>
    unfold atomP
    simp only
    by_cases h5 : t.k = 5
    · rw [if_pos h5]
      cases hA : argsP c f ks [] r1 with
      | bad ec eo => exact cd_bad (args_cd _ _ _ rfl) hA
      | ok ts r2 => trivial
    · rw [if_neg h5]; trivial
theorem lit_cd {c f : Int} {first : Tok} {R : List Tok} : Cd c (litP c f first R) := by
  have test : Cd c (match takeP c f [11] R with
      | .bad c o => PR.bad c o
      | .ok o1 r' => match takeP c f termKs r' with
        | .bad c o => .bad c o
        | .ok t2 r'' => .ok (⟨3, zeroAtom, o1.op, termP first, termP t2, first.off⟩ : PLit) r'') := by
    cases hT : takeP c f [11] R with
    | bad ec eo => exact cd_bad take_cd hT
    | ok o1 r1 =>
      simp only
      cases hU : takeP c f termKs r1 with
      | bad ec eo => exact cd_bad take_cd hU
      | ok t2 r2 => trivial
  unfold litP
  by_cases h10 : first.k = 10
  · rw [if_pos h10]
    cases hT : takeP c f [1] R with
    | bad ec eo => exact cd_bad take_cd hT
    | ok n r1 =>
      simp only
      cases hA : atomP c f termKs n r1 with
      | bad ec eo => exact cd_bad atom_cd hA
      | ok a r2 => trivial
  · rw [if_neg h10]
    simp only
    by_cases h1 : first.k = 1
    · rw [if_pos h1]
      cases R with
      | nil => exact .inl rfl
      | cons t r1 =>
        simp only
        by_cases h11 : t.k = 11
        · rw [if_pos h11]; exact test
        · rw [if_neg h11]
          cases hA : atomP c f termKs first (t :: r1) with
          | bad ec eo => exact cd_bad atom_cd hA
          | ok a r2 => trivial
    · rw [if_neg h1]; exact test
theorem body_cd {c f : Int} : ∀ (n : Nat) (acc : List PLit) (R : List Tok), Cd c (bodyF c f n acc R) := by
  intro n
  induction n with
  | zero => intro acc R; exact .inl rfl
  | succ n ih =>
    intro acc R
    cases hT : takeP c f [1, 10, 2, 3, 4] R with
    | bad ec eo => rw [body_bad1 hT]; exact cd_bad take_cd hT
    | ok t r1 =>
      by_cases h16 : acc.length = 16
      · rw [body_lim hT h16]; exact .inr (by decide)
      · cases hL : litP c f t r1 with
        | bad ec eo => rw [body_lit hT h16 hL]; exact cd_bad lit_cd hL
        | ok x r2 =>
          cases hU : takeP c f [7, 8] r2 with
          | bad ec eo => rw [body_sep hT h16 hL hU]; exact cd_bad take_cd hU
          | ok s r3 =>
            by_cases h8 : s.k = 8
            · rw [body_end hT h16 hL hU h8]; trivial
            · rw [body_more hT h16 hL hU h8]; exact ih _ _
theorem clause_cd {c f : Int} {name : Tok} {R : List Tok} : Cd c (clauseP c f name R) := by
  unfold clauseP
  cases hA : atomP c f termKs name R with
  | bad ec eo => exact cd_bad atom_cd hA
  | ok a r1 =>
    simp only
    cases hT : takeP c f [8, 9] r1 with
    | bad ec eo => exact cd_bad take_cd hT
    | ok s r2 =>
      simp only
      by_cases h9 : s.k = 9
      · rw [if_pos h9]
        cases hB : bodyP c f r2 with
        | bad ec eo => exact cd_bad (body_cd _ _ _) hB
        | ok b r3 => trivial
      · rw [if_neg h9]; trivial
theorem prog_cd {c f : Int} : ∀ (n : Nat) (acc : List PCls) (R : List Tok), Cd c (progF c f n acc R) := by
  intro n
  induction n with
  | zero => intro acc R; exact .inl rfl
  | succ n ih =>
    intro acc R
    cases hT : takeP c f [1, 0] R with
    | bad e1 e2 => rw [prog_bad1 hT]; exact cd_bad take_cd hT
    | ok t r1 =>
      by_cases h0 : t.k = 0
      · rw [prog_end hT h0]; trivial
      · by_cases h5 : acc.length = 512
        · rw [prog_lim hT h0 h5]; exact .inr (by decide)
        · cases hC : clauseP c f t r1 with
          | bad e1 e2 => rw [prog_cls hT h0 h5 hC]; exact cd_bad clause_cd hC
          | ok x r2 => rw [prog_more hT h0 h5 hC]; exact ih _ _
theorem facts_cd {c f : Int} : ∀ (n : Nat) (acc : List PAtom) (R : List Tok), Cd c (factsF c f n acc R) := by
  intro n
  induction n with
  | zero => intro acc R; exact .inl rfl
  | succ n ih =>
    intro acc R
    cases hT : takeP c f [1, 0] R with
    | bad e1 e2 => rw [facts_bad1 hT]; exact cd_bad take_cd hT
    | ok t r1 =>
      by_cases h0 : t.k = 0
      · rw [facts_end hT h0]; trivial
      · by_cases h5 : acc.length = 4096
        · rw [facts_lim hT h0 h5]; exact .inr (by decide)
        · cases hC : atomP c f valueKs t r1 with
          | bad e1 e2 => rw [facts_atom hT h0 h5 hC]; exact cd_bad atom_cd hC
          | ok x r2 =>
            cases hD : takeP c f [8] r2 with
            | bad e1 e2 => rw [facts_dot hT h0 h5 hC hD]; exact cd_bad take_cd hD
            | ok s r3 => rw [facts_more hT h0 h5 hC hD]; exact ih _ _
theorem query_cd {c f : Int} {R : List Tok} : Cd c (queryP c f R) := by
  unfold queryP
  cases hB : bodyP c f R with
  | bad ec eo => exact cd_bad (body_cd _ _ _) hB
  | ok b r =>
    simp only
    cases hT : takeP c f [0] r with
    | bad ec eo => exact cd_bad take_cd hT
    | ok s r2 => trivial
theorem fact_cd {c f : Int} {R : List Tok} : Cd c (factP c f R) := by
  unfold factP
  cases hT : takeP c f [1] R with
  | bad ec eo => exact cd_bad take_cd hT
  | ok t r =>
    simp only
    cases hA : atomP c f valueKs t r with
    | bad ec eo => exact cd_bad atom_cd hA
    | ok a r2 =>
      simp only
      cases hD : takeP c f [0] r2 with
      | bad ec eo => exact cd_bad take_cd hD
      | ok s r3 => trivial
def fltP {α : Type} : PR α → Int × Int
  | .bad c o => (c, o)
  | .ok _ _ => (0, 0)
theorem flt_ne1 {α : Type} {c : Int} {x : PR α} (h : Cd c x) (hc : c ≠ 1) : (fltP x).1 ≠ 1 := by
  cases x with
  | bad ec eo => show ec ≠ 1; rcases h with h | h <;> omega
  | ok a r => show (0 : Int) ≠ 1; decide
theorem toks_c {s : ByteArray} {o : Nat} {L : List Tok} {c : Int} {f : Nat} (h : Toks s o L c f) : c ≠ 1 := by
  induction h with
  | bad ho hx => rcases next_bad hx with h | h <;> omega
  | last ho hx hk => decide
  | more ho hx hk T ih => exact ih
/-- The fault that each of the four readers tells. -/
def fOf (r : Nat) (s : ByteArray) : Int × Int :=
  if r = 0 then fltP (progP (scanX s).2.1 ((scanX s).2.2 : Int) (scanX s).1)
  else if r = 1 then fltP (factsP (scanX s).2.1 ((scanX s).2.2 : Int) (scanX s).1)
  else if r = 2 then fltP (queryP (scanX s).2.1 ((scanX s).2.2 : Int) (scanX s).1)
  else fltP (factP (scanX s).2.1 ((scanX s).2.2 : Int) (scanX s).1)
theorem fOf_short (r : Nat) {s : ByteArray} (h : s.size ≤ 65536) : (fOf r s).1 ≠ 1 := by
  have hc := toks_c (scan_toks s h)
  unfold fOf
  split
  · exact flt_ne1 (prog_cd _ _ _) hc
  · split
    · exact flt_ne1 (facts_cd _ _ _) hc
    · split
      · exact flt_ne1 query_cd hc
      · exact flt_ne1 fact_cd hc
theorem fOf_long (r : Nat) {s : ByteArray} (h : 65536 < s.size) : fOf r s = (1, 0) := by
  have e : scanX s = ([], 1, 0) := if_pos (by omega)
  unfold fOf
  rw [e]
  split
  · rfl
  · split
    · rfl
    · split <;> rfl
end Go.Proofs.YtfbmddgjbmapiaaDoor

namespace Go.Proofs.YtfbmddgjbmapiaaDoor
set_option linter.unusedSimpArgs false
set_option linter.unusedVariables false
open Go.RowKit

theorem toks_wf {s : ByteArray} {o : Nat} {L : List Tok} {c : Int} {f : Nat} (h : Toks s o L c f) : Wf c L := by
  induction h with
  | bad ho hx => unfold Wf; have := next_bad hx; omega
  | last ho hx hk => unfold Wf; rw [if_pos hk]; exact ⟨rfl, rfl⟩
  | more ho hx hk _ ih => unfold Wf; rw [if_neg hk]; exact ih
theorem scan_wf (s : ByteArray) : Wf (scanX s).2.1 (scanX s).1 := by
  by_cases h : s.size ≤ 65536
  · exact toks_wf (scan_toks s h)
  · rw [show scanX s = ([], 1, 0) from if_pos (by omega)]
    unfold Wf; decide
def fstR (r : Nat) : Int := if r = 0 then 0 else if r = 1 then 15 else if r = 2 then 5 else 20
def fltU : PR Unit → Int × Int
  | .bad x o => (x, o)
  | .ok _ _ => (0, 0)
theorem flt_meet {α : Type} {P : PR α} {Q : PR Unit} (h1 : ∀ x o, P = .bad x o → Q = .bad x o) (h2 : ∀ b r, P = .ok b r → Q = .ok () []) : fltP P = fltU Q := by
  cases P with
  | bad x o => rw [h1 x o rfl]; rfl
  | ok b r => rw [h2 b r rfl]; rfl
theorem fOf_chk (r : Nat) (hr : r < 4) (s : ByteArray) : fOf r s = fltU (chkR (scanX s).2.1 ((scanX s).2.2 : Int) (fstR r) (fstR r) ⟨0, 0, 0⟩ (scanX s).1) := by
  have hw := scan_wf s
  match r, hr with
  | 0, _ => exact flt_meet (prog_meet hw).1 fun b r h => ((prog_meet hw).2 b r h).1
  | 1, _ => exact flt_meet (facts_meet hw).1 fun b r h => ((facts_meet hw).2 b r h).1
  | 2, _ => exact flt_meet (query_meet hw).1 fun b r h => ((query_meet hw).2 b r h).1
  | 3, _ => exact flt_meet (fact_meet hw).1 fun b r h => ((fact_meet hw).2 b r h).1
theorem take_fin (first : Int) (c : Cnt) (s : Int) (h : moveP first s 0 ≠ -1) : takeC c s 0 = c := by
  have h5 : s ≠ 5 := fun e => by subst e; exact h (by unfold moveP moveBodyP isTermB; simp)
  have h2 : s ≠ 2 := fun e => by subst e; exact h (by unfold moveP moveHeadP isTermB; simp)
  have h9 : s ≠ 9 := fun e => by subst e; exact h (by unfold moveP moveBodyP isTermB; simp)
  have h17 : s ≠ 17 := fun e => by subst e; exact h (by unfold moveP moveFactP isValueB; simp)
  have h22 : s ≠ 22 := fun e => by subst e; exact h (by unfold moveP moveFactP isValueB; simp)
  unfold takeC
  simp [h5, h2, h9, h17, h22]
theorem over_code (first : Int) (c : Cnt) : overC first c = 0 ∨ (22 ≤ overC first c ∧ overC first c ≤ 24) := by
  unfold overC
  split
  · exact .inr (by decide)
  · split
    · exact .inr (by decide)
    · split
      · exact .inr (by decide)
      · exact .inl rfl
/-- A fault of the grammar stands at a token, whatever follows it. -/
theorem chk_at {ec eo first : Int} : ∀ (L : List Tok) (s : Int) (c : Cnt) (x o : Int), overC first c = 0 → chkR ec eo first s c L = .bad x o → (x = ec ∧ ec ≠ 0) ∨
    ∃ X t r, L = X ++ t :: r ∧ (t.off : Int) = o ∧ (x = 20 ∨ x = 21 ∨ (22 ≤ x ∧ x ≤ 24)) ∧ (x = 21 ↔ t.k = 0) ∧ ∀ (ec' eo' : Int) (r' : List Tok), chkR ec' eo' first s c (X ++ t :: r') = .bad x o
  | [], s, c, x, o, h0, h => by
    unfold chkR at h
    split at h
    · cases h
    · rename_i he; cases h; exact .inl ⟨rfl, he⟩
  | t :: r, s, c, x, o, h0, h => by
    unfold chkR at h
    split at h
    · rename_i hm
      injection h with e1 e2
      subst e1 e2
      refine .inr ⟨[], t, r, rfl, rfl, ?_, ?_, fun ec' eo' r' => ?_⟩
      · unfold misK; split <;> simp
      · unfold misK; split <;> simp_all
      · rw [List.nil_append]; exact chk_mis hm
    · rename_i hm
      split at h
      · rename_i hov
        injection h with e1 e2
        subst e1 e2
        have hc := (over_code first (takeC c s t.k)).resolve_left hov
        refine .inr ⟨[], t, r, rfl, rfl, .inr (.inr hc), ⟨fun e => by omega, fun e => ?_⟩, fun ec' eo' r' => ?_⟩
        · exfalso
          rw [e] at hm hov
          rw [take_fin first c s hm] at hov
          exact hov h0
        · rw [List.nil_append, chkR, if_neg hm, if_pos hov]
      · rename_i hov
        have hov0 : overC first (takeC c s t.k) = 0 := Decidable.not_not.1 hov
        rcases chk_at r _ _ x o hov0 h with h1 | ⟨X, u, q, h1, h2, h3, h4, h5⟩
        · exact .inl h1
        · refine .inr ⟨t :: X, u, q, by rw [h1]; rfl, h2, h3, h4, fun ec' eo' r' => ?_⟩
          rw [List.cons_append, chkR, if_neg hm, if_neg hov]
          exact h5 ec' eo' r'
theorem toks_ge {s : ByteArray} {o : Nat} {L : List Tok} {c : Int} {f : Nat} (h : Toks s o L c f) : ∀ u ∈ L, o ≤ u.off ∧ u.en ≤ s.size := by
  induction h with
  | bad ho hx => simp
  | last ho hx hk =>
    intro u hu
    simp only [List.mem_singleton] at hu; subst hu
    obtain ⟨-, -, h3, h4⟩ := next_tok ho hx
    exact ⟨h3, by rcases h4 with h | h <;> omega⟩
  | more ho hx hk _ ih =>
    intro u hu
    obtain ⟨-, -, h3, h4⟩ := next_tok ho hx
    rcases List.mem_cons.1 hu with rfl | hu
    · exact ⟨h3, by rcases h4 with h | h <;> omega⟩
    · have := ih u hu
      exact ⟨by rcases h4 with h | h <;> omega, this.2⟩
theorem toks_one {s : ByteArray} {o : Nat} {L : List Tok} {c : Int} {f : Nat} (h : Toks s o L c f) : ∀ u ∈ L, ∀ v ∈ L, u.off = v.off → u.off < u.en → v.off < v.en → u.en = v.en := by
  induction h with
  | bad ho hx => simp
  | last ho hx hk =>
    intro u hu v hv
    simp only [List.mem_singleton] at hu hv; subst hu hv
    intros; rfl
  | more ho hx hk hT ih =>
    rename_i o t r c f
    have hge := toks_ge hT
    obtain ⟨-, -, h3, h4⟩ := next_tok ho hx
    have h5 : t.off < t.en := by rcases h4 with h | h <;> omega
    intro u hu v hv e1 e2 e3
    rcases List.mem_cons.1 hu with hu' | hu'
    · rcases List.mem_cons.1 hv with hv' | hv'
      · rw [hu', hv']
      · have := (hge v hv').1; rw [hu'] at e1; omega
    · rcases List.mem_cons.1 hv with hv' | hv'
      · have := (hge u hu').1; rw [hv'] at e1; omega
      · exact ih u hu' v hv' e1 e2 e3
/-- The tokens up to one that ends where two texts part. -/
theorem toks_prefix {s s' : ByteArray} {o : Nat} {L : List Tok} {c : Int} {f : Nat} (h : Toks s o L c f) : ∀ X t r, L = X ++ t :: r → t.k ≠ 0 → Pre s s' t.en → (∃ r' c' f', Toks s' o (X ++ t :: r') c' f') ∧ t.off < t.en := by
  induction h with
  | bad ho hx => intro X t r he; exact absurd he (by simp)
  | last ho hx hk =>
    intro X t r he htk
    exfalso
    cases X with
    | nil => rw [List.nil_append] at he; injection he with e1 e2; subst e1; exact htk hk
    | cons a X => have := congrArg List.length he; simp at this
  | more ho hx hk hT ih =>
    rename_i o u q c f
    intro X t r he htk hp
    obtain ⟨-, -, h3, h4⟩ := next_tok ho hx
    have h5 : u.off < u.en := by rcases h4 with h | h <;> omega
    cases X with
    | nil =>
      rw [List.nil_append] at he
      injection he with e1 e2
      subst e1
      have hn := (hp.next ho hx hk (Nat.le_refl _)).1
      obtain ⟨r', c', f', -, T⟩ := each_toks s' _ u.en [] rfl hp.le'
      exact ⟨⟨r', c', f', .more (by have := hp.le'; omega) hn hk T⟩, h5⟩
    | cons a X =>
      rw [List.cons_append] at he
      injection he with e1 e2
      subst e1
      obtain ⟨⟨r', c', f', T⟩, h6⟩ := ih X t r e2 htk hp
      have hge := (toks_ge hT t (by rw [e2]; simp)).1
      have hn := (hp.next ho hx hk (by omega)).1
      refine ⟨⟨r', c', f', ?_⟩, h6⟩
      rw [List.cons_append]
      exact .more (by have := hp.le'; omega) hn hk T
def cutB (s : ByteArray) (e : Nat) (m : ByteArray) : ByteArray := s.extract 0 e ++ ⟨#[10]⟩ ++ m
theorem cut_size (s : ByteArray) (e : Nat) (m : ByteArray) (h : e ≤ s.size) : (cutB s e m).size = e + 1 + m.size := by
  unfold cutB
  rw [ByteArray.size_append, ByteArray.size_append, ByteArray.size_extract]
  show min e s.size - 0 + 1 + m.size = _
  omega
theorem cut_pre (s : ByteArray) (e : Nat) (m : ByteArray) (h : e ≤ s.size) : Pre s (cutB s e m) e := by
  have hl : (s.extract 0 e).data.toList = s.data.toList.take e := by
    rw [ByteArray.data_extract, Array.toList_extract, List.extract_eq_take_drop, List.drop_zero, Nat.sub_zero]
  have hlen : (s.data.toList.take e).length = e := by rw [List.length_take]; exact Nat.min_eq_left h
  have hd : (cutB s e m).data.toList = s.data.toList.take e ++ (10 :: m.data.toList) := by
    unfold cutB
    rw [ByteArray.data_append, ByteArray.data_append, Array.toList_append, Array.toList_append, hl, List.append_assoc]
    rfl
  refine ⟨h, by rw [cut_size s e m h]; omega, fun i hi => ?_, fun b hb => ?_⟩
  · rw [hd, List.getElem?_append_left (by rw [hlen]; exact hi), List.getElem?_take, if_pos hi]
  · rw [hd, List.getElem?_append_right (by rw [hlen]; exact Nat.le_refl _), hlen, Nat.sub_self] at hb
    exact .inr (.inl (Option.some.inj hb).symm)
theorem toks_code {s : ByteArray} {o : Nat} {L : List Tok} {c : Int} {f : Nat} (h : Toks s o L c f) : c ≤ 16 := by
  induction h with
  | bad ho hx => have := next_bad hx; omega
  | last => decide
  | more _ _ _ _ ih => exact ih
theorem scan_code (s : ByteArray) : (scanX s).2.1 ≤ 16 := by
  by_cases h : s.size ≤ 65536
  · exact toks_code (scan_toks s h)
  · rw [show scanX s = ([], 1, 0) from if_pos (by omega)]
    decide
/-- The fault of a text stays when it is cut off behind the token at which it stands, whatever follows. -/
theorem behind {r : Nat} (hr : r < 4) {s : ByteArray} {x o : Int} (h : fOf r s = (x, o)) (h20 : 20 ≤ x) (h21 : x ≠ 21) :
    ∃ t ∈ (scanX s).1, (t.off : Int) = o ∧ t.off < t.en ∧ t.en ≤ s.size ∧ (∀ u ∈ (scanX s).1, (u.off : Int) = o → u.off < u.en → u.en = t.en) ∧ ∀ m : ByteArray, t.en + 1 + m.size ≤ 65536 → fOf r (cutB s t.en m) = (x, o) := by
  have hsz : s.size ≤ 65536 := by
    rcases Nat.lt_or_ge 65536 s.size with hh | hh
    · exfalso
      rw [fOf_chk r hr, show scanX s = ([], 1, 0) from if_pos hh] at h
      have e : fltU (chkR 1 ((0 : Nat) : Int) (fstR r) (fstR r) ⟨0, 0, 0⟩ []) = (1, 0) := by unfold chkR; rfl
      simp only at h
      rw [e] at h
      injection h with h1 h2
      omega
    · exact hh
  have T := scan_toks s hsz
  rw [fOf_chk r hr] at h
  cases hC : chkR (scanX s).2.1 ((scanX s).2.2 : Int) (fstR r) (fstR r) ⟨0, 0, 0⟩ (scanX s).1 with
  | ok u q => rw [hC] at h; injection h with h1 h2; omega
  | bad x' o' =>
    rw [hC] at h
    injection h with h1 h2
    subst h1 h2
    have h00 : overC (fstR r) ⟨0, 0, 0⟩ = 0 := by unfold overC; simp
    rcases chk_at _ _ _ _ _ h00 hC with ⟨e1, -⟩ | ⟨X, t, q, e1, e2, e3, e4, e5⟩
    · have := scan_code s; omega
    · have htk : t.k ≠ 0 := fun e => h21 (e4.2 e)
      have hmem : t ∈ (scanX s).1 := by rw [e1]; simp
      have hen := (toks_ge T t hmem).2
      have hlt := (toks_prefix T X t q e1 htk (cut_pre s t.en ⟨#[]⟩ hen)).2
      refine ⟨t, hmem, e2, hlt, hen, fun u hu e6 e7 => ?_, fun m hm => ?_⟩
      · exact toks_one T u hu t hmem (by omega) e7 hlt
      · obtain ⟨⟨r', c', f', T'⟩, -⟩ := toks_prefix T X t q e1 htk (cut_pre s t.en m hen)
        rw [fOf_chk r hr, scan_eq (by rw [cut_size s t.en m hen]; exact hm) T']
        simp only
        rw [e5]
        rfl
end Go.Proofs.YtfbmddgjbmapiaaDoor

namespace Go.Proofs.YtfbmddgjbmapiaaDoor
set_option linter.unusedSimpArgs false
set_option linter.unusedVariables false
open Go.RowKit

theorem lit_zero {c f : Int} {first : Tok} {R r : List Tok} {x : PLit} (h : litP c f first R = .ok x r) (h3 : x.k = 3) : x.a.ts = [] := by
  have tst : ∀ {x : PLit} {r : List Tok}, (match takeP c f [11] R with
      | .bad c o => PR.bad c o
      | .ok o1 r' => match takeP c f termKs r' with
        | .bad c o => .bad c o
        | .ok t2 r'' => .ok (⟨3, zeroAtom, o1.op, termP first, termP t2, first.off⟩ : PLit) r'') = .ok x r → x.a.ts = [] := by
    intro x r h
    cases hA : takeP c f [11] R with
    | bad a b => rw [hA] at h; cases h
    | ok o1 r' =>
      rw [hA] at h
      simp only at h
      cases hB : takeP c f termKs r' with
      | bad a b => rw [hB] at h; cases h
      | ok t2 r'' => rw [hB] at h; cases h; rfl
  unfold litP at h
  split at h
  · cases hA : takeP c f [1] R with
    | bad a b => rw [hA] at h; cases h
    | ok n r' =>
      rw [hA] at h
      simp only at h
      cases hB : atomP c f termKs n r' with
      | bad a b => rw [hB] at h; cases h
      | ok a r'' => rw [hB] at h; cases h; exact absurd h3 (by show ¬ ((2 : Int) = 3); decide)
  · simp only at h
    split at h
    · cases R with
      | nil => cases h
      | cons t r1 =>
        simp only at h
        split at h
        · exact tst h
        · cases hB : atomP c f termKs first (t :: r1) with
          | bad a b => rw [hB] at h; cases h
          | ok a r'' => rw [hB] at h; cases h; exact absurd h3 (by show ¬ ((1 : Int) = 3); decide)
    · exact tst h
theorem body_zero {c f : Int} : ∀ (n : Nat) (acc : List PLit) (R r : List Tok) (b : List PLit), (∀ x ∈ acc, x.k = 3 → x.a.ts = []) → bodyF c f n acc R = .ok b r → ∀ x ∈ b, x.k = 3 → x.a.ts = []
  | 0, acc, R, r, b, _, h => by cases h
  | n + 1, acc, R, r, b, ha, h => by
    unfold bodyF at h
    cases hA : takeP c f [1, 10, 2, 3, 4] R with
    | bad x o => rw [hA] at h; cases h
    | ok t r1 =>
      rw [hA] at h
      simp only at h
      split at h
      · cases h
      · cases hB : litP c f t r1 with
        | bad x o => rw [hB] at h; cases h
        | ok x r2 =>
          rw [hB] at h
          simp only at h
          have hacc : ∀ y ∈ acc ++ [x], y.k = 3 → y.a.ts = [] := fun y hy => by
            rcases List.mem_append.1 hy with hy | hy
            · exact ha y hy
            · simp only [List.mem_singleton] at hy; subst hy; exact lit_zero hB
          cases hC : takeP c f [7, 8] r2 with
          | bad x o => rw [hC] at h; cases h
          | ok s r3 =>
            rw [hC] at h
            simp only at h
            split at h
            · injection h with e1 e2; subst e1; exact hacc
            · exact body_zero n _ _ _ _ hacc h
theorem prog_zero {c f : Int} : ∀ (n : Nat) (acc : List PCls) (R r : List Tok) (out : List PCls), (∀ k ∈ acc, ∀ x ∈ k.b, x.k = 3 → x.a.ts = []) → progF c f n acc R = .ok out r → ∀ k ∈ out, ∀ x ∈ k.b, x.k = 3 → x.a.ts = []
  | 0, acc, R, r, out, _, h => by cases h
  | n + 1, acc, R, r, out, ha, h => by
    unfold progF at h
    cases hA : takeP c f [1, 0] R with
    | bad x o => rw [hA] at h; cases h
    | ok t r1 =>
      rw [hA] at h
      simp only at h
      split at h
      · injection h with e1 e2; subst e1; exact ha
      · split at h
        · cases h
        · cases hB : clauseP c f t r1 with
          | bad x o => rw [hB] at h; cases h
          | ok k r2 =>
            rw [hB] at h
            simp only at h
            refine prog_zero n _ _ _ _ (fun y hy => ?_) h
            rcases List.mem_append.1 hy with hy | hy
            · exact ha y hy
            · simp only [List.mem_singleton] at hy
              subst hy
              unfold clauseP at hB
              cases hC : atomP c f termKs t r1 with
              | bad x o => rw [hC] at hB; cases hB
              | ok a r3 =>
                rw [hC] at hB
                simp only at hB
                cases hD : takeP c f [8, 9] r3 with
                | bad x o => rw [hD] at hB; cases hB
                | ok s r4 =>
                  rw [hD] at hB
                  simp only at hB
                  split at hB
                  · cases hE : bodyP c f r4 with
                    | bad x o => rw [hE] at hB; cases hB
                    | ok b r5 =>
                      rw [hE] at hB
                      cases hB
                      exact body_zero _ _ _ _ _ (by simp) hE
                  · cases hB
                    exact fun x hx => absurd hx (by simp)
/-- Offsets can go up where the other list's are theirs and as much more. -/
theorem sh_by {d : Nat} {w : World} {F : Nat → Prop} {v : Value} {ls ms : List Lix} {b : List PLit} (hl : ls.map Lix.pur = b) (hm : ms.map Lix.pur = b.map (shLi d)) (h : Lst elLix w F v ms) (hz : ∀ x ∈ b, x.k = 3 → x.a.ts = []) : ∀ x ∈ ls, ShOk d x := fun x hx => by
  obtain ⟨i, hi⟩ := List.getElem?_of_mem hx
  have hlen : ls.length = ms.length := by have h1 := congrArg List.length hl; have h2 := congrArg List.length hm; simp only [List.length_map] at h1 h2; omega
  obtain ⟨y, hy⟩ : ∃ y, ms[i]? = some y := ⟨_, List.getElem?_eq_getElem (by have := (List.getElem?_eq_some_iff.1 hi).1; omega)⟩
  have e : Lix.pur y = shLi d (Lix.pur x) := by
    have e1 : (ms.map Lix.pur)[i]? = ((ls.map Lix.pur).map (shLi d))[i]? := by rw [hm, hl]
    rw [List.getElem?_map, hy, List.getElem?_map, List.getElem?_map, hi] at e1
    simpa using e1
  have hok := h.ok (List.mem_of_getElem? hy)
  have hzx : x.k = 3 → x.a.ts = [] := fun h3 => hz (Lix.pur x) (by rw [← hl]; exact List.mem_map_of_mem hx) h3
  obtain ⟨h1, ⟨h2, h3, h4⟩, h5, h6, h7, h8⟩ := hok
  by_cases hk : x.k = 3
  · unfold shLi at e
    rw [if_pos (show (Lix.pur x).k = 3 from hk)] at e
    simp only [Lix.pur, PLit.mk.injEq] at e
    obtain ⟨e1, e2, e3, e4, e5, e6⟩ := e
    refine ⟨by rw [e6] at h8; exact h8, fun _ => ⟨hzx hk, ?_, ?_⟩, fun h => absurd hk h⟩
    · have := h6.2; rw [e4] at this; exact this
    · have := h7.2; rw [e5] at this; exact this
  · unfold shLi at e
    rw [if_neg (show ¬ (Lix.pur x).k = 3 from hk)] at e
    simp only [Lix.pur, PLit.mk.injEq, Atx.pur, shAt, PAtom.mk.injEq] at e
    obtain ⟨e1, ⟨e2, e3, e4⟩, e5, e6, e7, e8⟩ := e
    refine ⟨by rw [e8] at h8; exact h8, fun h => absurd h hk, fun _ => ⟨by rw [e4] at h3; exact h3, fun t ht => ?_⟩⟩
    have := h4.ok (x := shTrm d t) (by rw [e3]; exact List.mem_map_of_mem ht)
    exact this.2
theorem fn_zero (w : World) : (binOp .neq 27 (.agg #[.int .i64 0, .int .i64 0, .int .i64 0]) (.agg #[.int .i64 0, .int .i64 0, .int .i64 0])).run Tryd.prog w = .ok (.bool false) w := by
  have h1 := run_equalIn_struct (P := Tryd.prog) w 9999 27 #[.int .i64 0, .int .i64 0, .int .i64 0] #[.int .i64 0, .int .i64 0, .int .i64 0] (by kernel_rfl) (by kernel_rfl)
  simp only [binOp]
  simp only [Op.equal, Op.maxDepth, Sem.run_bind]
  go_simp
theorem fn_bad (x o : Int) (h : x ≠ 0) (w : World) : (binOp .neq 27 (.agg #[.int .i64 x, .int .i64 0, .int .i64 o]) (.agg #[.int .i64 0, .int .i64 0, .int .i64 0])).run Tryd.prog w = .ok (.bool true) w := by
  have hc : (x == 0) = false := by simpa using h
  have h1 := run_equalIn_struct (P := Tryd.prog) w 9999 27 #[.int .i64 x, .int .i64 0, .int .i64 o] #[.int .i64 0, .int .i64 0, .int .i64 0] (by kernel_rfl) (by kernel_rfl)
  simp only [binOp]
  simp only [Op.equal, Op.maxDepth, Sem.run_bind]
  go_simp
theorem fn_same (x o : Int) (w : World) : (binOp .neq 27 (.agg #[.int .i64 x, .int .i64 0, .int .i64 o]) (.agg #[.int .i64 x, .int .i64 0, .int .i64 o])).run Tryd.prog w = .ok (.bool false) w := by
  have h1 := run_equalIn_struct (P := Tryd.prog) w 9999 27 #[.int .i64 x, .int .i64 0, .int .i64 o] #[.int .i64 x, .int .i64 0, .int .i64 o] (by kernel_rfl) (by kernel_rfl)
  simp only [binOp]
  simp only [Op.equal, Op.maxDepth, Sem.run_bind]
  go_simp
theorem fq_same (x o : Int) (w : World) : (binOp .eql 27 (.agg #[.int .i64 x, .int .i64 0, .int .i64 o]) (.agg #[.int .i64 x, .int .i64 0, .int .i64 o])).run Tryd.prog w = .ok (.bool true) w := by
  have h1 := run_equalIn_struct (P := Tryd.prog) w 9999 27 #[.int .i64 x, .int .i64 0, .int .i64 o] #[.int .i64 x, .int .i64 0, .int .i64 o] (by kernel_rfl) (by kernel_rfl)
  simp only [binOp]
  simp only [Op.equal, Op.maxDepth, Sem.run_bind]
  go_simp
theorem toks_f {s : ByteArray} {o : Nat} {L : List Tok} {c : Int} {f : Nat} (h : Toks s o L c f) : f ≤ s.size := by
  induction h with
  | bad ho hx =>
    rename_i o c f
    have h1 := next_bad hx
    have h2 := gapW_le s o ho
    rcases h1 with ⟨_, _, h⟩ | ⟨_, _, _, _, h, _⟩ <;> omega
  | last ho hx hk => exact Nat.zero_le _
  | more ho hx hk hT ih => exact ih
theorem toks_le {s : ByteArray} {o : Nat} {L : List Tok} {c : Int} {f : Nat} (h : Toks s o L c f) : ∀ u ∈ L, u.off ≤ s.size := by
  induction h with
  | bad ho hx => simp
  | last ho hx hk =>
    intro u hu
    simp only [List.mem_singleton] at hu; subst hu
    obtain ⟨-, -, h3, h4⟩ := next_tok ho hx
    rcases h4 with h | h <;> omega
  | more ho hx hk _ ih =>
    intro u hu
    obtain ⟨-, -, h3, h4⟩ := next_tok ho hx
    rcases List.mem_cons.1 hu with rfl | hu
    · rcases h4 with h | h <;> omega
    · exact ih u hu
theorem chk_off {ec eo first : Int} : ∀ (L : List Tok) (s : Int) (c : Cnt) (x o : Int), chkR ec eo first s c L = .bad x o → o = eo ∨ ∃ t ∈ L, (t.off : Int) = o
  | [], s, c, x, o, h => by
    unfold chkR at h
    split at h
    · cases h
    · cases h; exact .inl rfl
  | t :: r, s, c, x, o, h => by
    unfold chkR at h
    split at h
    · injection h with e1 e2
      exact .inr ⟨t, by simp, e2⟩
    · split at h
      · injection h with e1 e2
        exact .inr ⟨t, by simp, e2⟩
      · rcases chk_off r _ _ x o h with h1 | ⟨u, hu, h1⟩
        · exact .inl h1
        · exact .inr ⟨u, List.mem_cons_of_mem _ hu, h1⟩
section
variable {P : Program} {α : Type}
theorem wpList_pushA (E : El α) {w0 w : World} {ops : Array Oper} {rest : List Oper} {o : Oper} {a : Act} {Q : Exit → Act → World → Prop} (hgd : o.guard = none) (s x : Operand) (t : TypeId)
    (ho : o.op = .call { callee := .builtin .append, args := #[s, x], argTypes := #[t, t] })
    (base : Nat) (e : TypeId) (i : TypeInfo) (z : Value) (bytes : Nat) (ht : P.underlying t = some (.slice e)) (hi : P.info? e = some i) (hz : i.zero = some z)
    (hsize : i.size = E.size) (hby : i.bytes = bytes) (hzs : z.cells.size = E.size) (hbytes : bytes ≤ 4096)
    (v : Value) (l : List α) (n : Nat) (hn : l.length = n) (hs : a.eval s = v) (hg : Grow E e base w v l)
    (y : α) (ad c : Nat) (hx : a.eval x = .slice (some ⟨ad, 0, none⟩) 1 c) (hnew : ∀ j u, (E.cells y)[j]? = some u → w.cell? ⟨ad, j, none⟩ = some u)
    (hok : E.ok w (fun b => base ≤ b ∧ v.ownBlock ≠ some b) y) (hl : n + 1 < 1073741824) (hB : Below base w0 w) (hb : base ≤ w.heap.size)
    (h : ∀ g cap w', Hid (Grow E e base w' (.slice (some ⟨g, 0, none⟩) (n + 1) cap) (l ++ [y])) → Hid (Below base w0 w') → Hid (w.grownBy w' v.ownBlock) → Hid (v.ownBlock = some g ∨ g = w.heap.size) → wpList P ops Q rest (a.put o.dst (.slice (some ⟨g, 0, none⟩) (n + 1) cap)) w') : wpList P ops Q (o :: rest) a w := by
  subst hn
  refine wpList_append_lies w hgd s x t ho base e i z E.size bytes ht hi hz hsize hby hzs E.pos v l.length (l.flatMap E.cells) hs hg.1 ⟨ad, 0, none⟩ 1 c (E.cells y) hx (by rw [E.len, Nat.one_mul]) (fun j u hu => by rw [addr_add, Nat.zero_add]; exact hnew j u hu) (E.one hok) (by decide) (by unfold maxLen; omega) ?_ hb w.heap.size rfl ?_
  · have := Nat.mul_le_mul (Nat.le_of_lt hl) hbytes
    omega
  · intro g cap w' ho' hgr hat hlt
    exact h g cap w' (hg.push hok rfl rfl ho' hgr hat) (below_grown hB hg.1 hgr hb) hgr hat

theorem step_pushA (E : El α) {w0 w : World} {ops : Array Oper} {o : Oper} {a : Act} {K : Act → World → Prop} {Q : Exit → Act → World → Prop} {Z : Prop} (hgd : o.guard = none) (s x : Operand) (t : TypeId)
    (ho : o.op = .call { callee := .builtin .append, args := #[s, x], argTypes := #[t, t] })
    (base : Nat) (e : TypeId) (i : TypeInfo) (z : Value) (bytes : Nat) (ht : P.underlying t = some (.slice e)) (hi : P.info? e = some i) (hz : i.zero = some z)
    (hsize : i.size = E.size) (hby : i.bytes = bytes) (hzs : z.cells.size = E.size) (hbytes : bytes ≤ 4096)
    (v : Value) (l : List α) (n : Nat) (hn : l.length = n) (hs : a.eval s = v) (hg : Grow E e base w v l)
    (y : α) (ad c : Nat) (hx : a.eval x = .slice (some ⟨ad, 0, none⟩) 1 c) (hnew : ∀ j u, (E.cells y)[j]? = some u → w.cell? ⟨ad, j, none⟩ = some u)
    (hok : E.ok w (fun b => base ≤ b ∧ v.ownBlock ≠ some b) y) (hl : n + 1 < 1073741824) (hB : Below base w0 w) (hb : base ≤ w.heap.size)
    (h : ∀ g cap w', Hid (Grow E e base w' (.slice (some ⟨g, 0, none⟩) (n + 1) cap) (l ++ [y])) → Hid (Below base w0 w') → Hid (w.grownBy w' v.ownBlock) → Hid (v.ownBlock = some g ∨ g = w.heap.size) → K (a.put o.dst (.slice (some ⟨g, 0, none⟩) (n + 1) cap)) w') :
    if Region.wanted o (yielded ops a.tmps) = true then Oper.wp P o a w K Q else Z := by
  subst hn
  refine step_append_lies w hgd s x t ho base e i z E.size bytes ht hi hz hsize hby hzs E.pos v l.length (l.flatMap E.cells) hs hg.1 ⟨ad, 0, none⟩ 1 c (E.cells y) hx (by rw [E.len, Nat.one_mul]) (fun j u hu => by rw [addr_add, Nat.zero_add]; exact hnew j u hu) (E.one hok) (by decide) (by unfold maxLen; omega) ?_ hb w.heap.size rfl ?_
  · have := Nat.mul_le_mul (Nat.le_of_lt hl) hbytes
    omega
  · intro g cap w' ho' hgr hat hlt
    exact h g cap w' (hg.push hok rfl rfl ho' hgr hat) (below_grown hB hg.1 hgr hb) hgr hat
end
/-- A list that began as another's and grows: all but the block that it began in is as it was. -/
structure Wnt {α : Type} (E : El α) (e : TypeId) (base : Nat) (Y wl : World) (B : Option Nat) (v : Value) (ms : List α) : Prop where
  gr : Grow E e base wl v ms
  on : Only (fun k => some k = B) Y wl
  ow : v.ownBlock = B ∨ ∀ k, v.ownBlock = some k → Y.heap.size ≤ k
theorem Wnt.kept {α : Type} {E : El α} {e : TypeId} {base : Nat} {Y wl w' : World} {B : Option Nat} {v : Value} {ms : List α} (h : Wnt E e base Y wl B v ms) (hb : Below wl.heap.size wl w') : Wnt E e base Y w' B v ms :=
  ⟨h.gr.kept hb, h.on.trans (Only.of_below hb _), h.ow⟩
theorem Wnt.push {α : Type} {E : El α} {e : TypeId} {base : Nat} {Y wl w' : World} {B : Option Nat} {v : Value} {ms ms' : List α} (h : Wnt E e base Y wl B v ms) {g n cap : Nat} (hG : Grow E e base w' (.slice (some ⟨g, 0, none⟩) n cap) ms') (hg : wl.grownBy w' v.ownBlock) (hat : v.ownBlock = some g ∨ g = wl.heap.size) : Wnt E e base Y w' B (.slice (some ⟨g, 0, none⟩) n cap) ms' := by
  refine ⟨hG, ⟨hg.os.trans h.on.os, hg.tape.trans h.on.tape, hg.output.trans h.on.output, Nat.le_trans h.on.size hg.size, fun k hk hn => (hg.block k (Nat.lt_of_lt_of_le hk h.on.size) fun e => ?_).trans (h.on.block k hk hn)⟩, ?_⟩
  · rcases h.ow with h2 | h2
    · exact hn (e.trans h2)
    · have := h2 k e.symm; omega
  · rcases hat with h1 | h1
    · rcases h.ow with h2 | h2
      · exact .inl (by rw [← h2, h1]; rfl)
      · exact .inr fun k hk => h2 k (by rw [h1]; exact hk)
    · exact .inr fun k hk => by
        have : some g = some k := hk
        injection this with this
        have := h.on.size
        omega
def ProgU (b : Nat) (w' : World) (s : ByteArray) (va : Option Addr) (n c : Nat) (x o : Int) : Prop :=
  (∃ P r cs, progP (scanX s).2.1 ((scanX s).2.2 : Int) (scanX s).1 = .ok P r ∧ x = 0 ∧ o = 0 ∧ cs.map Clx.pur = P ∧ cs.length = n ∧ n ≤ 512 ∧ Grow elClx 35 b w' (.slice va n c) cs) ∨
  (progP (scanX s).2.1 ((scanX s).2.2 : Int) (scanX s).1 = .bad x o ∧ x ≠ 0 ∧ va = none ∧ n = 0 ∧ c = 0)
theorem readProg_uni {w w' : World} {s : ByteArray} {e : Ending} (h : ReadProg w s e w') : ∃ (va : Option Addr) (n c : Nat) (x o : Int), e = .returned (.tuple #[.agg #[.slice va n c], .agg #[.int .i64 x, .int .i64 0, .int .i64 o]]) ∧ Hid (ProgU w.heap.size w' s va n c x o) ∧ Below w.heap.size w w' := by
  cases hr : progP (scanX s).2.1 ((scanX s).2.2 : Int) (scanX s).1 with
  | bad x o =>
    obtain ⟨rfl, hb⟩ := readProg_bad h hr
    exact ⟨none, 0, 0, x, o, rfl, .inr ⟨hr, prog_ne _ _ _ (by omega) (scan_ne s) hr, rfl, rfl, rfl⟩, hb⟩
  | ok P r =>
    obtain ⟨v, cs, rfl, h1, h2, h3, hb⟩ := readProg_own h hr
    obtain ⟨va, vc, rfl, -⟩ := h3.shape
    exact ⟨va, cs.length, vc, 0, 0, rfl, .inl ⟨P, r, cs, hr, rfl, rfl, h1, rfl, h2, h3⟩, hb⟩
theorem ProgU.above {b : Nat} {W W' : World} {s : ByteArray} {va : Option Addr} {n c : Nat} {x o : Int} (h : ProgU b W s va n c x o) (hs : ∀ k, b ≤ k → k < W.heap.size → W'.heap[k]? = W.heap[k]?) : ProgU b W' s va n c x o := by
  rcases h with ⟨P, r, cs, h1, h2, h3, h4, h5, h6, h7⟩ | h
  · exact .inl ⟨P, r, cs, h1, h2, h3, h4, h5, h6, h7.above hs⟩
  · exact .inr h
theorem prog_off {s : ByteArray} (hs : s.size ≤ 65536) {x o : Int} (h : progP (scanX s).2.1 ((scanX s).2.2 : Int) (scanX s).1 = .bad x o) : 0 ≤ o ∧ o ≤ 65536 := by
  have h1 := (prog_meet (scan_wf s)).1 x o h
  have T := scan_toks s hs
  rcases chk_off _ _ _ _ _ h1 with h2 | ⟨t, ht, h2⟩
  · have := toks_f T; omega
  · have h3 := toks_ge T t ht
    have h4 := toks_le T t ht
    omega
def FactsU (b : Nat) (w' : World) (s : ByteArray) (va : Option Addr) (n c : Nat) (x o : Int) : Prop :=
  (∃ P r cs, factsP (scanX s).2.1 ((scanX s).2.2 : Int) (scanX s).1 = .ok P r ∧ x = 0 ∧ o = 0 ∧ cs.map Atx.pur = P ∧ cs.length = n ∧ n ≤ 4096 ∧ Grow elAtx 32 b w' (.slice va n c) cs) ∨
  (factsP (scanX s).2.1 ((scanX s).2.2 : Int) (scanX s).1 = .bad x o ∧ x ≠ 0 ∧ va = none ∧ n = 0 ∧ c = 0)
theorem readFacts_uni {w w' : World} {s : ByteArray} {e : Ending} (h : ReadFacts w s e w') : ∃ (va : Option Addr) (n c : Nat) (x o : Int), e = .returned (.tuple #[.slice va n c, .agg #[.int .i64 x, .int .i64 0, .int .i64 o]]) ∧ Hid (FactsU w.heap.size w' s va n c x o) ∧ Below w.heap.size w w' := by
  cases hr : factsP (scanX s).2.1 ((scanX s).2.2 : Int) (scanX s).1 with
  | bad x o =>
    obtain ⟨rfl, hb⟩ := readFacts_bad h hr
    exact ⟨none, 0, 0, x, o, rfl, .inr ⟨hr, facts_ne _ _ _ (by omega) (scan_ne s) hr, rfl, rfl, rfl⟩, hb⟩
  | ok P r =>
    obtain ⟨v, cs, rfl, h1, h2, h3, hb⟩ := readFacts_own h hr
    obtain ⟨va, vc, rfl, -⟩ := h3.shape
    exact ⟨va, cs.length, vc, 0, 0, rfl, .inl ⟨P, r, cs, hr, rfl, rfl, h1, rfl, h2, h3⟩, hb⟩
theorem FactsU.above {b : Nat} {W W' : World} {s : ByteArray} {va : Option Addr} {n c : Nat} {x o : Int} (h : FactsU b W s va n c x o) (hs : ∀ k, b ≤ k → k < W.heap.size → W'.heap[k]? = W.heap[k]?) : FactsU b W' s va n c x o := by
  rcases h with ⟨P, r, cs, h1, h2, h3, h4, h5, h6, h7⟩ | h
  · exact .inl ⟨P, r, cs, h1, h2, h3, h4, h5, h6, h7.above hs⟩
  · exact .inr h
theorem facts_off {s : ByteArray} (hs : s.size ≤ 65536) {x o : Int} (h : factsP (scanX s).2.1 ((scanX s).2.2 : Int) (scanX s).1 = .bad x o) : 0 ≤ o ∧ o ≤ 65536 := by
  have h1 := (facts_meet (scan_wf s)).1 x o h
  have T := scan_toks s hs
  rcases chk_off _ _ _ _ _ h1 with h2 | ⟨t, ht, h2⟩
  · have := toks_f T; omega
  · have h3 := toks_ge T t ht
    have h4 := toks_le T t ht
    omega
end Go.Proofs.YtfbmddgjbmapiaaDoor
