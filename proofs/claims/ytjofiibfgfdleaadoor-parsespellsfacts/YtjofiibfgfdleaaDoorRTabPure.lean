/- The document's table of states over a list of tokens, and the cutting of tokens at a kind that stands outside all brackets, as plain functions. -/
import Derived.Test.YtjofiibfgfdleaaDoorParsePure
namespace Go.Proofs.YtjofiibfgfdleaaDoor
set_option linter.unusedSimpArgs false
set_option linter.unusedVariables false
open Go.RowKit

def isTermB (k : Int) : Bool := (k == 1) || (k == 2) || (k == 3) || (k == 4)
def isValueB (k : Int) : Bool := (k == 1) || (k == 3) || (k == 4)
def moveHeadP (s k : Int) : Int :=
  if s = 0 ∧ k = 1 then 1
  else if s = 0 ∧ k = 0 then 26
  else if (s = 1 ∧ k = 5) ∨ (s = 3 ∧ k = 7) then 2
  else if s = 2 ∧ isTermB k = true then 3
  else if s = 3 ∧ k = 6 then 4
  else if (s = 1 ∨ s = 4) ∧ k = 8 then 0
  else if (s = 1 ∨ s = 4) ∧ k = 9 then 5
  else -1
def moveBodyP (s k behind : Int) : Int :=
  if s = 5 ∧ k = 1 then 6
  else if s = 5 ∧ k = 10 then 7
  else if s = 5 ∧ isTermB k = true then 8
  else if (s = 6 ∨ s = 8) ∧ k = 11 then 11
  else if s = 7 ∧ k = 1 then 12
  else if ((s = 6 ∨ s = 12) ∧ k = 5) ∨ (s = 10 ∧ k = 7) then 9
  else if s = 9 ∧ isTermB k = true then 10
  else if s = 10 ∧ k = 6 then 13
  else if s = 11 ∧ isTermB k = true then 14
  else if s = 6 ∨ s = 12 ∨ s = 13 ∨ s = 14 then (if k = 7 then 5 else if k = 8 then behind else -1)
  else if s = 25 ∧ k = 0 then 26
  else -1
def moveFactP (s k : Int) : Int :=
  if s = 15 ∧ k = 1 then 16
  else if s = 15 ∧ k = 0 then 26
  else if s = 20 ∧ k = 1 then 21
  else if (s = 16 ∧ k = 5) ∨ (s = 18 ∧ k = 7) then 17
  else if (s = 21 ∧ k = 5) ∨ (s = 23 ∧ k = 7) then 22
  else if s = 17 ∧ isValueB k = true then 18
  else if s = 22 ∧ isValueB k = true then 23
  else if s = 18 ∧ k = 6 then 19
  else if s = 23 ∧ k = 6 then 24
  else if (s = 16 ∨ s = 19) ∧ k = 8 then 15
  else if (s = 21 ∨ s = 24) ∧ k = 0 then 26
  else -1
def bhP (first : Int) : Int := if first = 5 then 25 else 0
def moveP (first s k : Int) : Int :=
  if s ≤ 4 then moveHeadP s k
  else if 15 ≤ s ∧ s ≤ 24 then moveFactP s k
  else moveBodyP s k (bhP first)

structure Cnt where
  c : Int
  l : Int
  t : Int
def takeC (c : Cnt) (s k : Int) : Cnt :=
  let c1 := if (s = 0 ∧ k = 1) ∨ (s = 15 ∧ k = 1) then (⟨c.c + 1, c.l, c.t⟩ : Cnt) else if s = 5 then ⟨c.c, c.l + 1, c.t⟩ else if s = 2 ∨ s = 9 ∨ s = 17 ∨ s = 22 then ⟨c.c, c.l, c.t + 1⟩ else c
  let c2 := if k = 5 then (⟨c1.c, c1.l, 0⟩ : Cnt) else c1
  if k = 9 then ⟨c2.c, 0, c2.t⟩ else c2
def overC (first : Int) (c : Cnt) : Int :=
  if (first = 0 ∧ 512 < c.c) ∨ (first = 15 ∧ 4096 < c.c) then 24 else if 16 < c.l then 23 else if 8 < c.t then 22 else 0
def Lim (first : Int) (c : Cnt) : Prop := (first = 0 → c.c ≤ 512) ∧ (first = 15 → c.c ≤ 4096) ∧ c.l ≤ 16 ∧ c.t ≤ 8
theorem no_cls {first : Int} {c : Cnt} (h1 : first = 0 → c.c ≤ 512) (h2 : first = 15 → c.c ≤ 4096) : ¬ ((first = 0 ∧ 512 < c.c) ∨ (first = 15 ∧ 4096 < c.c)) := by
  rintro (⟨a, b⟩ | ⟨a, b⟩)
  · have := h1 a; omega
  · have := h2 a; omega
theorem over_zero {first : Int} {c : Cnt} (h : Lim first c) : overC first c = 0 := by
  obtain ⟨h1, h2, h3, h4⟩ := h
  unfold overC
  rw [if_neg (no_cls h1 h2), if_neg (by omega), if_neg (by omega)]

/-- The document's check: the state, the counts, what is left. -/
def chkR (ec eo first : Int) : Int → Cnt → List Tok → PR Unit
  | _, _, [] => if ec = 0 then .ok () [] else .bad ec eo
  | s, c, t :: r =>
    if moveP first s t.k = -1 then .bad (misK t.k) t.off
    else if overC first (takeC c s t.k) ≠ 0 then .bad (overC first (takeC c s t.k)) t.off
    else chkR ec eo first (moveP first s t.k) (takeC c s t.k) r

/-- The end is the last token, and there just if there is no fault. -/
def Wf (ec : Int) : List Tok → Prop
  | [] => ec ≠ 0
  | t :: r => if t.k = 0 then r = [] ∧ ec = 0 else Wf ec r
theorem Wf.tail {ec : Int} {t : Tok} {r : List Tok} (h : Wf ec (t :: r)) (hk : t.k ≠ 0) : Wf ec r := by unfold Wf at h; rw [if_neg hk] at h; exact h
theorem Wf.last {ec : Int} {t : Tok} {r : List Tok} (h : Wf ec (t :: r)) (hk : t.k = 0) : r = [] ∧ ec = 0 := by unfold Wf at h; rw [if_pos hk] at h; exact h

theorem chk_nil {ec eo first s : Int} {c : Cnt} (h : Wf ec []) : chkR ec eo first s c [] = .bad ec eo := by
  unfold chkR; exact if_neg h
theorem chk_mis {ec eo first s : Int} {c : Cnt} {t : Tok} {r : List Tok} (h : moveP first s t.k = -1) : chkR ec eo first s c (t :: r) = .bad (misK t.k) t.off := by
  unfold chkR; exact if_pos h
theorem chk_go {ec eo first s n : Int} {c c' : Cnt} {t : Tok} {r : List Tok} (h : moveP first s t.k = n) (hn : n ≠ -1) (hc : takeC c s t.k = c') (hl : Lim first c') : chkR ec eo first s c (t :: r) = chkR ec eo first n c' r := by
  rw [chkR, h, if_neg hn, hc, over_zero hl, if_neg (by simp)]
theorem chk_lim {ec eo first s n x : Int} {c c' : Cnt} {t : Tok} {r : List Tok} (h : moveP first s t.k = n) (hn : n ≠ -1) (hc : takeC c s t.k = c') (hl : overC first c' = x) (hx : x ≠ 0) : chkR ec eo first s c (t :: r) = .bad x t.off := by
  rw [chkR, h, if_neg hn, hc, hl, if_pos hx]

/-- cut: the tokens between those of the kind k that stand outside all brackets. -/
def depthP (d : Int) (t : Tok) : Int := (if t.k = 5 then d + 1 else d) - (if t.k = 6 then 1 else 0)
def cutF (k : Int) : Int → List Tok → List (List Tok) → List Tok → List (List Tok)
  | _, now, out, [] => out ++ [now]
  | d, now, out, t :: r => if t.k = k ∧ depthP d t = 0 then cutF k (depthP d t) [] (out ++ [now]) r else cutF k (depthP d t) (now ++ [t]) out r
def Closed (k : Int) (P : List Tok) : Prop := ∀ now out L, cutF k 0 now out (P ++ L) = cutF k 0 (now ++ P) out L
def Inner (k : Int) (P : List Tok) : Prop := ∀ now out L, cutF k 1 now out (P ++ L) = cutF k 0 (now ++ P) out L
theorem cut_out (k : Int) : ∀ (L : List Tok) (d : Int) (now : List Tok) (out : List (List Tok)), cutF k d now out L = out ++ cutF k d now [] L
  | [], d, now, out => by simp [cutF]
  | t :: r, d, now, out => by
    unfold cutF
    by_cases h : t.k = k ∧ depthP d t = 0
    · rw [if_pos h, if_pos h, cut_out k r _ _ (out ++ [now]), cut_out k r _ _ ([] ++ [now])]; simp
    · rw [if_neg h, if_neg h, cut_out k r _ _ out]
theorem Closed.nil (k : Int) : Closed k [] := fun now out L => by simp
theorem Closed.app {k : Int} {P Q : List Tok} (h1 : Closed k P) (h2 : Closed k Q) : Closed k (P ++ Q) := fun now out L => by
  rw [List.append_assoc, h1, h2, List.append_assoc]
theorem Closed.one {k : Int} {t : Tok} (h5 : t.k ≠ 5) (h6 : t.k ≠ 6) (hk : t.k ≠ k) : Closed k [t] := fun now out L => by
  rw [List.cons_append, List.nil_append, cutF, if_neg (fun h => hk h.1)]
  simp [depthP, h5, h6]
theorem Closed.cons {k : Int} {t : Tok} {P : List Tok} (h5 : t.k ≠ 5) (h6 : t.k ≠ 6) (hk : t.k ≠ k) (h : Closed k P) : Closed k (t :: P) := (Closed.one h5 h6 hk).app h
theorem cut_sep {k : Int} {P : List Tok} {t : Tok} (h : Closed k P) (ht : t.k = k) (h5 : k ≠ 5) (h6 : k ≠ 6) (out : List (List Tok)) (L : List Tok) : cutF k 0 [] out (P ++ t :: L) = cutF k 0 [] (out ++ [P]) L := by
  have hd : depthP 0 t = 0 := by simp [depthP, ht, h5, h6]
  rw [h, List.nil_append, cutF, if_pos ⟨ht, hd⟩, hd]
theorem cut_whole {k : Int} {P : List Tok} (h : Closed k P) : cutF k 0 [] [] P = [P] := by
  have := h [] [] []
  rw [List.append_nil] at this
  rw [this]; simp [cutF]

def atomR : List Tok → PAtom
  | [] => zeroAtom
  | n :: r => ⟨n.t, (r.filter fun t => isTermB t.k).map termP, n.off⟩
def litR : List Tok → PLit
  | [] => ⟨0, zeroAtom, 0, zeroTrm, zeroTrm, 0⟩
  | t :: r => if t.k = 10 then ⟨2, atomR r, 0, zeroTrm, zeroTrm, t.off⟩
    else match r with
      | [o, u] => if o.k = 11 then ⟨3, zeroAtom, o.op, termP t, termP u, t.off⟩ else ⟨1, atomR (t :: r), 0, zeroTrm, zeroTrm, t.off⟩
      | _ => ⟨1, atomR (t :: r), 0, zeroTrm, zeroTrm, t.off⟩
def LitOk : List Tok → Prop
  | [] => False
  | t :: r => t.k = 10 → r ≠ []
def bodyR (P : List Tok) : List PLit := (cutF 7 0 [] [] P).map litR
def BodyOk (P : List Tok) : Prop := ∀ L ∈ cutF 7 0 [] [] P, LitOk L
def clsR (P : List Tok) : PCls :=
  ⟨atomR ((cutF 9 0 [] [] P).getD 0 []), if (cutF 9 0 [] [] P).length = 2 then bodyR ((cutF 9 0 [] [] P).getD 1 []) else []⟩
def ClsOk (P : List Tok) : Prop := (cutF 9 0 [] [] P).getD 0 [] ≠ [] ∧ ((cutF 9 0 [] [] P).length = 2 → BodyOk ((cutF 9 0 [] [] P).getD 1 []))

/-- The three states of the terms of an atom. -/
structure ArgSt (first sT sM sE : Int) (ks : List Int) : Prop where
  mT : ∀ k, k ∈ ks → moveP first sT k = sM
  mT' : ∀ k, k ∉ ks → moveP first sT k = -1
  mM7 : moveP first sM 7 = sT
  mM6 : moveP first sM 6 = sE
  mM' : ∀ k, k ≠ 7 → k ≠ 6 → moveP first sM k = -1
  tT : ∀ c k, k ∈ ks → takeC c sT k = ⟨c.c, c.l, c.t + 1⟩
  tM : ∀ c k, k = 7 ∨ k = 6 → takeC c sM k = c
  n1 : sT ≠ -1
  n2 : sM ≠ -1
  n3 : sE ≠ -1
  kk : ∀ k, k ∈ ks → k = 1 ∨ k = 2 ∨ k = 3 ∨ k = 4

theorem args_nil (ec eo : Int) (ks : List Int) (acc : List Trm) : argsP ec eo ks acc [] = .bad ec eo := rfl
theorem args_mis {ec eo : Int} {ks : List Int} {acc : List Trm} {t : Tok} {r : List Tok} (h : t.k ∉ ks) : argsP ec eo ks acc (t :: r) = .bad (misK t.k) t.off := by
  unfold argsP; rw [if_neg h]
theorem args_lim8 {ec eo : Int} {ks : List Int} {acc : List Trm} {t : Tok} {r : List Tok} (h : t.k ∈ ks) (h8 : acc.length = 8) : argsP ec eo ks acc (t :: r) = .bad 22 t.off := by
  unfold argsP; rw [if_pos h, if_pos h8]
theorem args_two {ec eo : Int} {ks : List Int} {acc : List Trm} {t s : Tok} {r : List Tok} (h : t.k ∈ ks) (h8 : acc.length ≠ 8) : argsP ec eo ks acc (t :: s :: r) = if s.k = 7 then argsP ec eo ks (acc ++ [termP t]) r else if s.k = 6 then .ok (acc ++ [termP t]) r else .bad (misK s.k) s.off := by
  rw [argsP, if_pos h, if_neg h8]
theorem args_one {ec eo : Int} {ks : List Int} {acc : List Trm} {t : Tok} (h : t.k ∈ ks) (h8 : acc.length ≠ 8) : argsP ec eo ks acc [t] = .bad ec eo := by
  rw [argsP, if_pos h, if_neg h8]

theorem args_sim {ec eo first sT sM sE : Int} {ks : List Int} (H : ArgSt first sT sM sE ks) : ∀ (R : List Tok) (acc : List Trm) (c : Cnt), c.t = acc.length → Lim first c → Wf ec R →
    (∀ x o, argsP ec eo ks acc R = .bad x o → chkR ec eo first sT c R = .bad x o) ∧
    (∀ ts r', argsP ec eo ks acc R = .ok ts r' → chkR ec eo first sT c R = chkR ec eo first sE ⟨c.c, c.l, ts.length⟩ r' ∧ ts.length ≤ 8 ∧ Wf ec r' ∧
      ∃ P, R = P ++ r' ∧ ts = acc ++ (P.filter fun t => isTermB t.k).map termP ∧ ∀ k, k = 7 ∨ k = 8 ∨ k = 9 → Inner k P)
  | [], acc, c, hc, hl, hw => ⟨fun x o h => by rw [args_nil] at h; rw [chk_nil hw]; cases h; rfl, fun ts r' h => by rw [args_nil] at h; cases h⟩
  | t :: r, acc, c, hc, hl, hw => by
    by_cases hk : t.k ∈ ks
    · have hz : t.k ≠ 0 := by have := H.kk _ hk; omega
      have hw1 := hw.tail hz
      have ht : isTermB t.k = true := by have := H.kk _ hk; rcases this with h | h | h | h <;> simp [isTermB, h]
      by_cases h8 : acc.length = 8
      · refine ⟨fun x o h => ?_, fun ts r' h => by rw [args_lim8 hk h8] at h; cases h⟩
        rw [args_lim8 hk h8] at h
        cases h
        refine chk_lim (H.mT _ hk) H.n2 (H.tT c _ hk) ?_ (by decide)
        obtain ⟨h1, h2, h3, h4⟩ := hl
        unfold overC
        rw [if_neg (no_cls (c := ⟨c.c, c.l, c.t + 1⟩) h1 h2), if_neg (by simp only; omega), if_pos (by simp only; omega)]
      · have hlt : acc.length < 8 := by have := hl.2.2.2; omega
        have hl2 : Lim first ⟨c.c, c.l, c.t + 1⟩ := ⟨hl.1, hl.2.1, hl.2.2.1, by simp only; omega⟩
        have hgo : ∀ r, chkR ec eo first sT c (t :: r) = chkR ec eo first sM ⟨c.c, c.l, c.t + 1⟩ r := fun r => chk_go (H.mT _ hk) H.n2 (H.tT c _ hk) hl2
        match r, hw1 with
        | [], hw1 => exact ⟨fun x o h => by rw [args_one hk h8] at h; rw [hgo, chk_nil hw1]; cases h; rfl, fun ts r' h => by rw [args_one hk h8] at h; cases h⟩
        | s :: r2, hw1 =>
          rw [args_two hk h8, hgo]
          by_cases h7 : s.k = 7
          · rw [if_pos h7]
            have e : chkR ec eo first sM ⟨c.c, c.l, c.t + 1⟩ (s :: r2) = chkR ec eo first sT ⟨c.c, c.l, c.t + 1⟩ r2 := chk_go (by rw [h7]; exact H.mM7) H.n1 (H.tM _ _ (.inl h7)) hl2
            obtain ⟨i1, i2⟩ := args_sim H r2 (acc ++ [termP t]) ⟨c.c, c.l, c.t + 1⟩ (by simp [hc]) hl2 (hw1.tail (by omega))
            rw [e]
            refine ⟨i1, fun ts r' h => ?_⟩
            obtain ⟨j1, j2, j3, P, j4, j5, j6⟩ := i2 ts r' h
            refine ⟨j1, j2, j3, t :: s :: P, by rw [j4]; rfl, ?_, fun k hk3 now out L => ?_⟩
            · have hs : isTermB s.k = false := by simp [isTermB, h7]
              rw [j5]; simp [List.filter_cons, ht, hs]
            · have d1 : depthP 1 t = 1 := by have := H.kk _ hk; rcases this with h | h | h | h <;> simp [depthP, h]
              have d2 : depthP 1 s = 1 := by simp [depthP, h7]
              rw [List.cons_append, cutF, d1, if_neg (by omega), List.cons_append, cutF, d2, if_neg (by omega), j6 k hk3]
              simp
          · rw [if_neg h7]
            by_cases h6 : s.k = 6
            · rw [if_pos h6]
              refine ⟨fun x o h => (by cases h), fun ts r' h => ?_⟩
              cases h
              have e : chkR ec eo first sM ⟨c.c, c.l, c.t + 1⟩ (s :: r2) = chkR ec eo first sE ⟨c.c, c.l, c.t + 1⟩ r2 := chk_go (by rw [h6]; exact H.mM6) H.n3 (H.tM _ _ (.inr h6)) hl2
              refine ⟨by rw [e, hc]; simp, by simp; omega, hw1.tail (by omega), [t, s], rfl, by simp [List.filter_cons, ht, show isTermB s.k = false by simp [isTermB, h6]], fun k hk3 now out L => ?_⟩
              have d1 : depthP 1 t = 1 := by have := H.kk _ hk; rcases this with h | h | h | h <;> simp [depthP, h]
              have d2 : depthP 1 s = 0 := by simp [depthP, h6]
              rw [List.cons_append, cutF, d1, if_neg (by omega), List.cons_append, cutF, d2, if_neg (by omega)]
              simp
            · rw [if_neg h6]
              refine ⟨fun x o h => ?_, fun ts r' h => by cases h⟩
              cases h
              exact chk_mis (H.mM' _ h7 h6)
    · refine ⟨fun x o h => ?_, fun ts r' h => by rw [args_mis hk] at h; cases h⟩
      rw [args_mis hk] at h
      cases h
      exact chk_mis (H.mT' _ hk)
termination_by R => R.length
end Go.Proofs.YtjofiibfgfdleaaDoor
