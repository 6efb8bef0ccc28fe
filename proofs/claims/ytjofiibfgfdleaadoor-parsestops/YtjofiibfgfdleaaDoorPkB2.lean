/- A fault of parse's grammar is that of the tokens, or bears a number of parse's own. The first fault of the grammar hangs on the tokens up to the one at which it stands. Where parse's grammar gives up, the fault has a code. A program of facts without variables, and a facts text: the same over the same tokens. Tokens of a text that stands behind another: the same tokens, each as much further on; and the grammar over them. What stands ahead of a fault of the grammar can be ended in one of nine ways. The text ahead of a fault, a line feed and one of nine ends: its tokens, and what the readers say of it. -/
import Derived.Test.YtjofiibfgfdleaaDoorParseLen
import Derived.Test.YtjofiibfgfdleaaDoorParseGood
import Derived.Test.YtjofiibfgfdleaaDoorPkA1
import Derived.Test.YtjofiibfgfdleaaDoorParsePure

namespace Go.Proofs.YtjofiibfgfdleaaDoor
set_option linter.unusedSimpArgs false
set_option linter.unusedVariables false
open Go.RowKit

def Cd {α : Type} (c : Int) : PR α → Prop
  | .bad ec _ => ec = c ∨ 20 ≤ ec
  | .ok _ _ => True
theorem misK_20 (k : Int) : 20 ≤ misK k := by unfold misK; split <;> decide
theorem take_cd {c f : Int} {ks : List Int} {R : List Tok} : Cd c (takeP c f ks R) := by
  match R with
  | [] => exact .inl rfl
  | t :: r =>
    simp only [takeP]
    by_cases hm : t.k ∈ ks
    · rw [if_pos hm]; trivial
    · rw [if_neg hm]; exact .inr (misK_20 _)
theorem cd_bad {α : Type} {c ec eo : Int} {x : PR α} (h : Cd c x) (e : x = .bad ec eo) : ec = c ∨ 20 ≤ ec := by subst e; exact h
theorem args_cd {c f : Int} {ks : List Int} : ∀ (n : Nat) (acc : List Trm) (R : List Tok), R.length = n → Cd c (argsP c f ks acc R) := by
  intro n
  induction n using Nat.strongRecOn with
  | ind n ih =>
    intro acc R hn
    cases hT : takeP c f ks R with
    | bad ec eo => rw [args_bad1 hT]; exact cd_bad take_cd hT
    | ok t r1 =>
      have l1 := take_len hT
      by_cases h8 : acc.length = 8
      · rw [args_lim hT h8]; exact .inr (by decide)
      · rw [args_next hT h8]
        cases hU : takeP c f [7, 6] r1 with
        | bad ec eo => exact cd_bad take_cd hU
        | ok s r2 =>
          have l2 := take_len hU
          simp only
          by_cases h7 : s.k = 7
          · rw [if_pos h7]; exact ih r2.length (by omega) _ r2 rfl
          · rw [if_neg h7]; trivial
theorem atom_cd {c f : Int} {ks : List Int} {name : Tok} {R : List Tok} : Cd c (atomP c f ks name R) := by
  match R with
  | [] => exact .inl rfl
  | t :: r1 =>
    unfold atomP
    simp only
    by_cases h5 : t.k = 5
    · rw [if_pos h5]
      cases hA : argsP c f ks [] r1 with
      | bad ec eo => exact cd_bad (args_cd _ _ _ rfl) hA
      | ok ts r2 => trivial
    · rw [if_neg h5]; trivial
theorem lit_cd {c f : Int} {first : Tok} {R : List Tok} : Cd c (litP c f first R) := by
  have test : Cd c (match takeP c f [11] R with
      | .bad c o => PR.bad c o
      | .ok o1 r' => match takeP c f termKs r' with
        | .bad c o => .bad c o
        | .ok t2 r'' => .ok (⟨3, zeroAtom, o1.op, termP first, termP t2, first.off⟩ : PLit) r'') := by
    cases hT : takeP c f [11] R with
    | bad ec eo => exact cd_bad take_cd hT
    | ok o1 r1 =>
      simp only
      cases hU : takeP c f termKs r1 with
      | bad ec eo => exact cd_bad take_cd hU
      | ok t2 r2 => trivial
  unfold litP
  by_cases h10 : first.k = 10
  · rw [if_pos h10]
    cases hT : takeP c f [1] R with
    | bad ec eo => exact cd_bad take_cd hT
    | ok n r1 =>
      simp only
      cases hA : atomP c f termKs n r1 with
      | bad ec eo => exact cd_bad atom_cd hA
      | ok a r2 => trivial
  · rw [if_neg h10]
    simp only
    by_cases h1 : first.k = 1
    · rw [if_pos h1]
      cases R with
      | nil => exact .inl rfl
      | cons t r1 =>
        simp only
        by_cases h11 : t.k = 11
        · rw [if_pos h11]; exact test
        · rw [if_neg h11]
          cases hA : atomP c f termKs first (t :: r1) with
          | bad ec eo => exact cd_bad atom_cd hA
          | ok a r2 => trivial
    · rw [if_neg h1]; exact test
theorem body_cd {c f : Int} : ∀ (n : Nat) (acc : List PLit) (R : List Tok), Cd c (bodyF c f n acc R) := by
  intro n
  induction n with
  | zero => intro acc R; exact .inl rfl
  | succ n ih =>
    intro acc R
    cases hT : takeP c f [1, 10, 2, 3, 4] R with
    | bad ec eo => rw [body_bad1 hT]; exact cd_bad take_cd hT
    | ok t r1 =>
      by_cases h16 : acc.length = 16
      · rw [body_lim hT h16]; exact .inr (by decide)
      · cases hL : litP c f t r1 with
        | bad ec eo => rw [body_lit hT h16 hL]; exact cd_bad lit_cd hL
        | ok x r2 =>
          cases hU : takeP c f [7, 8] r2 with
          | bad ec eo => rw [body_sep hT h16 hL hU]; exact cd_bad take_cd hU
          | ok s r3 =>
            by_cases h8 : s.k = 8
            · rw [body_end hT h16 hL hU h8]; trivial
            · rw [body_more hT h16 hL hU h8]; exact ih _ _
theorem clause_cd {c f : Int} {name : Tok} {R : List Tok} : Cd c (clauseP c f name R) := by
  unfold clauseP
  cases hA : atomP c f termKs name R with
  | bad ec eo => exact cd_bad atom_cd hA
  | ok a r1 =>
    simp only
    cases hT : takeP c f [8, 9] r1 with
    | bad ec eo => exact cd_bad take_cd hT
    | ok s r2 =>
      simp only
      by_cases h9 : s.k = 9
      · rw [if_pos h9]
        cases hB : bodyP c f r2 with
        | bad ec eo => exact cd_bad (body_cd _ _ _) hB
        | ok b r3 => trivial
      · rw [if_neg h9]; trivial
theorem prog_cd {c f : Int} : ∀ (n : Nat) (acc : List PCls) (R : List Tok), Cd c (progF c f n acc R) := by
  intro n
  induction n with
  | zero => intro acc R; exact .inl rfl
  | succ n ih =>
    intro acc R
    cases hT : takeP c f [1, 0] R with
    | bad e1 e2 => rw [prog_bad1 hT]; exact cd_bad take_cd hT
    | ok t r1 =>
      by_cases h0 : t.k = 0
      · rw [prog_end hT h0]; trivial
      · by_cases h5 : acc.length = 512
        · rw [prog_lim hT h0 h5]; exact .inr (by decide)
        · cases hC : clauseP c f t r1 with
          | bad e1 e2 => rw [prog_cls hT h0 h5 hC]; exact cd_bad clause_cd hC
          | ok x r2 => rw [prog_more hT h0 h5 hC]; exact ih _ _
theorem facts_cd {c f : Int} : ∀ (n : Nat) (acc : List PAtom) (R : List Tok), Cd c (factsF c f n acc R) := by
  intro n
  induction n with
  | zero => intro acc R; exact .inl rfl
  | succ n ih =>
    intro acc R
    cases hT : takeP c f [1, 0] R with
    | bad e1 e2 => rw [facts_bad1 hT]; exact cd_bad take_cd hT
    | ok t r1 =>
      by_cases h0 : t.k = 0
      · rw [facts_end hT h0]; trivial
      · by_cases h5 : acc.length = 4096
        · rw [facts_lim hT h0 h5]; exact .inr (by decide)
        · cases hC : atomP c f valueKs t r1 with
          | bad e1 e2 => rw [facts_atom hT h0 h5 hC]; exact cd_bad atom_cd hC
          | ok x r2 =>
            cases hD : takeP c f [8] r2 with
            | bad e1 e2 => rw [facts_dot hT h0 h5 hC hD]; exact cd_bad take_cd hD
            | ok s r3 => rw [facts_more hT h0 h5 hC hD]; exact ih _ _
theorem query_cd {c f : Int} {R : List Tok} : Cd c (queryP c f R) := by
  unfold queryP
  cases hB : bodyP c f R with
  | bad ec eo => exact cd_bad (body_cd _ _ _) hB
  | ok b r =>
    simp only
    cases hT : takeP c f [0] r with
    | bad ec eo => exact cd_bad take_cd hT
    | ok s r2 => trivial
theorem fact_cd {c f : Int} {R : List Tok} : Cd c (factP c f R) := by
  unfold factP
  cases hT : takeP c f [1] R with
  | bad ec eo => exact cd_bad take_cd hT
  | ok t r =>
    simp only
    cases hA : atomP c f valueKs t r with
    | bad ec eo => exact cd_bad atom_cd hA
    | ok a r2 =>
      simp only
      cases hD : takeP c f [0] r2 with
      | bad ec eo => exact cd_bad take_cd hD
      | ok s r3 => trivial
def fltP {α : Type} : PR α → Int × Int
  | .bad c o => (c, o)
  | .ok _ _ => (0, 0)
theorem flt_ne1 {α : Type} {c : Int} {x : PR α} (h : Cd c x) (hc : c ≠ 1) : (fltP x).1 ≠ 1 := by
  cases x with
  | bad ec eo => show ec ≠ 1; rcases h with h | h <;> omega
  | ok a r => show (0 : Int) ≠ 1; decide
theorem toks_c {s : ByteArray} {o : Nat} {L : List Tok} {c : Int} {f : Nat} (h : Toks s o L c f) : c ≠ 1 := by
  induction h with
  | bad ho hx => rcases next_bad hx with h | h <;> omega
  | last ho hx hk => decide
  | more ho hx hk T ih => exact ih
/-- The fault that each of the four readers tells. -/
def fOf (r : Nat) (s : ByteArray) : Int × Int :=
  if r = 0 then fltP (progP (scanX s).2.1 ((scanX s).2.2 : Int) (scanX s).1)
  else if r = 1 then fltP (factsP (scanX s).2.1 ((scanX s).2.2 : Int) (scanX s).1)
  else if r = 2 then fltP (queryP (scanX s).2.1 ((scanX s).2.2 : Int) (scanX s).1)
  else fltP (factP (scanX s).2.1 ((scanX s).2.2 : Int) (scanX s).1)
theorem fOf_short (r : Nat) {s : ByteArray} (h : s.size ≤ 65536) : (fOf r s).1 ≠ 1 := by
  have hc := toks_c (scan_toks s h)
  unfold fOf
  split
  · exact flt_ne1 (prog_cd _ _ _) hc
  · split
    · exact flt_ne1 (facts_cd _ _ _) hc
    · split
      · exact flt_ne1 query_cd hc
      · exact flt_ne1 fact_cd hc
theorem fOf_long (r : Nat) {s : ByteArray} (h : 65536 < s.size) : fOf r s = (1, 0) := by
  have e : scanX s = ([], 1, 0) := if_pos (by omega)
  unfold fOf
  rw [e]
  split
  · rfl
  · split
    · rfl
    · split <;> rfl
end Go.Proofs.YtjofiibfgfdleaaDoor

namespace Go.Proofs.YtjofiibfgfdleaaDoor
set_option linter.unusedSimpArgs false
set_option linter.unusedVariables false
open Go.RowKit

theorem toks_wf {s : ByteArray} {o : Nat} {L : List Tok} {c : Int} {f : Nat} (h : Toks s o L c f) : Wf c L := by
  induction h with
  | bad ho hx => unfold Wf; have := next_bad hx; omega
  | last ho hx hk => unfold Wf; rw [if_pos hk]; exact ⟨rfl, rfl⟩
  | more ho hx hk _ ih => unfold Wf; rw [if_neg hk]; exact ih
theorem scan_wf (s : ByteArray) : Wf (scanX s).2.1 (scanX s).1 := by
  by_cases h : s.size ≤ 65536
  · exact toks_wf (scan_toks s h)
  · rw [show scanX s = ([], 1, 0) from if_pos (by omega)]
    unfold Wf; decide
def fstR (r : Nat) : Int := if r = 0 then 0 else if r = 1 then 15 else if r = 2 then 5 else 20
def fltU : PR Unit → Int × Int
  | .bad x o => (x, o)
  | .ok _ _ => (0, 0)
theorem flt_meet {α : Type} {P : PR α} {Q : PR Unit} (h1 : ∀ x o, P = .bad x o → Q = .bad x o) (h2 : ∀ b r, P = .ok b r → Q = .ok () []) : fltP P = fltU Q := by
  cases P with
  | bad x o => rw [h1 x o rfl]; rfl
  | ok b r => rw [h2 b r rfl]; rfl
theorem fOf_chk (r : Nat) (hr : r < 4) (s : ByteArray) : fOf r s = fltU (chkR (scanX s).2.1 ((scanX s).2.2 : Int) (fstR r) (fstR r) ⟨0, 0, 0⟩ (scanX s).1) := by
  have hw := scan_wf s
  match r, hr with
  | 0, _ => exact flt_meet (prog_meet hw).1 fun b r h => ((prog_meet hw).2 b r h).1
  | 1, _ => exact flt_meet (facts_meet hw).1 fun b r h => ((facts_meet hw).2 b r h).1
  | 2, _ => exact flt_meet (query_meet hw).1 fun b r h => ((query_meet hw).2 b r h).1
  | 3, _ => exact flt_meet (fact_meet hw).1 fun b r h => ((fact_meet hw).2 b r h).1
theorem take_fin (first : Int) (c : Cnt) (s : Int) (h : moveP first s 0 ≠ -1) : takeC c s 0 = c := by
  have h5 : s ≠ 5 := fun e => by subst e; exact h (by unfold moveP moveBodyP isTermB; simp)
  have h2 : s ≠ 2 := fun e => by subst e; exact h (by unfold moveP moveHeadP isTermB; simp)
  have h9 : s ≠ 9 := fun e => by subst e; exact h (by unfold moveP moveBodyP isTermB; simp)
  have h17 : s ≠ 17 := fun e => by subst e; exact h (by unfold moveP moveFactP isValueB; simp)
  have h22 : s ≠ 22 := fun e => by subst e; exact h (by unfold moveP moveFactP isValueB; simp)
  unfold takeC
  simp [h5, h2, h9, h17, h22]
theorem over_code (first : Int) (c : Cnt) : overC first c = 0 ∨ (22 ≤ overC first c ∧ overC first c ≤ 24) := by
  unfold overC
  split
  · exact .inr (by decide)
  · split
    · exact .inr (by decide)
    · split
      · exact .inr (by decide)
      · exact .inl rfl
/-- A fault of the grammar stands at a token, whatever follows it. -/
theorem chk_at {ec eo first : Int} : ∀ (L : List Tok) (s : Int) (c : Cnt) (x o : Int), overC first c = 0 → chkR ec eo first s c L = .bad x o → (x = ec ∧ ec ≠ 0) ∨
    ∃ X t r, L = X ++ t :: r ∧ (t.off : Int) = o ∧ (x = 20 ∨ x = 21 ∨ (22 ≤ x ∧ x ≤ 24)) ∧ (x = 21 ↔ t.k = 0) ∧ ∀ (ec' eo' : Int) (r' : List Tok), chkR ec' eo' first s c (X ++ t :: r') = .bad x o
  | [], s, c, x, o, h0, h => by
    unfold chkR at h
    split at h
    · cases h
    · rename_i he; cases h; exact .inl ⟨rfl, he⟩
  | t :: r, s, c, x, o, h0, h => by
    unfold chkR at h
    split at h
    · rename_i hm
      injection h with e1 e2
      subst e1 e2
      refine .inr ⟨[], t, r, rfl, rfl, ?_, ?_, fun ec' eo' r' => ?_⟩
      · unfold misK; split <;> simp
      · unfold misK; split <;> simp_all
      · rw [List.nil_append]; exact chk_mis hm
    · rename_i hm
      split at h
      · rename_i hov
        injection h with e1 e2
        subst e1 e2
        have hc := (over_code first (takeC c s t.k)).resolve_left hov
        refine .inr ⟨[], t, r, rfl, rfl, .inr (.inr hc), ⟨fun e => by omega, fun e => ?_⟩, fun ec' eo' r' => ?_⟩
        · exfalso
          rw [e] at hm hov
          rw [take_fin first c s hm] at hov
          exact hov h0
        · rw [List.nil_append, chkR, if_neg hm, if_pos hov]
      · rename_i hov
        have hov0 : overC first (takeC c s t.k) = 0 := Decidable.not_not.1 hov
        rcases chk_at r _ _ x o hov0 h with h1 | ⟨X, u, q, h1, h2, h3, h4, h5⟩
        · exact .inl h1
        · refine .inr ⟨t :: X, u, q, by rw [h1]; rfl, h2, h3, h4, fun ec' eo' r' => ?_⟩
          rw [List.cons_append, chkR, if_neg hm, if_neg hov]
          exact h5 ec' eo' r'
theorem toks_ge {s : ByteArray} {o : Nat} {L : List Tok} {c : Int} {f : Nat} (h : Toks s o L c f) : ∀ u ∈ L, o ≤ u.off ∧ u.en ≤ s.size := by
  induction h with
  | bad ho hx => simp
  | last ho hx hk =>
    intro u hu
    simp only [List.mem_singleton] at hu; subst hu
    obtain ⟨-, -, h3, h4⟩ := next_tok ho hx
    exact ⟨h3, by rcases h4 with h | h <;> omega⟩
  | more ho hx hk _ ih =>
    intro u hu
    obtain ⟨-, -, h3, h4⟩ := next_tok ho hx
    rcases List.mem_cons.1 hu with rfl | hu
    · exact ⟨h3, by rcases h4 with h | h <;> omega⟩
    · have := ih u hu
      exact ⟨by rcases h4 with h | h <;> omega, this.2⟩
theorem toks_one {s : ByteArray} {o : Nat} {L : List Tok} {c : Int} {f : Nat} (h : Toks s o L c f) : ∀ u ∈ L, ∀ v ∈ L, u.off = v.off → u.off < u.en → v.off < v.en → u.en = v.en := by
  induction h with
  | bad ho hx => simp
  | last ho hx hk =>
    intro u hu v hv
    simp only [List.mem_singleton] at hu hv; subst hu hv
    intros; rfl
  | more ho hx hk hT ih =>
    rename_i o t r c f
    have hge := toks_ge hT
    obtain ⟨-, -, h3, h4⟩ := next_tok ho hx
    have h5 : t.off < t.en := by rcases h4 with h | h <;> omega
    intro u hu v hv e1 e2 e3
    rcases List.mem_cons.1 hu with hu' | hu'
    · rcases List.mem_cons.1 hv with hv' | hv'
      · rw [hu', hv']
      · have := (hge v hv').1; rw [hu'] at e1; omega
    · rcases List.mem_cons.1 hv with hv' | hv'
      · have := (hge u hu').1; rw [hv'] at e1; omega
      · exact ih u hu' v hv' e1 e2 e3
/-- The tokens up to one that ends where two texts part. -/
theorem toks_prefix {s s' : ByteArray} {o : Nat} {L : List Tok} {c : Int} {f : Nat} (h : Toks s o L c f) : ∀ X t r, L = X ++ t :: r → t.k ≠ 0 → Pre s s' t.en → (∃ r' c' f', Toks s' o (X ++ t :: r') c' f') ∧ t.off < t.en := by
  induction h with
  | bad ho hx => intro X t r he; exact absurd he (by simp)
  | last ho hx hk =>
    intro X t r he htk
    exfalso
    cases X with
    | nil => rw [List.nil_append] at he; injection he with e1 e2; subst e1; exact htk hk
    | cons a X => have := congrArg List.length he; simp at this
  | more ho hx hk hT ih =>
    rename_i o u q c f
    intro X t r he htk hp
    obtain ⟨-, -, h3, h4⟩ := next_tok ho hx
    have h5 : u.off < u.en := by rcases h4 with h | h <;> omega
    cases X with
    | nil =>
      rw [List.nil_append] at he
      injection he with e1 e2
      subst e1
      have hn := (hp.next ho hx hk (Nat.le_refl _)).1
      obtain ⟨r', c', f', -, T⟩ := each_toks s' _ u.en [] rfl hp.le'
      exact ⟨⟨r', c', f', .more (by have := hp.le'; omega) hn hk T⟩, h5⟩
    | cons a X =>
      rw [List.cons_append] at he
      injection he with e1 e2
      subst e1
      obtain ⟨⟨r', c', f', T⟩, h6⟩ := ih X t r e2 htk hp
      have hge := (toks_ge hT t (by rw [e2]; simp)).1
      have hn := (hp.next ho hx hk (by omega)).1
      refine ⟨⟨r', c', f', ?_⟩, h6⟩
      rw [List.cons_append]
      exact .more (by have := hp.le'; omega) hn hk T
def cutB (s : ByteArray) (e : Nat) (m : ByteArray) : ByteArray := s.extract 0 e ++ ⟨#[10]⟩ ++ m
theorem cut_size (s : ByteArray) (e : Nat) (m : ByteArray) (h : e ≤ s.size) : (cutB s e m).size = e + 1 + m.size := by
  unfold cutB
  rw [ByteArray.size_append, ByteArray.size_append, ByteArray.size_extract]
  show min e s.size - 0 + 1 + m.size = _
  omega
theorem cut_pre (s : ByteArray) (e : Nat) (m : ByteArray) (h : e ≤ s.size) : Pre s (cutB s e m) e := by
  have hl : (s.extract 0 e).data.toList = s.data.toList.take e := by
    rw [ByteArray.data_extract, Array.toList_extract, List.extract_eq_take_drop, List.drop_zero, Nat.sub_zero]
  have hlen : (s.data.toList.take e).length = e := by rw [List.length_take]; exact Nat.min_eq_left h
  have hd : (cutB s e m).data.toList = s.data.toList.take e ++ (10 :: m.data.toList) := by
    unfold cutB
    rw [ByteArray.data_append, ByteArray.data_append, Array.toList_append, Array.toList_append, hl, List.append_assoc]
    rfl
  refine ⟨h, by rw [cut_size s e m h]; omega, fun i hi => ?_, fun b hb => ?_⟩
  · rw [hd, List.getElem?_append_left (by rw [hlen]; exact hi), List.getElem?_take, if_pos hi]
  · rw [hd, List.getElem?_append_right (by rw [hlen]; exact Nat.le_refl _), hlen, Nat.sub_self] at hb
    exact .inr (.inl (Option.some.inj hb).symm)
theorem toks_code {s : ByteArray} {o : Nat} {L : List Tok} {c : Int} {f : Nat} (h : Toks s o L c f) : c ≤ 16 := by
  induction h with
  | bad ho hx => have := next_bad hx; omega
  | last => decide
  | more _ _ _ _ ih => exact ih
theorem scan_code (s : ByteArray) : (scanX s).2.1 ≤ 16 := by
  by_cases h : s.size ≤ 65536
  · exact toks_code (scan_toks s h)
  · rw [show scanX s = ([], 1, 0) from if_pos (by omega)]
    decide
/-- The fault of a text stays when it is cut off behind the token at which it stands, whatever follows. -/
theorem behind {r : Nat} (hr : r < 4) {s : ByteArray} {x o : Int} (h : fOf r s = (x, o)) (h20 : 20 ≤ x) (h21 : x ≠ 21) :
    ∃ t ∈ (scanX s).1, (t.off : Int) = o ∧ t.off < t.en ∧ t.en ≤ s.size ∧ (∀ u ∈ (scanX s).1, (u.off : Int) = o → u.off < u.en → u.en = t.en) ∧ ∀ m : ByteArray, t.en + 1 + m.size ≤ 65536 → fOf r (cutB s t.en m) = (x, o) := by
  have hsz : s.size ≤ 65536 := by
    rcases Nat.lt_or_ge 65536 s.size with hh | hh
    · exfalso
      rw [fOf_chk r hr, show scanX s = ([], 1, 0) from if_pos hh] at h
      have e : fltU (chkR 1 ((0 : Nat) : Int) (fstR r) (fstR r) ⟨0, 0, 0⟩ []) = (1, 0) := by unfold chkR; rfl
      simp only at h
      rw [e] at h
      injection h with h1 h2
      omega
    · exact hh
  have T := scan_toks s hsz
  rw [fOf_chk r hr] at h
  cases hC : chkR (scanX s).2.1 ((scanX s).2.2 : Int) (fstR r) (fstR r) ⟨0, 0, 0⟩ (scanX s).1 with
  | ok u q => rw [hC] at h; injection h with h1 h2; omega
  | bad x' o' =>
    rw [hC] at h
    injection h with h1 h2
    subst h1 h2
    have h00 : overC (fstR r) ⟨0, 0, 0⟩ = 0 := by unfold overC; simp
    rcases chk_at _ _ _ _ _ h00 hC with ⟨e1, -⟩ | ⟨X, t, q, e1, e2, e3, e4, e5⟩
    · have := scan_code s; omega
    · have htk : t.k ≠ 0 := fun e => h21 (e4.2 e)
      have hmem : t ∈ (scanX s).1 := by rw [e1]; simp
      have hen := (toks_ge T t hmem).2
      have hlt := (toks_prefix T X t q e1 htk (cut_pre s t.en ⟨#[]⟩ hen)).2
      refine ⟨t, hmem, e2, hlt, hen, fun u hu e6 e7 => ?_, fun m hm => ?_⟩
      · exact toks_one T u hu t hmem (by omega) e7 hlt
      · obtain ⟨⟨r', c', f', T'⟩, -⟩ := toks_prefix T X t q e1 htk (cut_pre s t.en m hen)
        rw [fOf_chk r hr, scan_eq (by rw [cut_size s t.en m hen]; exact hm) T']
        simp only
        rw [e5]
        rfl
end Go.Proofs.YtjofiibfgfdleaaDoor

namespace Go.Proofs.YtjofiibfgfdleaaDoor
set_option linter.unusedSimpArgs false
set_option linter.unusedVariables false
open Go.RowKit

/-- No token follows for a reason, or the end is still ahead. -/
def NE (c : Int) (R : List Tok) : Prop := c ≠ 0 ∨ ∃ t ∈ R, t.k = 0
def Bd {α : Type} (c : Int) : PR α → Prop
  | .bad ec _ => ec ≠ 0
  | .ok _ r => NE c r
theorem misK_ne (k : Int) : misK k ≠ 0 := by unfold misK; split <;> decide
theorem NE.next {c : Int} {t : Tok} {r : List Tok} (h : NE c (t :: r)) (ht : t.k ≠ 0) : NE c r := by
  rcases h with h | ⟨x, hx, h0⟩
  · exact .inl h
  · rcases List.mem_cons.1 hx with rfl | hx
    · exact absurd h0 ht
    · exact .inr ⟨x, hx, h0⟩
theorem NE.nil {c : Int} (h : NE c []) : c ≠ 0 := by
  rcases h with h | ⟨x, hx, _⟩
  · exact h
  · cases hx
theorem take_bd {c f : Int} {ks : List Int} {R : List Tok} (h : NE c R) (h0 : (0 : Int) ∉ ks) : Bd c (takeP c f ks R) := by
  match R, h with
  | [], h => exact h.nil
  | t :: r, h =>
    simp only [takeP]
    by_cases hm : t.k ∈ ks
    · rw [if_pos hm]; exact h.next (fun e => h0 (e ▸ hm))
    · rw [if_neg hm]; exact misK_ne _
theorem take_bd0 {c f ec eo : Int} {ks : List Int} {R : List Tok} (h : NE c R) (hT : takeP c f ks R = .bad ec eo) : ec ≠ 0 := by
  match R, h, hT with
  | [], h, hT => simp only [takeP] at hT; injection hT with e1 e2; subst e1; exact h.nil
  | t :: r, h, hT =>
    simp only [takeP] at hT
    by_cases hm : t.k ∈ ks
    · rw [if_pos hm] at hT; cases hT
    · rw [if_neg hm] at hT; injection hT with e1 e2; subst e1; exact misK_ne _
theorem bd_bad {α : Type} {c ec eo : Int} {x : PR α} (h : Bd c x) (e : x = .bad ec eo) : ec ≠ 0 := by subst e; exact h
theorem bd_ok {α : Type} {c : Int} {x : PR α} {a : α} {r : List Tok} (h : Bd c x) (e : x = .ok a r) : NE c r := by subst e; exact h
theorem args_bd {c f : Int} {ks : List Int} (h0 : (0 : Int) ∉ ks) : ∀ (n : Nat) (acc : List Trm) (R : List Tok), R.length = n → NE c R → Bd c (argsP c f ks acc R) := by
  intro n
  induction n using Nat.strongRecOn with
  | ind n ih =>
    intro acc R hn h
    have b1 := take_bd (f := f) h h0
    cases hT : takeP c f ks R with
    | bad ec eo => rw [args_bad1 hT]; exact bd_bad b1 hT
    | ok t r1 =>
      have l1 := take_len hT
      by_cases h8 : acc.length = 8
      · rw [args_lim hT h8]; show (22 : Int) ≠ 0; decide
      · rw [args_next hT h8]
        have b2 := take_bd (f := f) (ks := [7, 6]) (bd_ok b1 hT) (by decide)
        cases hU : takeP c f [7, 6] r1 with
        | bad ec eo => exact bd_bad b2 hU
        | ok s r2 =>
          have l2 := take_len hU
          simp only
          by_cases h7 : s.k = 7
          · rw [if_pos h7]; exact ih r2.length (by omega) _ r2 rfl (bd_ok b2 hU)
          · rw [if_neg h7]; exact bd_ok b2 hU
theorem atom_bd {c f : Int} {ks : List Int} (h0 : (0 : Int) ∉ ks) {name : Tok} {R : List Tok} (h : NE c R) : Bd c (atomP c f ks name R) := by
  match R, h with
  | [], h => exact h.nil
  | t :: r1, h =>
    unfold atomP
    simp only
    by_cases h5 : t.k = 5
    · rw [if_pos h5]
      have b := args_bd (f := f) h0 _ [] r1 rfl (h.next (by omega))
      cases hA : argsP c f ks [] r1 with
      | bad ec eo => exact bd_bad b hA
      | ok ts r2 => exact bd_ok b hA
    · rw [if_neg h5]; exact h
theorem lit_bd {c f : Int} {first : Tok} {R : List Tok} (h : NE c R) : Bd c (litP c f first R) := by
  have test : Bd c (match takeP c f [11] R with
      | .bad c o => PR.bad c o
      | .ok o1 r' => match takeP c f termKs r' with
        | .bad c o => .bad c o
        | .ok t2 r'' => .ok (⟨3, zeroAtom, o1.op, termP first, termP t2, first.off⟩ : PLit) r'') := by
    have b1 := take_bd (f := f) (ks := [11]) h (by decide)
    cases hT : takeP c f [11] R with
    | bad ec eo => exact bd_bad b1 hT
    | ok o1 r1 =>
      simp only
      have b2 := take_bd (f := f) (ks := termKs) (bd_ok b1 hT) (by decide)
      cases hU : takeP c f termKs r1 with
      | bad ec eo => exact bd_bad b2 hU
      | ok t2 r2 => exact bd_ok b2 hU
  unfold litP
  by_cases h10 : first.k = 10
  · rw [if_pos h10]
    have b1 := take_bd (f := f) (ks := [1]) h (by decide)
    cases hT : takeP c f [1] R with
    | bad ec eo => exact bd_bad b1 hT
    | ok n r1 =>
      simp only
      have b2 := atom_bd (f := f) (ks := termKs) (by decide) (name := n) (bd_ok b1 hT)
      cases hA : atomP c f termKs n r1 with
      | bad ec eo => exact bd_bad b2 hA
      | ok a r2 => exact bd_ok b2 hA
  · rw [if_neg h10]
    simp only
    by_cases h1 : first.k = 1
    · rw [if_pos h1]
      cases R with
      | nil => exact h.nil
      | cons t r1 =>
        simp only
        by_cases h11 : t.k = 11
        · rw [if_pos h11]; exact test
        · rw [if_neg h11]
          have b2 := atom_bd (f := f) (ks := termKs) (by decide) (name := first) h
          cases hA : atomP c f termKs first (t :: r1) with
          | bad ec eo => exact bd_bad b2 hA
          | ok a r2 => exact bd_ok b2 hA
    · rw [if_neg h1]; exact test
theorem body_bd {c f : Int} : ∀ (n : Nat) (acc : List PLit) (R : List Tok), R.length < n → NE c R → Bd c (bodyF c f n acc R) := by
  intro n
  induction n with
  | zero => intro acc R hn; omega
  | succ n ih =>
    intro acc R hn h
    have b1 := take_bd (f := f) (ks := [1, 10, 2, 3, 4]) h (by decide)
    cases hT : takeP c f [1, 10, 2, 3, 4] R with
    | bad ec eo => rw [body_bad1 hT]; exact bd_bad b1 hT
    | ok t r1 =>
      have l1 := take_len hT
      by_cases h16 : acc.length = 16
      · rw [body_lim hT h16]; show (23 : Int) ≠ 0; decide
      · have b2 := lit_bd (f := f) (first := t) (bd_ok b1 hT)
        cases hL : litP c f t r1 with
        | bad ec eo => rw [body_lit hT h16 hL]; exact bd_bad b2 hL
        | ok x r2 =>
          have l2 := lit_len hL
          have b3 := take_bd (f := f) (ks := [7, 8]) (bd_ok b2 hL) (by decide)
          cases hU : takeP c f [7, 8] r2 with
          | bad ec eo => rw [body_sep hT h16 hL hU]; exact bd_bad b3 hU
          | ok s r3 =>
            have l3 := take_len hU
            by_cases h8 : s.k = 8
            · rw [body_end hT h16 hL hU h8]; exact bd_ok b3 hU
            · rw [body_more hT h16 hL hU h8]; exact ih _ _ (by omega) (bd_ok b3 hU)
theorem clause_bd {c f : Int} {name : Tok} {R : List Tok} (h : NE c R) : Bd c (clauseP c f name R) := by
  unfold clauseP
  have b1 := atom_bd (f := f) (ks := termKs) (by decide) (name := name) h
  cases hA : atomP c f termKs name R with
  | bad ec eo => exact bd_bad b1 hA
  | ok a r1 =>
    simp only
    have b2 := take_bd (f := f) (ks := [8, 9]) (bd_ok b1 hA) (by decide)
    cases hT : takeP c f [8, 9] r1 with
    | bad ec eo => exact bd_bad b2 hT
    | ok s r2 =>
      simp only
      by_cases h9 : s.k = 9
      · rw [if_pos h9]
        have b3 := body_bd (f := f) (r2.length + 1) [] r2 (by omega) (bd_ok b2 hT)
        cases hB : bodyP c f r2 with
        | bad ec eo => exact bd_bad b3 hB
        | ok b r3 => exact bd_ok b3 hB
      · rw [if_neg h9]; exact bd_ok b2 hT
theorem prog_ne {c f ec eo : Int} : ∀ (n : Nat) (acc : List PCls) (R : List Tok), R.length < n → NE c R → progF c f n acc R = .bad ec eo → ec ≠ 0 := by
  intro n
  induction n with
  | zero => intro acc R hn; omega
  | succ n ih =>
    intro acc R hn h he
    cases hT : takeP c f [1, 0] R with
    | bad e1 e2 => rw [prog_bad1 hT] at he; injection he with q1 q2; subst q1; exact take_bd0 h hT
    | ok t r1 =>
      have l1 := take_len hT
      by_cases h0 : t.k = 0
      · rw [prog_end hT h0] at he; cases he
      · have n1 : NE c r1 := by rw [(take_eq hT).1] at h; exact h.next h0
        by_cases h5 : acc.length = 512
        · rw [prog_lim hT h0 h5] at he; injection he with q1 q2; subst q1; decide
        · have b := clause_bd (f := f) (name := t) n1
          cases hC : clauseP c f t r1 with
          | bad e1 e2 => rw [prog_cls hT h0 h5 hC] at he; injection he with q1 q2; subst q1; exact bd_bad b hC
          | ok x r2 =>
            have l2 := clause_len hC
            rw [prog_more hT h0 h5 hC] at he
            exact ih _ _ (by omega) (bd_ok b hC) he
theorem facts_ne {c f ec eo : Int} : ∀ (n : Nat) (acc : List PAtom) (R : List Tok), R.length < n → NE c R → factsF c f n acc R = .bad ec eo → ec ≠ 0 := by
  intro n
  induction n with
  | zero => intro acc R hn; omega
  | succ n ih =>
    intro acc R hn h he
    cases hT : takeP c f [1, 0] R with
    | bad e1 e2 => rw [facts_bad1 hT] at he; injection he with q1 q2; subst q1; exact take_bd0 h hT
    | ok t r1 =>
      have l1 := take_len hT
      by_cases h0 : t.k = 0
      · rw [facts_end hT h0] at he; cases he
      · have n1 : NE c r1 := by rw [(take_eq hT).1] at h; exact h.next h0
        by_cases h5 : acc.length = 4096
        · rw [facts_lim hT h0 h5] at he; injection he with q1 q2; subst q1; decide
        · have b := atom_bd (f := f) (ks := valueKs) (by decide) (name := t) n1
          cases hC : atomP c f valueKs t r1 with
          | bad e1 e2 => rw [facts_atom hT h0 h5 hC] at he; injection he with q1 q2; subst q1; exact bd_bad b hC
          | ok x r2 =>
            have l2 := atom_len hC
            have b2 := take_bd (f := f) (ks := [8]) (bd_ok b hC) (by decide)
            cases hD : takeP c f [8] r2 with
            | bad e1 e2 => rw [facts_dot hT h0 h5 hC hD] at he; injection he with q1 q2; subst q1; exact bd_bad b2 hD
            | ok s r3 =>
              have l3 := take_len hD
              rw [facts_more hT h0 h5 hC hD] at he
              exact ih _ _ (by omega) (bd_ok b2 hD) he
theorem toks_ne {s : ByteArray} {o : Nat} {L : List Tok} {c : Int} {f : Nat} (h : Toks s o L c f) : NE c L := by
  induction h with
  | bad ho hx => rcases next_bad hx with h | h <;> exact .inl (by omega)
  | last ho hx hk => exact .inr ⟨_, List.mem_singleton.2 rfl, hk⟩
  | more ho hx hk T ih =>
    rcases ih with h | ⟨x, hx, h0⟩
    · exact .inl h
    · exact .inr ⟨x, List.mem_cons_of_mem _ hx, h0⟩
theorem scan_ne (s : ByteArray) : NE (scanX s).2.1 (scanX s).1 := by
  by_cases hs : s.size ≤ 65536
  · exact toks_ne (scan_toks s hs)
  · have e : scanX s = ([], 1, 0) := if_pos (by omega)
    rw [e]; exact .inl (by decide)
end Go.Proofs.YtjofiibfgfdleaaDoor

namespace Go.Proofs.YtjofiibfgfdleaaDoor
set_option linter.unusedSimpArgs false
set_option linter.unusedVariables false
open Go.RowKit

def mkC (a : PAtom) : PCls := ⟨a, []⟩
def gAtom (a : PAtom) : Bool := a.ts.all fun t => t.k != 4
def gCls (x : PCls) : Bool := x.b.isEmpty && gAtom x.h
theorem value_term {k : Int} (h : k ∈ valueKs) : k ∈ termKs ∧ kindT k ≠ 4 := by
  simp only [valueKs, List.mem_cons, List.not_mem_nil, or_false] at h
  rcases h with rfl | rfl | rfl <;> exact ⟨by decide, by decide⟩
theorem term_value {k : Int} (h : k ∈ termKs) (h4 : kindT k ≠ 4) : k ∈ valueKs := by
  simp only [termKs, List.mem_cons, List.not_mem_nil, or_false] at h
  rcases h with rfl | rfl | rfl | rfl
  · exact absurd rfl h4
  all_goals decide
theorem take_sub {c f : Int} {ks ls : List Int} {R r : List Tok} {t : Tok} (h : takeP c f ks R = .ok t r) (hl : t.k ∈ ls) : takeP c f ls R = .ok t r := by
  obtain ⟨rfl, _⟩ := take_eq h
  simp only [takeP]
  rw [if_pos hl]
theorem args_val {c f : Int} : ∀ (n : Nat) (acc : List Trm) (R r : List Tok) (ts : List Trm), R.length = n → argsP c f valueKs acc R = .ok ts r → argsP c f termKs acc R = .ok ts r ∧ ∃ us, ts = acc ++ us ∧ ∀ u ∈ us, u.k ≠ 4 := by
  intro n
  induction n using Nat.strongRecOn with
  | ind n ih =>
    intro acc R r ts hn h
    cases hT : takeP c f valueKs R with
    | bad ec eo => rw [args_bad1 hT] at h; cases h
    | ok t r1 =>
      have l1 := take_len hT
      have hv := value_term (take_eq hT).2
      have hT2 := take_sub hT hv.1
      by_cases h8 : acc.length = 8
      · rw [args_lim hT h8] at h; cases h
      · rw [args_next hT h8] at h
        rw [args_next hT2 h8]
        cases hU : takeP c f [7, 6] r1 with
        | bad ec eo => rw [hU] at h; cases h
        | ok s r2 =>
          have l2 := take_len hU
          rw [hU] at h
          simp only at h ⊢
          by_cases h7 : s.k = 7
          · rw [if_pos h7] at h ⊢
            obtain ⟨q1, us, q2, q3⟩ := ih r2.length (by omega) _ r2 r ts rfl h
            refine ⟨q1, termP t :: us, by rw [q2, List.append_assoc]; rfl, fun u hu => ?_⟩
            rcases List.mem_cons.1 hu with rfl | hu
            · exact hv.2
            · exact q3 u hu
          · rw [if_neg h7] at h ⊢
            injection h with e1 e2
            subst e1 e2
            exact ⟨rfl, [termP t], rfl, fun u hu => by simp only [List.mem_singleton] at hu; subst hu; exact hv.2⟩
theorem args_term {c f : Int} : ∀ (n : Nat) (acc : List Trm) (R r : List Tok) (ts : List Trm), R.length = n → argsP c f termKs acc R = .ok ts r → (∃ us, ts = acc ++ us) ∧ ((∀ u ∈ ts, u.k ≠ 4) → argsP c f valueKs acc R = .ok ts r) := by
  intro n
  induction n using Nat.strongRecOn with
  | ind n ih =>
    intro acc R r ts hn h
    cases hT : takeP c f termKs R with
    | bad ec eo => rw [args_bad1 hT] at h; cases h
    | ok t r1 =>
      have l1 := take_len hT
      have ht := (take_eq hT).2
      by_cases h8 : acc.length = 8
      · rw [args_lim hT h8] at h; cases h
      · rw [args_next hT h8] at h
        cases hU : takeP c f [7, 6] r1 with
        | bad ec eo => rw [hU] at h; cases h
        | ok s r2 =>
          have l2 := take_len hU
          rw [hU] at h
          simp only at h
          by_cases h7 : s.k = 7
          · rw [if_pos h7] at h
            obtain ⟨⟨us, q2⟩, q1⟩ := ih r2.length (by omega) _ r2 r ts rfl h
            refine ⟨⟨termP t :: us, by rw [q2, List.append_assoc]; rfl⟩, fun hg => ?_⟩
            have hv := term_value ht (hg (termP t) (by rw [q2]; simp))
            rw [args_next (take_sub hT hv) h8, hU]
            simp only
            rw [if_pos h7]
            exact q1 hg
          · rw [if_neg h7] at h
            injection h with e1 e2
            subst e1 e2
            refine ⟨⟨_, rfl⟩, fun hg => ?_⟩
            have hv := term_value ht (hg (termP t) (by simp))
            rw [args_next (take_sub hT hv) h8, hU]
            simp only
            rw [if_neg h7]
theorem atom_val {c f : Int} {name : Tok} {R r : List Tok} {a : PAtom} (h : atomP c f valueKs name R = .ok a r) : atomP c f termKs name R = .ok a r ∧ gAtom a = true := by
  match R, h with
  | [], h => simp [atomP] at h
  | t :: r1, h =>
    unfold atomP at h ⊢
    simp only at h ⊢
    by_cases h5 : t.k = 5
    · rw [if_pos h5] at h ⊢
      cases hA : argsP c f valueKs [] r1 with
      | bad ec eo => rw [hA] at h; cases h
      | ok ts r2 =>
        rw [hA] at h
        injection h with e1 e2
        subst e1 e2
        obtain ⟨q1, us, q2, q3⟩ := args_val _ _ _ _ _ rfl hA
        rw [q1]
        refine ⟨rfl, ?_⟩
        unfold gAtom
        rw [List.all_eq_true]
        intro u hu
        have := q3 u (by rw [q2] at hu; simpa using hu)
        simpa using this
    · rw [if_neg h5] at h ⊢
      injection h with e1 e2
      subst e1 e2
      exact ⟨rfl, rfl⟩
theorem atom_term {c f : Int} {name : Tok} {R r : List Tok} {a : PAtom} (h : atomP c f termKs name R = .ok a r) (hg : gAtom a = true) : atomP c f valueKs name R = .ok a r := by
  match R, h with
  | [], h => simp [atomP] at h
  | t :: r1, h =>
    unfold atomP at h ⊢
    simp only at h ⊢
    by_cases h5 : t.k = 5
    · rw [if_pos h5] at h ⊢
      cases hA : argsP c f termKs [] r1 with
      | bad ec eo => rw [hA] at h; cases h
      | ok ts r2 =>
        rw [hA] at h
        injection h with e1 e2
        subst e1 e2
        rw [(args_term _ _ _ _ _ rfl hA).2 (fun u hu => by unfold gAtom at hg; have := List.all_eq_true.1 hg u hu; simpa using this)]
    · rw [if_neg h5] at h ⊢
      exact h
theorem body_nonempty {c f : Int} : ∀ (n : Nat) (acc : List PLit) (R r : List Tok) (b : List PLit), bodyF c f n acc R = .ok b r → b ≠ [] := by
  intro n
  induction n with
  | zero => intro acc R r b h; cases h
  | succ n ih =>
    intro acc R r b h
    cases hT : takeP c f [1, 10, 2, 3, 4] R with
    | bad ec eo => rw [body_bad1 hT] at h; cases h
    | ok t r1 =>
      by_cases h16 : acc.length = 16
      · rw [body_lim hT h16] at h; cases h
      · cases hL : litP c f t r1 with
        | bad ec eo => rw [body_lit hT h16 hL] at h; cases h
        | ok x r2 =>
          cases hU : takeP c f [7, 8] r2 with
          | bad ec eo => rw [body_sep hT h16 hL hU] at h; cases h
          | ok s r3 =>
            by_cases h8 : s.k = 8
            · rw [body_end hT h16 hL hU h8] at h; injection h with e1 e2; subst e1; simp
            · rw [body_more hT h16 hL hU h8] at h; exact ih _ _ _ _ h
theorem clause_fact {c f : Int} {name s : Tok} {R r2 r3 : List Tok} {a : PAtom} (hA : atomP c f valueKs name R = .ok a r2) (hD : takeP c f [8] r2 = .ok s r3) : clauseP c f name R = .ok (mkC a) r3 := by
  have h8 : s.k = 8 := by simpa using (take_eq hD).2
  unfold clauseP
  rw [(atom_val hA).1]
  simp only
  rw [take_sub hD (ls := [8, 9]) (by rw [h8]; decide)]
  simp only
  rw [if_neg (by omega)]
  rfl
theorem fact_clause {c f : Int} {name : Tok} {R r : List Tok} {x : PCls} (h : clauseP c f name R = .ok x r) (hg : gCls x = true) : ∃ s r2, atomP c f valueKs name R = .ok x.h r2 ∧ takeP c f [8] r2 = .ok s r ∧ x = mkC x.h := by
  unfold gCls at hg
  simp only [Bool.and_eq_true, List.isEmpty_iff] at hg
  unfold clauseP at h
  cases hA : atomP c f termKs name R with
  | bad ec eo => rw [hA] at h; cases h
  | ok a r1 =>
    rw [hA] at h
    simp only at h
    cases hT : takeP c f [8, 9] r1 with
    | bad ec eo => rw [hT] at h; cases h
    | ok s r2 =>
      rw [hT] at h
      simp only at h
      by_cases h9 : s.k = 9
      · rw [if_pos h9] at h
        cases hB : bodyP c f r2 with
        | bad ec eo => rw [hB] at h; cases h
        | ok b r3 =>
          rw [hB] at h
          injection h with e1 e2
          subst e1
          exact absurd hg.1 (body_nonempty _ _ _ _ _ hB)
      · rw [if_neg h9] at h
        injection h with e1 e2
        subst e1 e2
        have h8 : s.k = 8 := by have := (take_eq hT).2; simp at this; omega
        exact ⟨s, r1, atom_term hA hg.2, take_sub hT (by rw [h8]; decide), rfl⟩
theorem facts_more_len {c f : Int} : ∀ (n : Nat) (fs : List PAtom) (R r : List Tok) (out : List PAtom), factsF c f n fs R = .ok out r → ∃ us, out = fs ++ us := by
  intro n
  induction n with
  | zero => intro fs R r out h; cases h
  | succ n ih =>
    intro fs R r out h
    cases hT : takeP c f [1, 0] R with
    | bad e1 e2 => rw [facts_bad1 hT] at h; cases h
    | ok t r1 =>
      by_cases h0 : t.k = 0
      · rw [facts_end hT h0] at h; injection h with e1 e2; subst e1; exact ⟨[], by simp⟩
      · by_cases h5 : fs.length = 4096
        · rw [facts_lim hT h0 h5] at h; cases h
        · cases hC : atomP c f valueKs t r1 with
          | bad e1 e2 => rw [facts_atom hT h0 h5 hC] at h; cases h
          | ok x r2 =>
            cases hD : takeP c f [8] r2 with
            | bad e1 e2 => rw [facts_dot hT h0 h5 hC hD] at h; cases h
            | ok s r3 =>
              rw [facts_more hT h0 h5 hC hD] at h
              obtain ⟨us, e⟩ := ih _ _ _ _ h
              exact ⟨x :: us, by rw [e, List.append_assoc]; rfl⟩
/-- A facts text of up to 512 facts is a program of just these. -/
theorem facts_prog {c f : Int} : ∀ (n : Nat) (fs : List PAtom) (R r : List Tok) (out : List PAtom), factsF c f n fs R = .ok out r → out.length ≤ 512 → progF c f n (fs.map mkC) R = .ok (out.map mkC) r ∧ ((∀ a ∈ fs, gAtom a = true) → ∀ a ∈ out, gAtom a = true) := by
  intro n
  induction n with
  | zero => intro fs R r out h; cases h
  | succ n ih =>
    intro fs R r out h hl
    cases hT : takeP c f [1, 0] R with
    | bad e1 e2 => rw [facts_bad1 hT] at h; cases h
    | ok t r1 =>
      by_cases h0 : t.k = 0
      · rw [facts_end hT h0] at h; injection h with e1 e2; subst e1 e2; exact ⟨prog_end hT h0, fun h => h⟩
      · by_cases h5 : fs.length = 4096
        · rw [facts_lim hT h0 h5] at h; cases h
        · cases hC : atomP c f valueKs t r1 with
          | bad e1 e2 => rw [facts_atom hT h0 h5 hC] at h; cases h
          | ok x r2 =>
            cases hD : takeP c f [8] r2 with
            | bad e1 e2 => rw [facts_dot hT h0 h5 hC hD] at h; cases h
            | ok s r3 =>
              rw [facts_more hT h0 h5 hC hD] at h
              obtain ⟨us, e⟩ := facts_more_len _ _ _ _ _ h
              obtain ⟨q1, q2⟩ := ih _ _ _ _ h hl
              have hne : (fs.map mkC).length ≠ 512 := by
                have := congrArg List.length e
                simp only [List.length_append, List.length_singleton] at this
                rw [List.length_map]; omega
              rw [prog_more hT h0 hne (clause_fact hC hD)]
              rw [List.map_append, List.map_singleton] at q1
              exact ⟨q1, fun hg => q2 (fun a ha => (List.mem_append.1 ha).elim (hg a) (fun e => by simp only [List.mem_singleton] at e; subst e; exact (atom_val hC).2))⟩
theorem prog_len {c f : Int} : ∀ (n : Nat) (acc : List PCls) (R r : List Tok) (out : List PCls), progF c f n acc R = .ok out r → ∃ us, out = acc ++ us := by
  intro n
  induction n with
  | zero => intro acc R r out h; cases h
  | succ n ih =>
    intro acc R r out h
    cases hT : takeP c f [1, 0] R with
    | bad e1 e2 => rw [prog_bad1 hT] at h; cases h
    | ok t r1 =>
      by_cases h0 : t.k = 0
      · rw [prog_end hT h0] at h; injection h with e1 e2; subst e1; exact ⟨[], by simp⟩
      · by_cases h5 : acc.length = 512
        · rw [prog_lim hT h0 h5] at h; cases h
        · cases hC : clauseP c f t r1 with
          | bad e1 e2 => rw [prog_cls hT h0 h5 hC] at h; cases h
          | ok x r2 =>
            rw [prog_more hT h0 h5 hC] at h
            obtain ⟨us, e⟩ := ih _ _ _ _ h
            exact ⟨x :: us, by rw [e, List.append_assoc]; rfl⟩
theorem prog_most {c f : Int} : ∀ (n : Nat) (acc : List PCls) (R r : List Tok) (out : List PCls), acc.length ≤ 512 → progF c f n acc R = .ok out r → out.length ≤ 512 := by
  intro n
  induction n with
  | zero => intro acc R r out _ h; cases h
  | succ n ih =>
    intro acc R r out hl h
    cases hT : takeP c f [1, 0] R with
    | bad e1 e2 => rw [prog_bad1 hT] at h; cases h
    | ok t r1 =>
      by_cases h0 : t.k = 0
      · rw [prog_end hT h0] at h; injection h with e1 e2; subst e1; exact hl
      · by_cases h5 : acc.length = 512
        · rw [prog_lim hT h0 h5] at h; cases h
        · cases hC : clauseP c f t r1 with
          | bad e1 e2 => rw [prog_cls hT h0 h5 hC] at h; cases h
          | ok x r2 =>
            rw [prog_more hT h0 h5 hC] at h
            exact ih _ _ _ _ (by simp; omega) h
/-- A program of nothing but facts without variables is a facts text. -/
theorem prog_facts {c f : Int} : ∀ (n : Nat) (acc : List PCls) (R r : List Tok) (out : List PCls), acc.length ≤ 512 → progF c f n acc R = .ok out r → (∀ x ∈ out, gCls x = true) → factsF c f n (acc.map (·.h)) R = .ok (out.map (·.h)) r := by
  intro n
  induction n with
  | zero => intro acc R r out _ h; cases h
  | succ n ih =>
    intro acc R r out hl h hg
    cases hT : takeP c f [1, 0] R with
    | bad e1 e2 => rw [prog_bad1 hT] at h; cases h
    | ok t r1 =>
      by_cases h0 : t.k = 0
      · rw [prog_end hT h0] at h; injection h with e1 e2; subst e1 e2; exact facts_end hT h0
      · by_cases h5 : acc.length = 512
        · rw [prog_lim hT h0 h5] at h; cases h
        · cases hC : clauseP c f t r1 with
          | bad e1 e2 => rw [prog_cls hT h0 h5 hC] at h; cases h
          | ok x r2 =>
            rw [prog_more hT h0 h5 hC] at h
            obtain ⟨us, e⟩ := prog_len _ _ _ _ _ h
            obtain ⟨s, r4, q1, q2, q3⟩ := fact_clause hC (hg x (by rw [e]; simp))
            have := ih _ _ _ _ (by simp; omega) h hg
            rw [List.map_append, List.map_singleton] at this
            rw [facts_more hT h0 (by rw [List.length_map]; omega) q1 q2]
            exact this
end Go.Proofs.YtjofiibfgfdleaaDoor

namespace Go.Proofs.YtjofiibfgfdleaaDoor
set_option linter.unusedSimpArgs false
set_option linter.unusedVariables false
open Go.RowKit

def shT (d : Nat) (t : Tok) : Tok := ⟨t.k, t.t, t.n, t.op, d + t.off, d + t.en⟩
theorem end_tok {s : ByteArray} {o : Nat} {t : Tok} (ho : o ≤ s.size) (h : nextX s o = .tok t) (hk : t.k = 0) : t = endTok s.size ∧ gapW s o = (s.size, true) := by
  obtain ⟨h1, h2, -, h4⟩ := next_tok ho h
  have h5 : t.off = s.size := by rcases h4 with h | h <;> omega
  have hg : gapW s o = (s.size, true) := Prod.ext (by rw [← h2, h5]) h1
  rw [next_last s o ho hg] at h
  injection h with h
  exact ⟨h.symm, hg⟩
theorem gap_same {s s' : ByteArray} {o o' : Nat} (h : rest s' o' = rest s o) (hs : s'.size - o' = s.size - o) (ho : o ≤ s.size) (ho' : o' ≤ s'.size) (hg : gapW s o = (s.size, true)) : gapW s' o' = (s'.size, true) := by
  unfold gapW at hg ⊢
  rw [h]
  have e1 := congrArg Prod.fst hg
  have e2 := congrArg Prod.snd hg
  simp only at e1 e2
  exact Prod.ext (by simp only; omega) e2
theorem toks_shift {s s' : ByteArray} {d : Nat} (hr : ∀ o, rest s' (d + o) = rest s o) (hsz : s'.size = d + s.size) {o : Nat} {L : List Tok} {c : Int} {f : Nat} (h : Toks s o L c f) : ∃ c' f', Toks s' (d + o) (L.map (shT d)) c' f' ∧ (c = 0 → c' = 0) ∧ (c ≠ 0 → c' ≠ 0) := by
  induction h with
  | bad ho hx =>
    rename_i o c f
    cases hx' : nextX s' (d + o) with
    | bad c' f' => exact ⟨c', f', .bad (by omega) hx', fun h => by have := next_bad hx; omega, fun _ => by have := next_bad hx'; omega⟩
    | tok t =>
      exfalso
      by_cases hk : t.k = 0
      · obtain ⟨-, hg⟩ := end_tok (by omega) hx' hk
        have := gap_same (hr o).symm (by omega) (by omega) ho hg
        rw [next_last s o ho this] at hx
        cases hx
      · have := next_pre (s' := s) (o' := o) (by omega) hx' hk (fun i hi => by rw [hr]) (fun b hb => .inl (by rw [hr]; exact hb))
        rw [this] at hx
        cases hx
  | last ho hx hk =>
    rename_i o t
    obtain ⟨rfl, hg⟩ := end_tok ho hx hk
    have hg' := gap_same (hr o) (by omega) ho (by omega) hg
    refine ⟨0, 0, ?_, fun _ => rfl, fun h => absurd rfl h⟩
    have h2 := next_last s' (d + o) (by omega) hg'
    have e : shT d (endTok s.size) = endTok s'.size := by unfold shT endTok; rw [hsz]
    rw [List.map_singleton, e]
    exact .last (by omega) h2 rfl
  | more ho hx hk hT ih =>
    rename_i o t r c f
    obtain ⟨c', f', T, h1, h2⟩ := ih
    obtain ⟨-, -, h3, h4⟩ := next_tok ho hx
    have h5 : t.off < t.en := by rcases h4 with h | h <;> omega
    have := next_pre (s' := s') (o' := d + o) ho hx hk (fun i hi => by rw [hr]) (fun b hb => .inl (by rw [← hr]; exact hb))
    refine ⟨c', f', ?_, h1, h2⟩
    rw [List.map_cons]
    refine .more (by omega) (this.trans ?_) hk T
    unfold shT
    rw [show d + o + (t.off - o) = d + t.off by omega, show d + o + (t.en - o) = d + t.en by omega]
theorem toks_skip {s : ByteArray} {o : Nat} {L : List Tok} {c : Int} {f : Nat} (ho : o + 1 ≤ s.size) (hg : gapW s o = gapW s (o + 1)) (h : Toks s (o + 1) L c f) : Toks s o L c f := by
  have hn : nextX s o = nextX s (o + 1) := by unfold nextX; rw [hg]
  cases h with
  | bad h1 h2 => exact .bad (by omega) (hn.trans h2)
  | last h1 h2 h3 => exact .last (by omega) (hn.trans h2) h3
  | more h1 h2 h3 h4 => exact .more (by omega) (hn.trans h2) h3 h4

/-- The answers of a rule over tokens and over the same tokens further on. -/
def shTrm (d : Nat) (t : Trm) : Trm := ⟨t.k, t.n, t.s, t.off + d⟩
def shAt (d : Nat) (a : PAtom) : PAtom := ⟨a.p, a.ts.map (shTrm d), a.off + d⟩
def shLi (d : Nat) (x : PLit) : PLit := if x.k = 3 then ⟨x.k, x.a, x.op, shTrm d x.l, shTrm d x.r, x.off + d⟩ else ⟨x.k, shAt d x.a, x.op, x.l, x.r, x.off + d⟩
def RelP {α β : Type} (d : Nat) (g : α → β) : PR α → PR β → Prop
  | .bad _ _, .bad _ _ => True
  | .ok x r, .ok y q => y = g x ∧ q = r.map (shT d)
  | _, _ => False
theorem relP_bad {α β : Type} {d : Nat} {g : α → β} {c o : Int} {y : PR β} (h : RelP d g (.bad c o) y) : ∃ c' o', y = .bad c' o' := by
  cases y with
  | bad c' o' => exact ⟨_, _, rfl⟩
  | ok => exact h.elim
theorem relP_ok {α β : Type} {d : Nat} {g : α → β} {x : α} {r : List Tok} {y : PR β} (h : RelP d g (.ok x r) y) : y = .ok (g x) (r.map (shT d)) := by
  cases y with
  | bad => exact h.elim
  | ok z q => obtain ⟨rfl, rfl⟩ := h; rfl
theorem termP_sh (d : Nat) (t : Tok) : termP (shT d t) = shTrm d (termP t) := by unfold termP shT shTrm; simp; omega
section
variable {d : Nat} {c f c' f' : Int}
theorem take_sh (ks : List Int) (R : List Tok) : RelP d (shT d) (takeP c f ks R) (takeP c' f' ks (R.map (shT d))) := by
  cases R with
  | nil => trivial
  | cons t r =>
    rw [List.map_cons]
    unfold takeP
    show RelP d _ (if t.k ∈ ks then _ else _) (if t.k ∈ ks then _ else _)
    split
    · exact ⟨rfl, rfl⟩
    · trivial
theorem args_sh (ks : List Int) : ∀ (n : Nat) (acc : List Trm) (R : List Tok), R.length = n → RelP d (List.map (shTrm d)) (argsP c f ks acc R) (argsP c' f' ks (acc.map (shTrm d)) (R.map (shT d))) := by
  intro n
  induction n using Nat.strongRecOn with
  | ind n ih =>
    intro acc R hn
    match R, hn with
    | [], _ => trivial
    | [t], _ =>
      rw [List.map_singleton]
      unfold argsP
      show RelP d _ (if t.k ∈ ks then _ else _) (if t.k ∈ ks then _ else _)
      split
      · rw [List.length_map]
        split <;> trivial
      · trivial
    | t :: s :: r, hn =>
      rw [List.map_cons, List.map_cons]
      unfold argsP
      show RelP d _ (if t.k ∈ ks then _ else _) (if t.k ∈ ks then _ else _)
      split
      · rw [List.length_map]
        split
        · trivial
        · show RelP d _ (if s.k = 7 then _ else _) (if s.k = 7 then _ else _)
          split
          · have := ih r.length (by simp at hn; omega) (acc ++ [termP t]) r rfl
            rw [List.map_append, List.map_singleton, ← termP_sh] at this
            exact this
          · show RelP d _ (if s.k = 6 then _ else _) (if s.k = 6 then _ else _)
            split
            · exact ⟨by rw [List.map_append, List.map_singleton, ← termP_sh], rfl⟩
            · trivial
      · trivial
theorem atom_sh (ks : List Int) (name : Tok) (R : List Tok) : RelP d (shAt d) (atomP c f ks name R) (atomP c' f' ks (shT d name) (R.map (shT d))) := by
  cases R with
  | nil => trivial
  | cons t r =>
    rw [List.map_cons]
    unfold atomP
    show RelP d _ (if t.k = 5 then _ else _) (if t.k = 5 then _ else _)
    split
    · have h := args_sh (d := d) (c := c) (f := f) (c' := c') (f' := f') ks _ [] r rfl
      rw [List.map_nil] at h
      cases hA : argsP c f ks [] r with
      | bad x o =>
        rw [hA] at h
        obtain ⟨x', o', e⟩ := relP_bad h
        rw [e]; trivial
      | ok ts r' =>
        rw [hA] at h
        rw [relP_ok h]
        exact ⟨by unfold shAt shT; simp; omega, rfl⟩
    · exact ⟨by unfold shAt shT; simp; omega, rfl⟩
theorem lit_sh (first : Tok) (R : List Tok) : RelP d (shLi d) (litP c f first R) (litP c' f' (shT d first) (R.map (shT d))) := by
  have tst : RelP d (shLi d) (match takeP c f [11] R with
      | .bad c o => PR.bad c o
      | .ok o1 r' => match takeP c f termKs r' with
        | .bad c o => .bad c o
        | .ok t2 r'' => .ok (⟨3, zeroAtom, o1.op, termP first, termP t2, first.off⟩ : PLit) r'') (match takeP c' f' [11] (R.map (shT d)) with
      | .bad c o => PR.bad c o
      | .ok o1 r' => match takeP c' f' termKs r' with
        | .bad c o => .bad c o
        | .ok t2 r'' => .ok (⟨3, zeroAtom, o1.op, termP (shT d first), termP t2, (shT d first).off⟩ : PLit) r'') := by
    have h := take_sh (d := d) (c := c) (f := f) (c' := c') (f' := f') [11] R
    cases hA : takeP c f [11] R with
    | bad x o =>
      rw [hA] at h
      obtain ⟨x', o', e⟩ := relP_bad h
      rw [e]; trivial
    | ok o1 r' =>
      rw [hA] at h
      rw [relP_ok h]
      simp only
      have h2 := take_sh (d := d) (c := c) (f := f) (c' := c') (f' := f') termKs r'
      cases hB : takeP c f termKs r' with
      | bad x o =>
        rw [hB] at h2
        obtain ⟨x', o', e⟩ := relP_bad h2
        rw [e]; trivial
      | ok t2 r'' =>
        rw [hB] at h2
        rw [relP_ok h2]
        refine ⟨?_, rfl⟩
        rw [termP_sh, termP_sh]
        unfold shLi
        rw [if_pos rfl]
        unfold shT
        simp; omega
  unfold litP
  show RelP d _ (if first.k = 10 then _ else _) (if first.k = 10 then _ else _)
  split
  · have h := take_sh (d := d) (c := c) (f := f) (c' := c') (f' := f') [1] R
    cases hA : takeP c f [1] R with
    | bad x o =>
      rw [hA] at h
      obtain ⟨x', o', e⟩ := relP_bad h
      rw [e]; trivial
    | ok n r' =>
      rw [hA] at h
      rw [relP_ok h]
      simp only
      have h2 := atom_sh (d := d) (c := c) (f := f) (c' := c') (f' := f') termKs n r'
      cases hB : atomP c f termKs n r' with
      | bad x o =>
        rw [hB] at h2
        obtain ⟨x', o', e⟩ := relP_bad h2
        rw [e]; trivial
      | ok a r'' =>
        rw [hB] at h2
        rw [relP_ok h2]
        refine ⟨?_, rfl⟩
        unfold shLi
        rw [if_neg (show ¬ ((2 : Int) = 3) by decide)]
        unfold shT
        simp; omega
  · show RelP d _ (if first.k = 1 then _ else _) (if first.k = 1 then _ else _)
    split
    · cases R with
      | nil => trivial
      | cons t r =>
        rw [List.map_cons]
        show RelP d _ (if t.k = 11 then _ else _) (if t.k = 11 then _ else _)
        split
        · rw [List.map_cons] at tst
          exact tst
        · have h2 := atom_sh (d := d) (c := c) (f := f) (c' := c') (f' := f') termKs first (t :: r)
          rw [List.map_cons] at h2
          cases hB : atomP c f termKs first (t :: r) with
          | bad x o =>
            rw [hB] at h2
            obtain ⟨x', o', e⟩ := relP_bad h2
            rw [e]; trivial
          | ok a r'' =>
            rw [hB] at h2
            rw [relP_ok h2]
            refine ⟨?_, rfl⟩
            unfold shLi
            rw [if_neg (show ¬ ((1 : Int) = 3) by decide)]
            unfold shT
            simp; omega
    · exact tst
theorem body_sh : ∀ (n : Nat) (acc : List PLit) (R : List Tok), RelP d (List.map (shLi d)) (bodyF c f n acc R) (bodyF c' f' n (acc.map (shLi d)) (R.map (shT d)))
  | 0, acc, R => trivial
  | n + 1, acc, R => by
    unfold bodyF
    have h := take_sh (d := d) (c := c) (f := f) (c' := c') (f' := f') [1, 10, 2, 3, 4] R
    cases hA : takeP c f [1, 10, 2, 3, 4] R with
    | bad x o =>
      rw [hA] at h
      obtain ⟨x', o', e⟩ := relP_bad h
      rw [e]; trivial
    | ok t r =>
      rw [hA] at h
      rw [relP_ok h]
      simp only
      rw [List.length_map]
      split
      · trivial
      · have h2 := lit_sh (d := d) (c := c) (f := f) (c' := c') (f' := f') t r
        cases hB : litP c f t r with
        | bad x o =>
          rw [hB] at h2
          obtain ⟨x', o', e⟩ := relP_bad h2
          rw [e]; trivial
        | ok x r' =>
          rw [hB] at h2
          rw [relP_ok h2]
          simp only
          have h3 := take_sh (d := d) (c := c) (f := f) (c' := c') (f' := f') [7, 8] r'
          cases hC : takeP c f [7, 8] r' with
          | bad x o =>
            rw [hC] at h3
            obtain ⟨x', o', e⟩ := relP_bad h3
            rw [e]; trivial
          | ok s r'' =>
            rw [hC] at h3
            rw [relP_ok h3]
            simp only
            show RelP d _ (if s.k = 8 then _ else _) (if s.k = 8 then _ else _)
            split
            · exact ⟨by rw [List.map_append, List.map_singleton], rfl⟩
            · have := body_sh n (acc ++ [x]) r''
              rw [List.map_append, List.map_singleton] at this
              exact this
end
end Go.Proofs.YtjofiibfgfdleaaDoor

namespace Go.Proofs.YtjofiibfgfdleaaDoor
set_option linter.unusedSimpArgs false
set_option linter.unusedVariables false
open Go.RowKit

/-- The states of each reader. -/
def Rch (first st : Int) : Prop :=
  (first = 0 ∧ 0 ≤ st ∧ st ≤ 14) ∨ (first = 15 ∧ 15 ≤ st ∧ st ≤ 19) ∨ (first = 5 ∧ ((5 ≤ st ∧ st ≤ 14) ∨ st = 25)) ∨ (first = 20 ∧ 20 ≤ st ∧ st ≤ 24)
theorem ite_of {P : Prop} [Decidable P] {a b : Int} {Q : Int → Prop} (h1 : P → Q a) (h2 : Q b) : Q (if P then a else b) := by
  split
  · rename_i h; exact h1 h
  · exact h2
theorem rch_head {s k : Int} (hk : k ≠ 0) : moveHeadP s k = -1 ∨ (0 ≤ moveHeadP s k ∧ moveHeadP s k ≤ 5) := by
  unfold moveHeadP
  refine ite_of (Q := fun x => x = -1 ∨ (0 ≤ x ∧ x ≤ 5)) (fun _ => .inr (by decide)) ?_
  refine ite_of (Q := fun x => x = -1 ∨ (0 ≤ x ∧ x ≤ 5)) (fun h => absurd h.2 hk) ?_
  iterate 5 (refine ite_of (Q := fun x => x = -1 ∨ (0 ≤ x ∧ x ≤ 5)) (fun _ => .inr (by decide)) ?_)
  exact .inl rfl
theorem rch_body {s k b : Int} (hk : k ≠ 0) : moveBodyP s k b = -1 ∨ (5 ≤ moveBodyP s k b ∧ moveBodyP s k b ≤ 14) ∨ moveBodyP s k b = b := by
  unfold moveBodyP
  iterate 9 (refine ite_of (Q := fun x => x = -1 ∨ (5 ≤ x ∧ x ≤ 14) ∨ x = b) (fun _ => .inr (.inl (by decide))) ?_)
  refine ite_of (Q := fun x => x = -1 ∨ (5 ≤ x ∧ x ≤ 14) ∨ x = b) (fun _ => ite_of (Q := fun x => x = -1 ∨ (5 ≤ x ∧ x ≤ 14) ∨ x = b) (fun _ => .inr (.inl (by decide))) (ite_of (Q := fun x => x = -1 ∨ (5 ≤ x ∧ x ≤ 14) ∨ x = b) (fun _ => .inr (.inr rfl)) (.inl rfl))) ?_
  refine ite_of (Q := fun x => x = -1 ∨ (5 ≤ x ∧ x ≤ 14) ∨ x = b) (fun h => absurd h.2 hk) ?_
  exact .inl rfl
theorem rch_fact {s k : Int} (h0 : 15 ≤ s) (h4 : s ≤ 19) (hk : k ≠ 0) : moveFactP s k = -1 ∨ (15 ≤ moveFactP s k ∧ moveFactP s k ≤ 19) := by
  unfold moveFactP
  refine ite_of (Q := fun x => x = -1 ∨ (15 ≤ x ∧ x ≤ 19)) (fun _ => .inr (by decide)) ?_
  refine ite_of (Q := fun x => x = -1 ∨ (15 ≤ x ∧ x ≤ 19)) (fun h => absurd h.2 hk) ?_
  refine ite_of (Q := fun x => x = -1 ∨ (15 ≤ x ∧ x ≤ 19)) (fun h => by have := h.1; omega) ?_
  refine ite_of (Q := fun x => x = -1 ∨ (15 ≤ x ∧ x ≤ 19)) (fun _ => .inr (by decide)) ?_
  refine ite_of (Q := fun x => x = -1 ∨ (15 ≤ x ∧ x ≤ 19)) (fun h => by rcases h with h | h <;> (have := h.1; omega)) ?_
  refine ite_of (Q := fun x => x = -1 ∨ (15 ≤ x ∧ x ≤ 19)) (fun _ => .inr (by decide)) ?_
  refine ite_of (Q := fun x => x = -1 ∨ (15 ≤ x ∧ x ≤ 19)) (fun h => by have := h.1; omega) ?_
  refine ite_of (Q := fun x => x = -1 ∨ (15 ≤ x ∧ x ≤ 19)) (fun _ => .inr (by decide)) ?_
  refine ite_of (Q := fun x => x = -1 ∨ (15 ≤ x ∧ x ≤ 19)) (fun h => by have := h.1; omega) ?_
  refine ite_of (Q := fun x => x = -1 ∨ (15 ≤ x ∧ x ≤ 19)) (fun _ => .inr (by decide)) ?_
  refine ite_of (Q := fun x => x = -1 ∨ (15 ≤ x ∧ x ≤ 19)) (fun h => absurd h.2 hk) ?_
  exact .inl rfl
theorem rch_one {s k : Int} (h0 : 20 ≤ s) (h4 : s ≤ 24) (hk : k ≠ 0) : moveFactP s k = -1 ∨ (20 ≤ moveFactP s k ∧ moveFactP s k ≤ 24) := by
  unfold moveFactP
  refine ite_of (Q := fun x => x = -1 ∨ (20 ≤ x ∧ x ≤ 24)) (fun h => by have := h.1; omega) ?_
  refine ite_of (Q := fun x => x = -1 ∨ (20 ≤ x ∧ x ≤ 24)) (fun h => absurd h.2 hk) ?_
  refine ite_of (Q := fun x => x = -1 ∨ (20 ≤ x ∧ x ≤ 24)) (fun _ => .inr (by decide)) ?_
  refine ite_of (Q := fun x => x = -1 ∨ (20 ≤ x ∧ x ≤ 24)) (fun h => by rcases h with h | h <;> (have := h.1; omega)) ?_
  refine ite_of (Q := fun x => x = -1 ∨ (20 ≤ x ∧ x ≤ 24)) (fun _ => .inr (by decide)) ?_
  refine ite_of (Q := fun x => x = -1 ∨ (20 ≤ x ∧ x ≤ 24)) (fun h => by have := h.1; omega) ?_
  refine ite_of (Q := fun x => x = -1 ∨ (20 ≤ x ∧ x ≤ 24)) (fun _ => .inr (by decide)) ?_
  refine ite_of (Q := fun x => x = -1 ∨ (20 ≤ x ∧ x ≤ 24)) (fun h => by have := h.1; omega) ?_
  refine ite_of (Q := fun x => x = -1 ∨ (20 ≤ x ∧ x ≤ 24)) (fun _ => .inr (by decide)) ?_
  refine ite_of (Q := fun x => x = -1 ∨ (20 ≤ x ∧ x ≤ 24)) (fun h => by rcases h.1 with h | h <;> omega) ?_
  refine ite_of (Q := fun x => x = -1 ∨ (20 ≤ x ∧ x ≤ 24)) (fun h => absurd h.2 hk) ?_
  exact .inl rfl
theorem Rch.step {first st k : Int} (h : Rch first st) (hk : k ≠ 0) (hm : moveP first st k ≠ -1) : Rch first (moveP first st k) := by
  unfold Rch at h ⊢
  unfold moveP at hm ⊢
  rcases h with ⟨rfl, h1, h2⟩ | ⟨rfl, h1, h2⟩ | ⟨rfl, h1⟩ | ⟨rfl, h1, h2⟩
  · split at hm
    · rename_i h4
      rw [if_pos h4]
      have := rch_head (s := st) hk
      omega
    · rename_i h4
      rw [if_neg h4]
      rw [if_neg (by omega)] at hm ⊢
      have := rch_body (s := st) (b := bhP 0) hk
      have e : bhP 0 = 0 := rfl
      rw [e] at this hm ⊢
      omega
  · rw [if_neg (by omega), if_pos (by omega)] at hm ⊢
    have := rch_fact h1 h2 hk
    omega
  · rw [if_neg (by omega), if_neg (by omega)] at hm ⊢
    have := rch_body (s := st) (b := bhP 5) hk
    have e : bhP 5 = 25 := rfl
    rw [e] at this hm ⊢
    omega
  · rw [if_neg (by omega), if_pos (by omega)] at hm ⊢
    have := rch_one h1 h2 hk
    omega
/-- Ahead of a token that can't stand there: the state. -/
theorem chk_mid {ec eo first : Int} : ∀ (L : List Tok) (s : Int) (c : Cnt) (x o : Int), Rch first s → overC first c = 0 → Wf ec L → chkR ec eo first s c L = .bad x o → x = 20 ∨ x = 21 → ec ≠ x →
    ∃ X t q st c1, L = X ++ t :: q ∧ (t.off : Int) = o ∧ (x = 21 → t.k = 0) ∧ Rch first st ∧ overC first c1 = 0 ∧ ∀ (ec' eo' : Int) (R : List Tok), chkR ec' eo' first s c (X ++ R) = chkR ec' eo' first st c1 R
  | [], s, c, x, o, hr, h0, hw, h, hx, hne => by
    unfold chkR at h
    split at h
    · cases h
    · injection h with e1 e2; exact absurd e1 hne
  | t :: r, s, c, x, o, hr, h0, hw, h, hx, hne => by
    unfold chkR at h
    split at h
    · injection h with e1 e2
      subst e1 e2
      exact ⟨[], t, r, s, c, rfl, rfl, fun e => by unfold misK at e; split at e <;> first | assumption | omega, hr, h0, fun _ _ _ => rfl⟩
    · rename_i hm
      split at h
      · rename_i hov
        injection h with e1 e2
        have := (over_code first (takeC c s t.k)).resolve_left hov
        omega
      · rename_i hov
        have hov0 : overC first (takeC c s t.k) = 0 := Decidable.not_not.1 hov
        by_cases hk : t.k = 0
        · obtain ⟨rfl, rfl⟩ := hw.last hk
          unfold chkR at h
          rw [if_pos rfl] at h
          cases h
        · obtain ⟨X, u, q, st, c1, e1, e2, e3, e4, e5, e6⟩ := chk_mid r _ _ x o (hr.step hk hm) hov0 (hw.tail hk) h hx hne
          refine ⟨t :: X, u, q, st, c1, by rw [e1]; rfl, e2, e3, e4, e5, fun ec' eo' R => ?_⟩
          rw [List.cons_append, chkR, if_neg hm, if_neg hov]
          exact e6 ec' eo' R
def endB (i : Nat) : ByteArray :=
  if i = 0 then ⟨#[]⟩ else if i = 1 then ⟨#[46]⟩ else if i = 2 then ⟨#[97, 41, 46]⟩ else if i = 3 then ⟨#[41, 46]⟩ else if i = 4 then ⟨#[97, 46]⟩ else if i = 5 then ⟨#[61, 97, 46]⟩ else if i = 6 then ⟨#[97]⟩ else if i = 7 then ⟨#[97, 41]⟩ else ⟨#[41]⟩
def endK (i : Nat) : List Int :=
  if i = 0 then [0] else if i = 1 then [8, 0] else if i = 2 then [1, 6, 8, 0] else if i = 3 then [6, 8, 0] else if i = 4 then [1, 8, 0] else if i = 5 then [11, 1, 8, 0] else if i = 6 then [1, 0] else if i = 7 then [1, 6, 0] else [6, 0]
theorem end_scan (i : Nat) (hi : i < 9) : (scanX (endB i)).1.map (·.k) = endK i ∧ (scanX (endB i)).2.1 = 0 := by
  match i, hi with
  | 0, _ => exact ⟨by kernel_rfl, by kernel_rfl⟩
  | 1, _ => exact ⟨by kernel_rfl, by kernel_rfl⟩
  | 2, _ => exact ⟨by kernel_rfl, by kernel_rfl⟩
  | 3, _ => exact ⟨by kernel_rfl, by kernel_rfl⟩
  | 4, _ => exact ⟨by kernel_rfl, by kernel_rfl⟩
  | 5, _ => exact ⟨by kernel_rfl, by kernel_rfl⟩
  | 6, _ => exact ⟨by kernel_rfl, by kernel_rfl⟩
  | 7, _ => exact ⟨by kernel_rfl, by kernel_rfl⟩
  | 8, _ => exact ⟨by kernel_rfl, by kernel_rfl⟩
/-- The states along kinds of tokens, up to the end. -/
def runK (first : Int) : Int → List Int → Bool
  | s, [] => s == 26
  | s, k :: r => moveP first s k != -1 && runK first (moveP first s k) r
def wayK (first st : Int) : Nat :=
  if st = 0 ∨ st = 15 ∨ st = 21 ∨ st = 24 ∨ st = 25 then 0
  else if st = 2 ∨ st = 9 ∨ st = 17 then 2
  else if st = 3 ∨ st = 10 ∨ st = 18 then 3
  else if st = 5 ∨ st = 7 ∨ st = 11 then 4
  else if st = 8 then 5
  else if st = 20 then 6
  else if st = 22 then 7
  else if st = 23 then 8
  else 1
theorem way_runs {first st : Int} (h : Rch first st) : wayK first st < 9 ∧ runK first st (endK (wayK first st)) = true := by
  unfold Rch at h
  rcases h with ⟨rfl, h1, h2⟩ | ⟨rfl, h1, h2⟩ | ⟨rfl, h1⟩ | ⟨rfl, h1, h2⟩
  · obtain rfl | rfl | rfl | rfl | rfl | rfl | rfl | rfl | rfl | rfl | rfl | rfl | rfl | rfl | rfl : st = 0 ∨ st = 1 ∨ st = 2 ∨ st = 3 ∨ st = 4 ∨ st = 5 ∨ st = 6 ∨ st = 7 ∨ st = 8 ∨ st = 9 ∨ st = 10 ∨ st = 11 ∨ st = 12 ∨ st = 13 ∨ st = 14 := by omega
    all_goals exact ⟨by decide, by decide⟩
  · obtain rfl | rfl | rfl | rfl | rfl : st = 15 ∨ st = 16 ∨ st = 17 ∨ st = 18 ∨ st = 19 := by omega
    all_goals exact ⟨by decide, by decide⟩
  · obtain rfl | rfl | rfl | rfl | rfl | rfl | rfl | rfl | rfl | rfl | rfl : st = 5 ∨ st = 6 ∨ st = 7 ∨ st = 8 ∨ st = 9 ∨ st = 10 ∨ st = 11 ∨ st = 12 ∨ st = 13 ∨ st = 14 ∨ st = 25 := by omega
    all_goals exact ⟨by decide, by decide⟩
  · obtain rfl | rfl | rfl | rfl | rfl : st = 20 ∨ st = 21 ∨ st = 22 ∨ st = 23 ∨ st = 24 := by omega
    all_goals exact ⟨by decide, by decide⟩
/-- Such an end is right, or passes a limit in it. -/
theorem chk_runs {eo first : Int} (n : Nat) : ∀ (R : List Tok) (st : Int) (c : Cnt), runK first st (R.map (·.k)) = true → (∀ t ∈ R, n < t.off) → fltU (chkR 0 eo first st c R) = (0, 0) ∨ ((22 ≤ (fltU (chkR 0 eo first st c R)).1 ∧ (fltU (chkR 0 eo first st c R)).1 ≤ 24) ∧ (n : Int) < (fltU (chkR 0 eo first st c R)).2)
  | [], st, c, h, ho => .inl (by unfold chkR; rw [if_pos rfl]; rfl)
  | t :: r, st, c, h, ho => by
    rw [List.map_cons] at h
    unfold runK at h
    simp only [Bool.and_eq_true, bne_iff_ne, ne_eq] at h
    rw [chkR, if_neg h.1]
    split
    · rename_i hov
      have hc := (over_code first (takeC c st t.k)).resolve_left hov
      have := ho t (by simp)
      exact .inr ⟨hc, by show (n : Int) < (t.off : Int); omega⟩
    · exact chk_runs n r _ _ h.2 (fun u hu => ho u (List.mem_cons_of_mem _ hu))
end Go.Proofs.YtjofiibfgfdleaaDoor

namespace Go.Proofs.YtjofiibfgfdleaaDoor
set_option linter.unusedSimpArgs false
set_option linter.unusedVariables false
open Go.RowKit

theorem toks_upto {s s' : ByteArray} {o : Nat} {L : List Tok} {c : Int} {f : Nat} (h : Toks s o L c f) : ∀ X t q, L = X ++ t :: q → Pre s s' t.off → ∃ e, o ≤ e ∧ e ≤ t.off ∧ gapW s e = (t.off, true) ∧ ∀ R c' f', Toks s' e R c' f' → Toks s' o (X ++ R) c' f' := by
  induction h with
  | bad ho hx => intro X t q he; exact absurd he (by simp)
  | last ho hx hk =>
    rename_i o t0
    intro X t q he hp
    cases X with
    | nil =>
      rw [List.nil_append] at he
      injection he with e1 e2
      subst e1
      obtain ⟨h1, h2, h3, -⟩ := next_tok ho hx
      exact ⟨o, Nat.le_refl _, h3, Prod.ext h2.symm h1, fun R c' f' T => T⟩
    | cons a X => have := congrArg List.length he; simp at this
  | more ho hx hk hT ih =>
    rename_i o u r c f
    intro X t q he hp
    obtain ⟨h1, h2, h3, h4⟩ := next_tok ho hx
    have h5 : u.off < u.en := by rcases h4 with h | h <;> omega
    cases X with
    | nil =>
      rw [List.nil_append] at he
      injection he with e1 e2
      subst e1
      exact ⟨o, Nat.le_refl _, h3, Prod.ext h2.symm h1, fun R c' f' T => T⟩
    | cons a X =>
      rw [List.cons_append] at he
      injection he with e1 e2
      subst e1
      have hge := (toks_ge hT t (by rw [e2]; simp)).1
      obtain ⟨e, g1, g2, g3, g4⟩ := ih X t q e2 hp
      have hn := (hp.next ho hx hk hge).1
      refine ⟨e, by omega, g2, g3, fun R c' f' T => ?_⟩
      rw [List.cons_append]
      exact .more (by have := hp.le'; omega) hn hk (g4 R c' f' T)
theorem toks_gap {s : ByteArray} {o o' : Nat} {L : List Tok} {c : Int} {f : Nat} (ho : o ≤ s.size) (hg : gapW s o = gapW s o') (h : Toks s o' L c f) : Toks s o L c f := by
  have hn : nextX s o = nextX s o' := by unfold nextX; rw [hg]
  cases h with
  | bad h1 h2 => exact .bad ho (hn.trans h2)
  | last h1 h2 h3 => exact .last ho (hn.trans h2) h3
  | more h1 h2 h3 h4 => exact .more ho (hn.trans h2) h3 h4
theorem toks_fin {s : ByteArray} {o : Nat} {L : List Tok} {c : Int} {f : Nat} (h : Toks s o L c f) : ∀ u ∈ L, u.off ≤ s.size ∧ (u.k = 0 → u.off = s.size) := by
  induction h with
  | bad ho hx => simp
  | last ho hx hk =>
    intro u hu
    simp only [List.mem_singleton] at hu; subst hu
    obtain ⟨-, -, -, h4⟩ := next_tok ho hx
    have : u.off = s.size := by rcases h4 with h | h <;> omega
    exact ⟨by omega, fun _ => this⟩
  | more ho hx hk _ ih =>
    intro u hu
    rcases List.mem_cons.1 hu with rfl | hu
    · obtain ⟨-, -, -, h4⟩ := next_tok ho hx
      exact ⟨by rcases h4 with h | h <;> omega, fun h => absurd h hk⟩
    · exact ih u hu
theorem cut_list (s : ByteArray) (n : Nat) (m : ByteArray) : (cutB s n m).data.toList = s.data.toList.take n ++ (10 :: m.data.toList) := by
  have hl : (s.extract 0 n).data.toList = s.data.toList.take n := by
    rw [ByteArray.data_extract, Array.toList_extract, List.extract_eq_take_drop, List.drop_zero, Nat.sub_zero]
  unfold cutB
  rw [ByteArray.data_append, ByteArray.data_append, Array.toList_append, Array.toList_append, hl, List.append_assoc]
  rfl
theorem cut_rest (s : ByteArray) (n : Nat) (m : ByteArray) (h : n ≤ s.size) (j : Nat) : rest (cutB s n m) (n + 1 + j) = rest m j := by
  have hlen : (s.data.toList.take n).length = n := by rw [List.length_take]; exact Nat.min_eq_left h
  unfold rest
  rw [cut_list, List.drop_append, hlen, List.drop_eq_nil_of_le (by rw [hlen]; omega), List.nil_append, show n + 1 + j - n = j + 1 by omega, List.drop_succ_cons]
theorem cut_gap (s : ByteArray) (n e : Nat) (m : ByteArray) (h : n ≤ s.size) (he : e ≤ n) (hg : gapW s e = (n, true)) : gapW (cutB s n m) e = gapW (cutB s n m) (n + 1) := by
  have hlen : (s.data.toList.take n).length = n := by rw [List.length_take]; exact Nat.min_eq_left h
  have h1 := gap_cut s e (by omega)
  rw [hg] at h1
  simp only at h1
  unfold gapW at h1
  rw [rest_cut] at h1
  have hl : ((rest s e).take (n - e)).length = n - e := by rw [List.length_take, rest_len]; omega
  have h2 : gapN ((rest s e).take (n - e)) = (((rest s e).take (n - e)).length, true) := by
    have a := congrArg Prod.fst h1
    have b := congrArg Prod.snd h1
    simp only at a b
    exact Prod.ext (by rw [hl]; simp only; omega) b
  have h3 := gap_append m.data.toList _ _ rfl h2
  have hr : rest (cutB s n m) e = (rest s e).take (n - e) ++ 10 :: m.data.toList := by
    unfold rest
    rw [cut_list, List.drop_append_of_le_length (by rw [hlen]; exact he), List.drop_take]
  have hr2 := cut_rest s n m h 0
  rw [Nat.add_zero] at hr2
  unfold gapW
  rw [hr, h3, hr2, gap_feed, hl]
  have hm0 : rest m 0 = m.data.toList := rfl
  rw [hm0]
  exact Prod.ext (by simp only; omega) rfl
def goodP (f : Int × Int) (n : Nat) : Prop := f = (0, 0) ∨ ((22 ≤ f.1 ∧ f.1 ≤ 24) ∧ (n : Int) < f.2)
theorem endB_size (i : Nat) (hi : i < 9) : (endB i).size ≤ 3 := by
  match i, hi with
  | 0, _ => decide
  | 1, _ => decide
  | 2, _ => decide
  | 3, _ => decide
  | 4, _ => decide
  | 5, _ => decide
  | 6, _ => decide
  | 7, _ => decide
  | 8, _ => decide
theorem stops {r : Nat} (hr : r < 4) {s : ByteArray} (hs : s.size ≤ 60000) {x o : Int} (h : fOf r s = (x, o)) (hx : x = 20 ∨ x = 21) :
    ∃ n : Nat, o = (n : Int) ∧ n ≤ s.size ∧ (x = 21 → n = s.size) ∧ ∃ i, i < 9 ∧ goodP (fOf r (cutB s n (endB i))) n := by
  have T := scan_toks s (by omega)
  rw [fOf_chk r hr] at h
  cases hC : chkR (scanX s).2.1 ((scanX s).2.2 : Int) (fstR r) (fstR r) ⟨0, 0, 0⟩ (scanX s).1 with
  | ok u q => rw [hC] at h; injection h with h1 h2; omega
  | bad x' o' =>
    rw [hC] at h
    injection h with h1 h2
    subst h1 h2
    have h00 : overC (fstR r) ⟨0, 0, 0⟩ = 0 := by unfold overC; simp
    have hr0 : Rch (fstR r) (fstR r) := by
      match r, hr with
      | 0, _ => exact .inl (by decide)
      | 1, _ => exact .inr (.inl (by decide))
      | 2, _ => exact .inr (.inr (.inl ⟨rfl, .inl (by decide)⟩))
      | 3, _ => exact .inr (.inr (.inr (by decide)))
    have hsc := scan_code s
    obtain ⟨X, t, q, st, c1, e1, e2, e3, e4, e5, e6⟩ := chk_mid _ _ _ _ _ hr0 h00 (scan_wf s) hC hx (by omega)
    have hfin := toks_fin T t (by rw [e1]; simp)
    obtain ⟨hi, hrun⟩ := way_runs e4
    obtain ⟨hk1, hk2⟩ := end_scan _ hi
    generalize wayK (fstR r) st = i at *
    refine ⟨t.off, e2.symm, hfin.1, fun e => hfin.2 (e3 e), i, hi, ?_⟩
    obtain ⟨e, g1, g2, g3, g4⟩ := toks_upto T X t q e1 (cut_pre s t.off (endB i) hfin.1)
    have hcs := cut_size s t.off (endB i) hfin.1
    have hes := endB_size i hi
    obtain ⟨c', f', T2, hc0, -⟩ := toks_shift (s' := cutB s t.off (endB i)) (d := t.off + 1) (fun j => cut_rest s t.off (endB i) hfin.1 j) (by rw [hcs]) (scan_toks (endB i) (by omega))
    rw [Nat.add_zero] at T2
    have T3 := g4 _ _ _ (toks_gap (by omega) (cut_gap s t.off e (endB i) hfin.1 g2 g3) T2)
    rw [fOf_chk r hr, scan_eq (by omega) T3]
    simp only
    rw [e6, hc0 hk2]
    refine chk_runs t.off _ _ _ ?_ (fun u hu => ?_)
    · rw [List.map_map]
      have : ((fun t : Tok => t.k) ∘ shT (t.off + 1)) = fun t : Tok => t.k := rfl
      rw [this, hk1]
      exact hrun
    · obtain ⟨v, hv, rfl⟩ := List.mem_map.1 hu
      show t.off < t.off + 1 + v.off
      omega
end Go.Proofs.YtjofiibfgfdleaaDoor
