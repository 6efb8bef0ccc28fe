/- A fault of parse's grammar is that of the tokens, or bears a number of parse's own. The first fault of the grammar hangs on the tokens up to the one at which it stands. Tokens as elements of lists. Where parse's grammar gives up, the fault has a code. A program of facts without variables, and a facts text: the same over the same tokens. Tokens that spell an atom, a literal, a body: places in a list of tokens. Tokens that spell a literal, a body, a clause, a program: places in a list of tokens. Whose a fault of the grammar is: the tokens' own, or at a token; where the end lies. -/
import Derived.Test.YtjofiibfgfdleaaDoorParseLen
import Derived.Test.YtjofiibfgfdleaaDoorParseGood
import Derived.Test.YtjofiibfgfdleaaDoorPkA1
import Derived.Test.YtjofiibfgfdleaaDoorLists
import Derived.Test.YtjofiibfgfdleaaDoorLexRow

namespace Go.Proofs.YtjofiibfgfdleaaDoor
set_option linter.unusedSimpArgs false
set_option linter.unusedVariables false
open Go.RowKit

def Cd {α : Type} (c : Int) : PR α → Prop
  | .bad ec _ => ec = c ∨ 20 ≤ ec
  | .ok _ _ => True
theorem misK_20 (k : Int) : 20 ≤ misK k := by unfold misK; split <;> decide
theorem take_cd {c f : Int} {ks : List Int} {R : List Tok} : Cd c (takeP c f ks R) := by
  match R with
  | [] => exact .inl rfl
  | t :: r =>
    simp only [takeP]
    by_cases hm : t.k ∈ ks
    · rw [if_pos hm]; trivial
    · rw [if_neg hm]; exact .inr (misK_20 _)
theorem cd_bad {α : Type} {c ec eo : Int} {x : PR α} (h : Cd c x) (e : x = .bad ec eo) : ec = c ∨ 20 ≤ ec := by subst e; exact h
theorem args_cd {c f : Int} {ks : List Int} : ∀ (n : Nat) (acc : List Trm) (R : List Tok), R.length = n → Cd c (argsP c f ks acc R) := by
  intro n
  induction n using Nat.strongRecOn with
  | ind n ih =>
    intro acc R hn
    cases hT : takeP c f ks R with
    | bad ec eo => rw [args_bad1 hT]; exact cd_bad take_cd hT
    | ok t r1 =>
      have l1 := take_len hT
      by_cases h8 : acc.length = 8
      · rw [args_lim hT h8]; exact .inr (by decide)
      · rw [args_next hT h8]
        cases hU : takeP c f [7, 6] r1 with
        | bad ec eo => exact cd_bad take_cd hU
        | ok s r2 =>
          have l2 := take_len hU
          simp only
          by_cases h7 : s.k = 7
          · rw [if_pos h7]; exact ih r2.length (by omega) _ r2 rfl
          · rw [if_neg h7]; trivial
theorem atom_cd {c f : Int} {ks : List Int} {name : Tok} {R : List Tok} : Cd c (atomP c f ks name R) := by
  match R with
  | [] => exact .inl rfl
  | t :: r1 =>
    unfold atomP
    simp only
    by_cases h5 : t.k = 5
    · rw [if_pos h5]
      cases hA : argsP c f ks [] r1 with
      | bad ec eo => exact cd_bad (args_cd _ _ _ rfl) hA
      | ok ts r2 => trivial
    · rw [if_neg h5]; trivial
theorem lit_cd {c f : Int} {first : Tok} {R : List Tok} : Cd c (litP c f first R) := by
  have test : Cd c (match takeP c f [11] R with
      | .bad c o => PR.bad c o
      | .ok o1 r' => match takeP c f termKs r' with
        | .bad c o => .bad c o
        | .ok t2 r'' => .ok (⟨3, zeroAtom, o1.op, termP first, termP t2, first.off⟩ : PLit) r'') := by
    cases hT : takeP c f [11] R with
    | bad ec eo => exact cd_bad take_cd hT
    | ok o1 r1 =>
      simp only
      cases hU : takeP c f termKs r1 with
      | bad ec eo => exact cd_bad take_cd hU
      | ok t2 r2 => trivial
  unfold litP
  by_cases h10 : first.k = 10
  · rw [if_pos h10]
    cases hT : takeP c f [1] R with
    | bad ec eo => exact cd_bad take_cd hT
    | ok n r1 =>
      simp only
      cases hA : atomP c f termKs n r1 with
      | bad ec eo => exact cd_bad atom_cd hA
      | ok a r2 => trivial
  · rw [if_neg h10]
    simp only
    by_cases h1 : first.k = 1
    · rw [if_pos h1]
      cases R with
      | nil => exact .inl rfl
      | cons t r1 =>
        simp only
        by_cases h11 : t.k = 11
        · rw [if_pos h11]; exact test
        · rw [if_neg h11]
          cases hA : atomP c f termKs first (t :: r1) with
          | bad ec eo => exact cd_bad atom_cd hA
          | ok a r2 => trivial
    · rw [if_neg h1]; exact test
theorem body_cd {c f : Int} : ∀ (n : Nat) (acc : List PLit) (R : List Tok), Cd c (bodyF c f n acc R) := by
  intro n
  induction n with
  | zero => intro acc R; exact .inl rfl
  | succ n ih =>
    intro acc R
    cases hT : takeP c f [1, 10, 2, 3, 4] R with
    | bad ec eo => rw [body_bad1 hT]; exact cd_bad take_cd hT
    | ok t r1 =>
      by_cases h16 : acc.length = 16
      · rw [body_lim hT h16]; exact .inr (by decide)
      · cases hL : litP c f t r1 with
        | bad ec eo => rw [body_lit hT h16 hL]; exact cd_bad lit_cd hL
        | ok x r2 =>
          cases hU : takeP c f [7, 8] r2 with
          | bad ec eo => rw [body_sep hT h16 hL hU]; exact cd_bad take_cd hU
          | ok s r3 =>
            by_cases h8 : s.k = 8
            · rw [body_end hT h16 hL hU h8]; trivial
            · rw [body_more hT h16 hL hU h8]; exact ih _ _
theorem clause_cd {c f : Int} {name : Tok} {R : List Tok} : Cd c (clauseP c f name R) := by
  unfold clauseP
  cases hA : atomP c f termKs name R with
  | bad ec eo => exact cd_bad atom_cd hA
  | ok a r1 =>
    simp only
    cases hT : takeP c f [8, 9] r1 with
    | bad ec eo => exact cd_bad take_cd hT
    | ok s r2 =>
      simp only
      by_cases h9 : s.k = 9
      · rw [if_pos h9]
        cases hB : bodyP c f r2 with
        | bad ec eo => exact cd_bad (body_cd _ _ _) hB
        | ok b r3 => trivial
      · rw [if_neg h9]; trivial
theorem prog_cd {c f : Int} : ∀ (n : Nat) (acc : List PCls) (R : List Tok), Cd c (progF c f n acc R) := by
  intro n
  induction n with
  | zero => intro acc R; exact .inl rfl
  | succ n ih =>
    intro acc R
    cases hT : takeP c f [1, 0] R with
    | bad e1 e2 => rw [prog_bad1 hT]; exact cd_bad take_cd hT
    | ok t r1 =>
      by_cases h0 : t.k = 0
      · rw [prog_end hT h0]; trivial
      · by_cases h5 : acc.length = 512
        · rw [prog_lim hT h0 h5]; exact .inr (by decide)
        · cases hC : clauseP c f t r1 with
          | bad e1 e2 => rw [prog_cls hT h0 h5 hC]; exact cd_bad clause_cd hC
          | ok x r2 => rw [prog_more hT h0 h5 hC]; exact ih _ _
theorem facts_cd {c f : Int} : ∀ (n : Nat) (acc : List PAtom) (R : List Tok), Cd c (factsF c f n acc R) := by
  intro n
  induction n with
  | zero => intro acc R; exact .inl rfl
  | succ n ih =>
    intro acc R
    cases hT : takeP c f [1, 0] R with
    | bad e1 e2 => rw [facts_bad1 hT]; exact cd_bad take_cd hT
    | ok t r1 =>
      by_cases h0 : t.k = 0
      · rw [facts_end hT h0]; trivial
      · by_cases h5 : acc.length = 4096
        · rw [facts_lim hT h0 h5]; exact .inr (by decide)
        · cases hC : atomP c f valueKs t r1 with
          | bad e1 e2 => rw [facts_atom hT h0 h5 hC]; exact cd_bad atom_cd hC
          | ok x r2 =>
            cases hD : takeP c f [8] r2 with
            | bad e1 e2 => rw [facts_dot hT h0 h5 hC hD]; exact cd_bad take_cd hD
            | ok s r3 => rw [facts_more hT h0 h5 hC hD]; exact ih _ _
theorem query_cd {c f : Int} {R : List Tok} : Cd c (queryP c f R) := by
  unfold queryP
  cases hB : bodyP c f R with
  | bad ec eo => exact cd_bad (body_cd _ _ _) hB
  | ok b r =>
    simp only
    cases hT : takeP c f [0] r with
    | bad ec eo => exact cd_bad take_cd hT
    | ok s r2 => trivial
theorem fact_cd {c f : Int} {R : List Tok} : Cd c (factP c f R) := by
  unfold factP
  cases hT : takeP c f [1] R with
  | bad ec eo => exact cd_bad take_cd hT
  | ok t r =>
    simp only
    cases hA : atomP c f valueKs t r with
    | bad ec eo => exact cd_bad atom_cd hA
    | ok a r2 =>
      simp only
      cases hD : takeP c f [0] r2 with
      | bad ec eo => exact cd_bad take_cd hD
      | ok s r3 => trivial
def fltP {α : Type} : PR α → Int × Int
  | .bad c o => (c, o)
  | .ok _ _ => (0, 0)
theorem flt_ne1 {α : Type} {c : Int} {x : PR α} (h : Cd c x) (hc : c ≠ 1) : (fltP x).1 ≠ 1 := by
  cases x with
  | bad ec eo => show ec ≠ 1; rcases h with h | h <;> omega
  | ok a r => show (0 : Int) ≠ 1; decide
theorem toks_c {s : ByteArray} {o : Nat} {L : List Tok} {c : Int} {f : Nat} (h : Toks s o L c f) : c ≠ 1 := by
  induction h with
  | bad ho hx => rcases next_bad hx with h | h <;> omega
  | last ho hx hk => decide
  | more ho hx hk T ih => exact ih
/-- The fault that each of the four readers tells. -/
def fOf (r : Nat) (s : ByteArray) : Int × Int :=
  if r = 0 then fltP (progP (scanX s).2.1 ((scanX s).2.2 : Int) (scanX s).1)
  else if r = 1 then fltP (factsP (scanX s).2.1 ((scanX s).2.2 : Int) (scanX s).1)
  else if r = 2 then fltP (queryP (scanX s).2.1 ((scanX s).2.2 : Int) (scanX s).1)
  else fltP (factP (scanX s).2.1 ((scanX s).2.2 : Int) (scanX s).1)
theorem fOf_short (r : Nat) {s : ByteArray} (h : s.size ≤ 65536) : (fOf r s).1 ≠ 1 := by
  have hc := toks_c (scan_toks s h)
  unfold fOf
  split
  · exact flt_ne1 (prog_cd _ _ _) hc
  · split
    · exact flt_ne1 (facts_cd _ _ _) hc
    · split
      · exact flt_ne1 query_cd hc
      · exact flt_ne1 fact_cd hc
theorem fOf_long (r : Nat) {s : ByteArray} (h : 65536 < s.size) : fOf r s = (1, 0) := by
  have e : scanX s = ([], 1, 0) := if_pos (by omega)
  unfold fOf
  rw [e]
  split
  · rfl
  · split
    · rfl
    · split <;> rfl
end Go.Proofs.YtjofiibfgfdleaaDoor

namespace Go.Proofs.YtjofiibfgfdleaaDoor
set_option linter.unusedSimpArgs false
set_option linter.unusedVariables false
open Go.RowKit

theorem toks_wf {s : ByteArray} {o : Nat} {L : List Tok} {c : Int} {f : Nat} (h : Toks s o L c f) : Wf c L := by
  induction h with
  | bad ho hx => unfold Wf; have := next_bad hx; omega
  | last ho hx hk => unfold Wf; rw [if_pos hk]; exact ⟨rfl, rfl⟩
  | more ho hx hk _ ih => unfold Wf; rw [if_neg hk]; exact ih
theorem scan_wf (s : ByteArray) : Wf (scanX s).2.1 (scanX s).1 := by
  by_cases h : s.size ≤ 65536
  · exact toks_wf (scan_toks s h)
  · rw [show scanX s = ([], 1, 0) from if_pos (by omega)]
    unfold Wf; decide
def fstR (r : Nat) : Int := if r = 0 then 0 else if r = 1 then 15 else if r = 2 then 5 else 20
def fltU : PR Unit → Int × Int
  | .bad x o => (x, o)
  | .ok _ _ => (0, 0)
theorem flt_meet {α : Type} {P : PR α} {Q : PR Unit} (h1 : ∀ x o, P = .bad x o → Q = .bad x o) (h2 : ∀ b r, P = .ok b r → Q = .ok () []) : fltP P = fltU Q := by
  cases P with
  | bad x o => rw [h1 x o rfl]; rfl
  | ok b r => rw [h2 b r rfl]; rfl
theorem fOf_chk (r : Nat) (hr : r < 4) (s : ByteArray) : fOf r s = fltU (chkR (scanX s).2.1 ((scanX s).2.2 : Int) (fstR r) (fstR r) ⟨0, 0, 0⟩ (scanX s).1) := by
  have hw := scan_wf s
  match r, hr with
  | 0, _ => exact flt_meet (prog_meet hw).1 fun b r h => ((prog_meet hw).2 b r h).1
  | 1, _ => exact flt_meet (facts_meet hw).1 fun b r h => ((facts_meet hw).2 b r h).1
  | 2, _ => exact flt_meet (query_meet hw).1 fun b r h => ((query_meet hw).2 b r h).1
  | 3, _ => exact flt_meet (fact_meet hw).1 fun b r h => ((fact_meet hw).2 b r h).1
theorem take_fin (first : Int) (c : Cnt) (s : Int) (h : moveP first s 0 ≠ -1) : takeC c s 0 = c := by
  have h5 : s ≠ 5 := fun e => by subst e; exact h (by unfold moveP moveBodyP isTermB; simp)
  have h2 : s ≠ 2 := fun e => by subst e; exact h (by unfold moveP moveHeadP isTermB; simp)
  have h9 : s ≠ 9 := fun e => by subst e; exact h (by unfold moveP moveBodyP isTermB; simp)
  have h17 : s ≠ 17 := fun e => by subst e; exact h (by unfold moveP moveFactP isValueB; simp)
  have h22 : s ≠ 22 := fun e => by subst e; exact h (by unfold moveP moveFactP isValueB; simp)
  unfold takeC
  simp [h5, h2, h9, h17, h22]
theorem over_code (first : Int) (c : Cnt) : overC first c = 0 ∨ (22 ≤ overC first c ∧ overC first c ≤ 24) := by
  unfold overC
  split
  · exact .inr (by decide)
  · split
    · exact .inr (by decide)
    · split
      · exact .inr (by decide)
      · exact .inl rfl
/-- A fault of the grammar stands at a token, whatever follows it. -/
theorem chk_at {ec eo first : Int} : ∀ (L : List Tok) (s : Int) (c : Cnt) (x o : Int), overC first c = 0 → chkR ec eo first s c L = .bad x o → (x = ec ∧ ec ≠ 0) ∨
    ∃ X t r, L = X ++ t :: r ∧ (t.off : Int) = o ∧ (x = 20 ∨ x = 21 ∨ (22 ≤ x ∧ x ≤ 24)) ∧ (x = 21 ↔ t.k = 0) ∧ ∀ (ec' eo' : Int) (r' : List Tok), chkR ec' eo' first s c (X ++ t :: r') = .bad x o
  | [], s, c, x, o, h0, h => by
    unfold chkR at h
    split at h
    · cases h
    · rename_i he; cases h; exact .inl ⟨rfl, he⟩
  | t :: r, s, c, x, o, h0, h => by
    unfold chkR at h
    split at h
    · rename_i hm
      injection h with e1 e2
      subst e1 e2
      refine .inr ⟨[], t, r, rfl, rfl, ?_, ?_, fun ec' eo' r' => ?_⟩
      · unfold misK; split <;> simp
      · unfold misK; split <;> simp_all
      · rw [List.nil_append]; exact chk_mis hm
    · rename_i hm
      split at h
      · rename_i hov
        injection h with e1 e2
        subst e1 e2
        have hc := (over_code first (takeC c s t.k)).resolve_left hov
        refine .inr ⟨[], t, r, rfl, rfl, .inr (.inr hc), ⟨fun e => by omega, fun e => ?_⟩, fun ec' eo' r' => ?_⟩
        · exfalso
          rw [e] at hm hov
          rw [take_fin first c s hm] at hov
          exact hov h0
        · rw [List.nil_append, chkR, if_neg hm, if_pos hov]
      · rename_i hov
        have hov0 : overC first (takeC c s t.k) = 0 := Decidable.not_not.1 hov
        rcases chk_at r _ _ x o hov0 h with h1 | ⟨X, u, q, h1, h2, h3, h4, h5⟩
        · exact .inl h1
        · refine .inr ⟨t :: X, u, q, by rw [h1]; rfl, h2, h3, h4, fun ec' eo' r' => ?_⟩
          rw [List.cons_append, chkR, if_neg hm, if_neg hov]
          exact h5 ec' eo' r'
theorem toks_ge {s : ByteArray} {o : Nat} {L : List Tok} {c : Int} {f : Nat} (h : Toks s o L c f) : ∀ u ∈ L, o ≤ u.off ∧ u.en ≤ s.size := by
  induction h with
  | bad ho hx => simp
  | last ho hx hk =>
    intro u hu
    simp only [List.mem_singleton] at hu; subst hu
    obtain ⟨-, -, h3, h4⟩ := next_tok ho hx
    exact ⟨h3, by rcases h4 with h | h <;> omega⟩
  | more ho hx hk _ ih =>
    intro u hu
    obtain ⟨-, -, h3, h4⟩ := next_tok ho hx
    rcases List.mem_cons.1 hu with rfl | hu
    · exact ⟨h3, by rcases h4 with h | h <;> omega⟩
    · have := ih u hu
      exact ⟨by rcases h4 with h | h <;> omega, this.2⟩
theorem toks_one {s : ByteArray} {o : Nat} {L : List Tok} {c : Int} {f : Nat} (h : Toks s o L c f) : ∀ u ∈ L, ∀ v ∈ L, u.off = v.off → u.off < u.en → v.off < v.en → u.en = v.en := by
  induction h with
  | bad ho hx => simp
  | last ho hx hk =>
    intro u hu v hv
    simp only [List.mem_singleton] at hu hv; subst hu hv
    intros; rfl
  | more ho hx hk hT ih =>
    rename_i o t r c f
    have hge := toks_ge hT
    obtain ⟨-, -, h3, h4⟩ := next_tok ho hx
    have h5 : t.off < t.en := by rcases h4 with h | h <;> omega
    intro u hu v hv e1 e2 e3
    rcases List.mem_cons.1 hu with hu' | hu'
    · rcases List.mem_cons.1 hv with hv' | hv'
      · rw [hu', hv']
      · have := (hge v hv').1; rw [hu'] at e1; omega
    · rcases List.mem_cons.1 hv with hv' | hv'
      · have := (hge u hu').1; rw [hv'] at e1; omega
      · exact ih u hu' v hv' e1 e2 e3
/-- The tokens up to one that ends where two texts part. -/
theorem toks_prefix {s s' : ByteArray} {o : Nat} {L : List Tok} {c : Int} {f : Nat} (h : Toks s o L c f) : ∀ X t r, L = X ++ t :: r → t.k ≠ 0 → Pre s s' t.en → (∃ r' c' f', Toks s' o (X ++ t :: r') c' f') ∧ t.off < t.en := by
  induction h with
  | bad ho hx => intro X t r he; exact absurd he (by simp)
  | last ho hx hk =>
    intro X t r he htk
    exfalso
    cases X with
    | nil => rw [List.nil_append] at he; injection he with e1 e2; subst e1; exact htk hk
    | cons a X => have := congrArg List.length he; simp at this
  | more ho hx hk hT ih =>
    rename_i o u q c f
    intro X t r he htk hp
    obtain ⟨-, -, h3, h4⟩ := next_tok ho hx
    have h5 : u.off < u.en := by rcases h4 with h | h <;> omega
    cases X with
    | nil =>
      rw [List.nil_append] at he
      injection he with e1 e2
      subst e1
      have hn := (hp.next ho hx hk (Nat.le_refl _)).1
      obtain ⟨r', c', f', -, T⟩ := each_toks s' _ u.en [] rfl hp.le'
      exact ⟨⟨r', c', f', .more (by have := hp.le'; omega) hn hk T⟩, h5⟩
    | cons a X =>
      rw [List.cons_append] at he
      injection he with e1 e2
      subst e1
      obtain ⟨⟨r', c', f', T⟩, h6⟩ := ih X t r e2 htk hp
      have hge := (toks_ge hT t (by rw [e2]; simp)).1
      have hn := (hp.next ho hx hk (by omega)).1
      refine ⟨⟨r', c', f', ?_⟩, h6⟩
      rw [List.cons_append]
      exact .more (by have := hp.le'; omega) hn hk T
def cutB (s : ByteArray) (e : Nat) (m : ByteArray) : ByteArray := s.extract 0 e ++ ⟨#[10]⟩ ++ m
theorem cut_size (s : ByteArray) (e : Nat) (m : ByteArray) (h : e ≤ s.size) : (cutB s e m).size = e + 1 + m.size := by
  unfold cutB
  rw [ByteArray.size_append, ByteArray.size_append, ByteArray.size_extract]
  show min e s.size - 0 + 1 + m.size = _
  omega
theorem cut_pre (s : ByteArray) (e : Nat) (m : ByteArray) (h : e ≤ s.size) : Pre s (cutB s e m) e := by
  have hl : (s.extract 0 e).data.toList = s.data.toList.take e := by
    rw [ByteArray.data_extract, Array.toList_extract, List.extract_eq_take_drop, List.drop_zero, Nat.sub_zero]
  have hlen : (s.data.toList.take e).length = e := by rw [List.length_take]; exact Nat.min_eq_left h
  have hd : (cutB s e m).data.toList = s.data.toList.take e ++ (10 :: m.data.toList) := by
    unfold cutB
    rw [ByteArray.data_append, ByteArray.data_append, Array.toList_append, Array.toList_append, hl, List.append_assoc]
    rfl
  refine ⟨h, by rw [cut_size s e m h]; omega, fun i hi => ?_, fun b hb => ?_⟩
  · rw [hd, List.getElem?_append_left (by rw [hlen]; exact hi), List.getElem?_take, if_pos hi]
  · rw [hd, List.getElem?_append_right (by rw [hlen]; exact Nat.le_refl _), hlen, Nat.sub_self] at hb
    exact .inr (.inl (Option.some.inj hb).symm)
theorem toks_code {s : ByteArray} {o : Nat} {L : List Tok} {c : Int} {f : Nat} (h : Toks s o L c f) : c ≤ 16 := by
  induction h with
  | bad ho hx => have := next_bad hx; omega
  | last => decide
  | more _ _ _ _ ih => exact ih
theorem scan_code (s : ByteArray) : (scanX s).2.1 ≤ 16 := by
  by_cases h : s.size ≤ 65536
  · exact toks_code (scan_toks s h)
  · rw [show scanX s = ([], 1, 0) from if_pos (by omega)]
    decide
/-- The fault of a text stays when it is cut off behind the token at which it stands, whatever follows. -/
theorem behind {r : Nat} (hr : r < 4) {s : ByteArray} {x o : Int} (h : fOf r s = (x, o)) (h20 : 20 ≤ x) (h21 : x ≠ 21) :
    ∃ t ∈ (scanX s).1, (t.off : Int) = o ∧ t.off < t.en ∧ t.en ≤ s.size ∧ (∀ u ∈ (scanX s).1, (u.off : Int) = o → u.off < u.en → u.en = t.en) ∧ ∀ m : ByteArray, t.en + 1 + m.size ≤ 65536 → fOf r (cutB s t.en m) = (x, o) := by
  have hsz : s.size ≤ 65536 := by
    rcases Nat.lt_or_ge 65536 s.size with hh | hh
    · exfalso
      rw [fOf_chk r hr, show scanX s = ([], 1, 0) from if_pos hh] at h
      have e : fltU (chkR 1 ((0 : Nat) : Int) (fstR r) (fstR r) ⟨0, 0, 0⟩ []) = (1, 0) := by unfold chkR; rfl
      simp only at h
      rw [e] at h
      injection h with h1 h2
      omega
    · exact hh
  have T := scan_toks s hsz
  rw [fOf_chk r hr] at h
  cases hC : chkR (scanX s).2.1 ((scanX s).2.2 : Int) (fstR r) (fstR r) ⟨0, 0, 0⟩ (scanX s).1 with
  | ok u q => rw [hC] at h; injection h with h1 h2; omega
  | bad x' o' =>
    rw [hC] at h
    injection h with h1 h2
    subst h1 h2
    have h00 : overC (fstR r) ⟨0, 0, 0⟩ = 0 := by unfold overC; simp
    rcases chk_at _ _ _ _ _ h00 hC with ⟨e1, -⟩ | ⟨X, t, q, e1, e2, e3, e4, e5⟩
    · have := scan_code s; omega
    · have htk : t.k ≠ 0 := fun e => h21 (e4.2 e)
      have hmem : t ∈ (scanX s).1 := by rw [e1]; simp
      have hen := (toks_ge T t hmem).2
      have hlt := (toks_prefix T X t q e1 htk (cut_pre s t.en ⟨#[]⟩ hen)).2
      refine ⟨t, hmem, e2, hlt, hen, fun u hu e6 e7 => ?_, fun m hm => ?_⟩
      · exact toks_one T u hu t hmem (by omega) e7 hlt
      · obtain ⟨⟨r', c', f', T'⟩, -⟩ := toks_prefix T X t q e1 htk (cut_pre s t.en m hen)
        rw [fOf_chk r hr, scan_eq (by rw [cut_size s t.en m hen]; exact hm) T']
        simp only
        rw [e5]
        rfl
end Go.Proofs.YtjofiibfgfdleaaDoor

namespace Go.Proofs.YtjofiibfgfdleaaDoor
set_option linter.unusedSimpArgs false
set_option linter.unusedVariables false
open Go.RowKit

def elTk : El Tok where
  cells := cells6
  size := 6
  pos := by decide
  len _ := rfl
  ok _ _ _ := True
  one _ u hu := by simp only [cells6, List.mem_cons, List.not_mem_nil, or_false] at hu; rcases hu with rfl | rfl | rfl | rfl | rfl | rfl <;> rfl
  move h _ := h
end Go.Proofs.YtjofiibfgfdleaaDoor

namespace Go.Proofs.YtjofiibfgfdleaaDoor
set_option linter.unusedSimpArgs false
set_option linter.unusedVariables false
open Go.RowKit

/-- No token follows for a reason, or the end is still ahead. -/
def NE (c : Int) (R : List Tok) : Prop := c ≠ 0 ∨ ∃ t ∈ R, t.k = 0
def Bd {α : Type} (c : Int) : PR α → Prop
  | .bad ec _ => ec ≠ 0
  | .ok _ r => NE c r
theorem misK_ne (k : Int) : misK k ≠ 0 := by unfold misK; split <;> decide
theorem NE.next {c : Int} {t : Tok} {r : List Tok} (h : NE c (t :: r)) (ht : t.k ≠ 0) : NE c r := by
  rcases h with h | ⟨x, hx, h0⟩
  · exact .inl h
  · rcases List.mem_cons.1 hx with rfl | hx
    · exact absurd h0 ht
    · exact .inr ⟨x, hx, h0⟩
theorem NE.nil {c : Int} (h : NE c []) : c ≠ 0 := by
  rcases h with h | ⟨x, hx, _⟩
  · exact h
  · cases hx
theorem take_bd {c f : Int} {ks : List Int} {R : List Tok} (h : NE c R) (h0 : (0 : Int) ∉ ks) : Bd c (takeP c f ks R) := by
  match R, h with
  | [], h => exact h.nil
  | t :: r, h =>
    simp only [takeP]
    by_cases hm : t.k ∈ ks
    · rw [if_pos hm]; exact h.next (fun e => h0 (e ▸ hm))
    · rw [if_neg hm]; exact misK_ne _
theorem take_bd0 {c f ec eo : Int} {ks : List Int} {R : List Tok} (h : NE c R) (hT : takeP c f ks R = .bad ec eo) : ec ≠ 0 := by
  match R, h, hT with
  | [], h, hT => simp only [takeP] at hT; injection hT with e1 e2; subst e1; exact h.nil
  | t :: r, h, hT =>
    simp only [takeP] at hT
    by_cases hm : t.k ∈ ks
    · rw [if_pos hm] at hT; cases hT
    · rw [if_neg hm] at hT; injection hT with e1 e2; subst e1; exact misK_ne _
theorem bd_bad {α : Type} {c ec eo : Int} {x : PR α} (h : Bd c x) (e : x = .bad ec eo) : ec ≠ 0 := by subst e; exact h
theorem bd_ok {α : Type} {c : Int} {x : PR α} {a : α} {r : List Tok} (h : Bd c x) (e : x = .ok a r) : NE c r := by subst e; exact h
theorem args_bd {c f : Int} {ks : List Int} (h0 : (0 : Int) ∉ ks) : ∀ (n : Nat) (acc : List Trm) (R : List Tok), R.length = n → NE c R → Bd c (argsP c f ks acc R) := by
  intro n
  induction n using Nat.strongRecOn with
  | ind n ih =>
    intro acc R hn h
    have b1 := take_bd (f := f) h h0
    cases hT : takeP c f ks R with
    | bad ec eo => rw [args_bad1 hT]; exact bd_bad b1 hT
    | ok t r1 =>
      have l1 := take_len hT
      by_cases h8 : acc.length = 8
      · rw [args_lim hT h8]; show (22 : Int) ≠ 0; decide
      · rw [args_next hT h8]
        have b2 := take_bd (f := f) (ks := [7, 6]) (bd_ok b1 hT) (by decide)
        cases hU : takeP c f [7, 6] r1 with
        | bad ec eo => exact bd_bad b2 hU
        | ok s r2 =>
          have l2 := take_len hU
          simp only
          by_cases h7 : s.k = 7
          · rw [if_pos h7]; exact ih r2.length (by omega) _ r2 rfl (bd_ok b2 hU)
          · rw [if_neg h7]; exact bd_ok b2 hU
theorem atom_bd {c f : Int} {ks : List Int} (h0 : (0 : Int) ∉ ks) {name : Tok} {R : List Tok} (h : NE c R) : Bd c (atomP c f ks name R) := by
  match R, h with
  | [], h => exact h.nil
  | t :: r1, h =>
    unfold atomP
    simp only
    by_cases h5 : t.k = 5
    · rw [if_pos h5]
      have b := args_bd (f := f) h0 _ [] r1 rfl (h.next (by omega))
      cases hA : argsP c f ks [] r1 with
      | bad ec eo => exact bd_bad b hA
      | ok ts r2 => exact bd_ok b hA
    · rw [if_neg h5]; exact h
theorem lit_bd {c f : Int} {first : Tok} {R : List Tok} (h : NE c R) : Bd c (litP c f first R) := by
  have test : Bd c (match takeP c f [11] R with
      | .bad c o => PR.bad c o
      | .ok o1 r' => match takeP c f termKs r' with
        | .bad c o => .bad c o
        | .ok t2 r'' => .ok (⟨3, zeroAtom, o1.op, termP first, termP t2, first.off⟩ : PLit) r'') := by
    have b1 := take_bd (f := f) (ks := [11]) h (by decide)
    cases hT : takeP c f [11] R with
    | bad ec eo => exact bd_bad b1 hT
    | ok o1 r1 =>
      simp only
      have b2 := take_bd (f := f) (ks := termKs) (bd_ok b1 hT) (by decide)
      cases hU : takeP c f termKs r1 with
      | bad ec eo => exact bd_bad b2 hU
      | ok t2 r2 => exact bd_ok b2 hU
  unfold litP
  by_cases h10 : first.k = 10
  · rw [if_pos h10]
    have b1 := take_bd (f := f) (ks := [1]) h (by decide)
    cases hT : takeP c f [1] R with
    | bad ec eo => exact bd_bad b1 hT
    | ok n r1 =>
      simp only
      have b2 := atom_bd (f := f) (ks := termKs) (by decide) (name := n) (bd_ok b1 hT)
      cases hA : atomP c f termKs n r1 with
      | bad ec eo => exact bd_bad b2 hA
      | ok a r2 => exact bd_ok b2 hA
  · rw [if_neg h10]
    simp only
    by_cases h1 : first.k = 1
    · rw [if_pos h1]
      cases R with
      | nil => exact h.nil
      | cons t r1 =>
        simp only
        by_cases h11 : t.k = 11
        · rw [if_pos h11]; exact test
        · rw [if_neg h11]
          have b2 := atom_bd (f := f) (ks := termKs) (by decide) (name := first) h
          cases hA : atomP c f termKs first (t :: r1) with
          | bad ec eo => exact bd_bad b2 hA
          | ok a r2 => exact bd_ok b2 hA
    · rw [if_neg h1]; exact test
theorem body_bd {c f : Int} : ∀ (n : Nat) (acc : List PLit) (R : List Tok), R.length < n → NE c R → Bd c (bodyF c f n acc R) := by
  intro n
  induction n with
  | zero => intro acc R hn; omega
  | succ n ih =>
    intro acc R hn h
    have b1 := take_bd (f := f) (ks := [1, 10, 2, 3, 4]) h (by decide)
    cases hT : takeP c f [1, 10, 2, 3, 4] R with
    | bad ec eo => rw [body_bad1 hT]; exact bd_bad b1 hT
    | ok t r1 =>
      have l1 := take_len hT
      by_cases h16 : acc.length = 16
      · rw [body_lim hT h16]; show (23 : Int) ≠ 0; decide
      · have b2 := lit_bd (f := f) (first := t) (bd_ok b1 hT)
        cases hL : litP c f t r1 with
        | bad ec eo => rw [body_lit hT h16 hL]; exact bd_bad b2 hL
        | ok x r2 =>
          have l2 := lit_len hL
          have b3 := take_bd (f := f) (ks := [7, 8]) (bd_ok b2 hL) (by decide)
          cases hU : takeP c f [7, 8] r2 with
          | bad ec eo => rw [body_sep hT h16 hL hU]; exact bd_bad b3 hU
          | ok s r3 =>
            have l3 := take_len hU
            by_cases h8 : s.k = 8
            · rw [body_end hT h16 hL hU h8]; exact bd_ok b3 hU
            · rw [body_more hT h16 hL hU h8]; exact ih _ _ (by omega) (bd_ok b3 hU)
theorem clause_bd {c f : Int} {name : Tok} {R : List Tok} (h : NE c R) : Bd c (clauseP c f name R) := by
  unfold clauseP
  have b1 := atom_bd (f := f) (ks := termKs) (by decide) (name := name) h
  cases hA : atomP c f termKs name R with
  | bad ec eo => exact bd_bad b1 hA
  | ok a r1 =>
    simp only
    have b2 := take_bd (f := f) (ks := [8, 9]) (bd_ok b1 hA) (by decide)
    cases hT : takeP c f [8, 9] r1 with
    | bad ec eo => exact bd_bad b2 hT
    | ok s r2 =>
      simp only
      by_cases h9 : s.k = 9
      · rw [if_pos h9]
        have b3 := body_bd (f := f) (r2.length + 1) [] r2 (by omega) (bd_ok b2 hT)
        cases hB : bodyP c f r2 with
        | bad ec eo => exact bd_bad b3 hB
        | ok b r3 => exact bd_ok b3 hB
      · rw [if_neg h9]; exact bd_ok b2 hT
theorem prog_ne {c f ec eo : Int} : ∀ (n : Nat) (acc : List PCls) (R : List Tok), R.length < n → NE c R → progF c f n acc R = .bad ec eo → ec ≠ 0 := by
  intro n
  induction n with
  | zero => intro acc R hn; omega
  | succ n ih =>
    intro acc R hn h he
    cases hT : takeP c f [1, 0] R with
    | bad e1 e2 => rw [prog_bad1 hT] at he; injection he with q1 q2; subst q1; exact take_bd0 h hT
    | ok t r1 =>
      have l1 := take_len hT
      by_cases h0 : t.k = 0
      · rw [prog_end hT h0] at he; cases he
      · have n1 : NE c r1 := by rw [(take_eq hT).1] at h; exact h.next h0
        by_cases h5 : acc.length = 512
        · rw [prog_lim hT h0 h5] at he; injection he with q1 q2; subst q1; decide
        · have b := clause_bd (f := f) (name := t) n1
          cases hC : clauseP c f t r1 with
          | bad e1 e2 => rw [prog_cls hT h0 h5 hC] at he; injection he with q1 q2; subst q1; exact bd_bad b hC
          | ok x r2 =>
            have l2 := clause_len hC
            rw [prog_more hT h0 h5 hC] at he
            exact ih _ _ (by omega) (bd_ok b hC) he
theorem facts_ne {c f ec eo : Int} : ∀ (n : Nat) (acc : List PAtom) (R : List Tok), R.length < n → NE c R → factsF c f n acc R = .bad ec eo → ec ≠ 0 := by
  intro n
  induction n with
  | zero => intro acc R hn; omega
  | succ n ih =>
    intro acc R hn h he
    cases hT : takeP c f [1, 0] R with
    | bad e1 e2 => rw [facts_bad1 hT] at he; injection he with q1 q2; subst q1; exact take_bd0 h hT
    | ok t r1 =>
      have l1 := take_len hT
      by_cases h0 : t.k = 0
      · rw [facts_end hT h0] at he; cases he
      · have n1 : NE c r1 := by rw [(take_eq hT).1] at h; exact h.next h0
        by_cases h5 : acc.length = 4096
        · rw [facts_lim hT h0 h5] at he; injection he with q1 q2; subst q1; decide
        · have b := atom_bd (f := f) (ks := valueKs) (by decide) (name := t) n1
          cases hC : atomP c f valueKs t r1 with
          | bad e1 e2 => rw [facts_atom hT h0 h5 hC] at he; injection he with q1 q2; subst q1; exact bd_bad b hC
          | ok x r2 =>
            have l2 := atom_len hC
            have b2 := take_bd (f := f) (ks := [8]) (bd_ok b hC) (by decide)
            cases hD : takeP c f [8] r2 with
            | bad e1 e2 => rw [facts_dot hT h0 h5 hC hD] at he; injection he with q1 q2; subst q1; exact bd_bad b2 hD
            | ok s r3 =>
              have l3 := take_len hD
              rw [facts_more hT h0 h5 hC hD] at he
              exact ih _ _ (by omega) (bd_ok b2 hD) he
theorem toks_ne {s : ByteArray} {o : Nat} {L : List Tok} {c : Int} {f : Nat} (h : Toks s o L c f) : NE c L := by
  induction h with
  | bad ho hx => rcases next_bad hx with h | h <;> exact .inl (by omega)
  | last ho hx hk => exact .inr ⟨_, List.mem_singleton.2 rfl, hk⟩
  | more ho hx hk T ih =>
    rcases ih with h | ⟨x, hx, h0⟩
    · exact .inl h
    · exact .inr ⟨x, List.mem_cons_of_mem _ hx, h0⟩
theorem scan_ne (s : ByteArray) : NE (scanX s).2.1 (scanX s).1 := by
  by_cases hs : s.size ≤ 65536
  · exact toks_ne (scan_toks s hs)
  · have e : scanX s = ([], 1, 0) := if_pos (by omega)
    rw [e]; exact .inl (by decide)
end Go.Proofs.YtjofiibfgfdleaaDoor

namespace Go.Proofs.YtjofiibfgfdleaaDoor
set_option linter.unusedSimpArgs false
set_option linter.unusedVariables false
open Go.RowKit

def mkC (a : PAtom) : PCls := ⟨a, []⟩
def gAtom (a : PAtom) : Bool := a.ts.all fun t => t.k != 4
def gCls (x : PCls) : Bool := x.b.isEmpty && gAtom x.h
theorem value_term {k : Int} (h : k ∈ valueKs) : k ∈ termKs ∧ kindT k ≠ 4 := by
  simp only [valueKs, List.mem_cons, List.not_mem_nil, or_false] at h
  rcases h with rfl | rfl | rfl <;> exact ⟨by decide, by decide⟩
theorem term_value {k : Int} (h : k ∈ termKs) (h4 : kindT k ≠ 4) : k ∈ valueKs := by
  simp only [termKs, List.mem_cons, List.not_mem_nil, or_false] at h
  rcases h with rfl | rfl | rfl | rfl
  · exact absurd rfl h4
  all_goals decide
theorem take_sub {c f : Int} {ks ls : List Int} {R r : List Tok} {t : Tok} (h : takeP c f ks R = .ok t r) (hl : t.k ∈ ls) : takeP c f ls R = .ok t r := by
  obtain ⟨rfl, _⟩ := take_eq h
  simp only [takeP]
  rw [if_pos hl]
theorem args_val {c f : Int} : ∀ (n : Nat) (acc : List Trm) (R r : List Tok) (ts : List Trm), R.length = n → argsP c f valueKs acc R = .ok ts r → argsP c f termKs acc R = .ok ts r ∧ ∃ us, ts = acc ++ us ∧ ∀ u ∈ us, u.k ≠ 4 := by
  intro n
  induction n using Nat.strongRecOn with
  | ind n ih =>
    intro acc R r ts hn h
    cases hT : takeP c f valueKs R with
    | bad ec eo => rw [args_bad1 hT] at h; cases h
    | ok t r1 =>
      have l1 := take_len hT
      have hv := value_term (take_eq hT).2
      have hT2 := take_sub hT hv.1
      by_cases h8 : acc.length = 8
      · rw [args_lim hT h8] at h; cases h
      · rw [args_next hT h8] at h
        rw [args_next hT2 h8]
        cases hU : takeP c f [7, 6] r1 with
        | bad ec eo => rw [hU] at h; cases h
        | ok s r2 =>
          have l2 := take_len hU
          rw [hU] at h
          simp only at h ⊢
          by_cases h7 : s.k = 7
          · rw [if_pos h7] at h ⊢
            obtain ⟨q1, us, q2, q3⟩ := ih r2.length (by omega) _ r2 r ts rfl h
            refine ⟨q1, termP t :: us, by rw [q2, List.append_assoc]; rfl, fun u hu => ?_⟩
            rcases List.mem_cons.1 hu with rfl | hu
            · exact hv.2
            · exact q3 u hu
          · rw [if_neg h7] at h ⊢
            injection h with e1 e2
            subst e1 e2
            exact ⟨rfl, [termP t], rfl, fun u hu => by simp only [List.mem_singleton] at hu; subst hu; exact hv.2⟩
theorem args_term {c f : Int} : ∀ (n : Nat) (acc : List Trm) (R r : List Tok) (ts : List Trm), R.length = n → argsP c f termKs acc R = .ok ts r → (∃ us, ts = acc ++ us) ∧ ((∀ u ∈ ts, u.k ≠ 4) → argsP c f valueKs acc R = .ok ts r) := by
  intro n
  induction n using Nat.strongRecOn with
  | ind n ih =>
    intro acc R r ts hn h
    cases hT : takeP c f termKs R with
    | bad ec eo => rw [args_bad1 hT] at h; cases h
    | ok t r1 =>
      have l1 := take_len hT
      have ht := (take_eq hT).2
      by_cases h8 : acc.length = 8
      · rw [args_lim hT h8] at h; cases h
      · rw [args_next hT h8] at h
        cases hU : takeP c f [7, 6] r1 with
        | bad ec eo => rw [hU] at h; cases h
        | ok s r2 =>
          have l2 := take_len hU
          rw [hU] at h
          simp only at h
          by_cases h7 : s.k = 7
          · rw [if_pos h7] at h
            obtain ⟨⟨us, q2⟩, q1⟩ := ih r2.length (by omega) _ r2 r ts rfl h
            refine ⟨⟨termP t :: us, by rw [q2, List.append_assoc]; rfl⟩, fun hg => ?_⟩
            have hv := term_value ht (hg (termP t) (by rw [q2]; simp))
            rw [args_next (take_sub hT hv) h8, hU]
            simp only
            rw [if_pos h7]
            exact q1 hg
          · rw [if_neg h7] at h
            injection h with e1 e2
            subst e1 e2
            refine ⟨⟨_, rfl⟩, fun hg => ?_⟩
            have hv := term_value ht (hg (termP t) (by simp))
            rw [args_next (take_sub hT hv) h8, hU]
            simp only
            rw [if_neg h7]
theorem atom_val {c f : Int} {name : Tok} {R r : List Tok} {a : PAtom} (h : atomP c f valueKs name R = .ok a r) : atomP c f termKs name R = .ok a r ∧ gAtom a = true := by
  match R, h with
  | [], h => simp [atomP] at h
  | t :: r1, h =>
    unfold atomP at h ⊢
    simp only at h ⊢
    by_cases h5 : t.k = 5
    · rw [if_pos h5] at h ⊢
      cases hA : argsP c f valueKs [] r1 with
      | bad ec eo => rw [hA] at h; cases h
      | ok ts r2 =>
        rw [hA] at h
        injection h with e1 e2
        subst e1 e2
        obtain ⟨q1, us, q2, q3⟩ := args_val _ _ _ _ _ rfl hA
        rw [q1]
        refine ⟨rfl, ?_⟩
        unfold gAtom
        rw [List.all_eq_true]
        intro u hu
        have := q3 u (by rw [q2] at hu; simpa using hu)
        simpa using this
    · rw [if_neg h5] at h ⊢
      injection h with e1 e2
      subst e1 e2
      exact ⟨rfl, rfl⟩
theorem atom_term {c f : Int} {name : Tok} {R r : List Tok} {a : PAtom} (h : atomP c f termKs name R = .ok a r) (hg : gAtom a = true) : atomP c f valueKs name R = .ok a r := by
  match R, h with
  | [], h => simp [atomP] at h
  | t :: r1, h =>
    unfold atomP at h ⊢
    simp only at h ⊢
    by_cases h5 : t.k = 5
    · rw [if_pos h5] at h ⊢
      cases hA : argsP c f termKs [] r1 with
      | bad ec eo => rw [hA] at h; cases h
      | ok ts r2 =>
        rw [hA] at h
        injection h with e1 e2
        subst e1 e2
        rw [(args_term _ _ _ _ _ rfl hA).2 (fun u hu => by unfold gAtom at hg; have := List.all_eq_true.1 hg u hu; simpa using this)]
    · rw [if_neg h5] at h ⊢
      exact h
theorem body_nonempty {c f : Int} : ∀ (n : Nat) (acc : List PLit) (R r : List Tok) (b : List PLit), bodyF c f n acc R = .ok b r → b ≠ [] := by
  intro n
  induction n with
  | zero => intro acc R r b h; cases h
  | succ n ih =>
    intro acc R r b h
    cases hT : takeP c f [1, 10, 2, 3, 4] R with
    | bad ec eo => rw [body_bad1 hT] at h; cases h
    | ok t r1 =>
      by_cases h16 : acc.length = 16
      · rw [body_lim hT h16] at h; cases h
      · cases hL : litP c f t r1 with
        | bad ec eo => rw [body_lit hT h16 hL] at h; cases h
        | ok x r2 =>
          cases hU : takeP c f [7, 8] r2 with
          | bad ec eo => rw [body_sep hT h16 hL hU] at h; cases h
          | ok s r3 =>
            by_cases h8 : s.k = 8
            · rw [body_end hT h16 hL hU h8] at h; injection h with e1 e2; subst e1; simp
            · rw [body_more hT h16 hL hU h8] at h; exact ih _ _ _ _ h
theorem clause_fact {c f : Int} {name s : Tok} {R r2 r3 : List Tok} {a : PAtom} (hA : atomP c f valueKs name R = .ok a r2) (hD : takeP c f [8] r2 = .ok s r3) : clauseP c f name R = .ok (mkC a) r3 := by
  have h8 : s.k = 8 := by simpa using (take_eq hD).2
  unfold clauseP
  rw [(atom_val hA).1]
  simp only
  rw [take_sub hD (ls := [8, 9]) (by rw [h8]; decide)]
  simp only
  rw [if_neg (by omega)]
  rfl
theorem fact_clause {c f : Int} {name : Tok} {R r : List Tok} {x : PCls} (h : clauseP c f name R = .ok x r) (hg : gCls x = true) : ∃ s r2, atomP c f valueKs name R = .ok x.h r2 ∧ takeP c f [8] r2 = .ok s r ∧ x = mkC x.h := by
  unfold gCls at hg
  simp only [Bool.and_eq_true, List.isEmpty_iff] at hg
  unfold clauseP at h
  cases hA : atomP c f termKs name R with
  | bad ec eo => rw [hA] at h; cases h
  | ok a r1 =>
    rw [hA] at h
    simp only at h
    cases hT : takeP c f [8, 9] r1 with
    | bad ec eo => rw [hT] at h; cases h
    | ok s r2 =>
      rw [hT] at h
      simp only at h
      by_cases h9 : s.k = 9
      · rw [if_pos h9] at h
        cases hB : bodyP c f r2 with
        | bad ec eo => rw [hB] at h; cases h
        | ok b r3 =>
          rw [hB] at h
          injection h with e1 e2
          subst e1
          exact absurd hg.1 (body_nonempty _ _ _ _ _ hB)
      · rw [if_neg h9] at h
        injection h with e1 e2
        subst e1 e2
        have h8 : s.k = 8 := by have := (take_eq hT).2; simp at this; omega
        exact ⟨s, r1, atom_term hA hg.2, take_sub hT (by rw [h8]; decide), rfl⟩
theorem facts_more_len {c f : Int} : ∀ (n : Nat) (fs : List PAtom) (R r : List Tok) (out : List PAtom), factsF c f n fs R = .ok out r → ∃ us, out = fs ++ us := by
  intro n
  induction n with
  | zero => intro fs R r out h; cases h
  | succ n ih =>
    intro fs R r out h
    cases hT : takeP c f [1, 0] R with
    | bad e1 e2 => rw [facts_bad1 hT] at h; cases h
    | ok t r1 =>
      by_cases h0 : t.k = 0
      · rw [facts_end hT h0] at h; injection h with e1 e2; subst e1; exact ⟨[], by simp⟩
      · by_cases h5 : fs.length = 4096
        · rw [facts_lim hT h0 h5] at h; cases h
        · cases hC : atomP c f valueKs t r1 with
          | bad e1 e2 => rw [facts_atom hT h0 h5 hC] at h; cases h
          | ok x r2 =>
            cases hD : takeP c f [8] r2 with
            | bad e1 e2 => rw [facts_dot hT h0 h5 hC hD] at h; cases h
            | ok s r3 =>
              rw [facts_more hT h0 h5 hC hD] at h
              obtain ⟨us, e⟩ := ih _ _ _ _ h
              exact ⟨x :: us, by rw [e, List.append_assoc]; rfl⟩
/-- A facts text of up to 512 facts is a program of just these. -/
theorem facts_prog {c f : Int} : ∀ (n : Nat) (fs : List PAtom) (R r : List Tok) (out : List PAtom), factsF c f n fs R = .ok out r → out.length ≤ 512 → progF c f n (fs.map mkC) R = .ok (out.map mkC) r ∧ ((∀ a ∈ fs, gAtom a = true) → ∀ a ∈ out, gAtom a = true) := by
  intro n
  induction n with
  | zero => intro fs R r out h; cases h
  | succ n ih =>
    intro fs R r out h hl
    cases hT : takeP c f [1, 0] R with
    | bad e1 e2 => rw [facts_bad1 hT] at h; cases h
    | ok t r1 =>
      by_cases h0 : t.k = 0
      · rw [facts_end hT h0] at h; injection h with e1 e2; subst e1 e2; exact ⟨prog_end hT h0, fun h => h⟩
      · by_cases h5 : fs.length = 4096
        · rw [facts_lim hT h0 h5] at h; cases h
        · cases hC : atomP c f valueKs t r1 with
          | bad e1 e2 => rw [facts_atom hT h0 h5 hC] at h; cases h
          | ok x r2 =>
            cases hD : takeP c f [8] r2 with
            | bad e1 e2 => rw [facts_dot hT h0 h5 hC hD] at h; cases h
            | ok s r3 =>
              rw [facts_more hT h0 h5 hC hD] at h
              obtain ⟨us, e⟩ := facts_more_len _ _ _ _ _ h
              obtain ⟨q1, q2⟩ := ih _ _ _ _ h hl
              have hne : (fs.map mkC).length ≠ 512 := by
                have := congrArg List.length e
                simp only [List.length_append, List.length_singleton] at this
                rw [List.length_map]; omega
              rw [prog_more hT h0 hne (clause_fact hC hD)]
              rw [List.map_append, List.map_singleton] at q1
              exact ⟨q1, fun hg => q2 (fun a ha => (List.mem_append.1 ha).elim (hg a) (fun e => by simp only [List.mem_singleton] at e; subst e; exact (atom_val hC).2))⟩
theorem prog_len {c f : Int} : ∀ (n : Nat) (acc : List PCls) (R r : List Tok) (out : List PCls), progF c f n acc R = .ok out r → ∃ us, out = acc ++ us := by
  intro n
  induction n with
  | zero => intro acc R r out h; cases h
  | succ n ih =>
    intro acc R r out h
    cases hT : takeP c f [1, 0] R with
    | bad e1 e2 => rw [prog_bad1 hT] at h; cases h
    | ok t r1 =>
      by_cases h0 : t.k = 0
      · rw [prog_end hT h0] at h; injection h with e1 e2; subst e1; exact ⟨[], by simp⟩
      · by_cases h5 : acc.length = 512
        · rw [prog_lim hT h0 h5] at h; cases h
        · cases hC : clauseP c f t r1 with
          | bad e1 e2 => rw [prog_cls hT h0 h5 hC] at h; cases h
          | ok x r2 =>
            rw [prog_more hT h0 h5 hC] at h
            obtain ⟨us, e⟩ := ih _ _ _ _ h
            exact ⟨x :: us, by rw [e, List.append_assoc]; rfl⟩
theorem prog_most {c f : Int} : ∀ (n : Nat) (acc : List PCls) (R r : List Tok) (out : List PCls), acc.length ≤ 512 → progF c f n acc R = .ok out r → out.length ≤ 512 := by
  intro n
  induction n with
  | zero => intro acc R r out _ h; cases h
  | succ n ih =>
    intro acc R r out hl h
    cases hT : takeP c f [1, 0] R with
    | bad e1 e2 => rw [prog_bad1 hT] at h; cases h
    | ok t r1 =>
      by_cases h0 : t.k = 0
      · rw [prog_end hT h0] at h; injection h with e1 e2; subst e1; exact hl
      · by_cases h5 : acc.length = 512
        · rw [prog_lim hT h0 h5] at h; cases h
        · cases hC : clauseP c f t r1 with
          | bad e1 e2 => rw [prog_cls hT h0 h5 hC] at h; cases h
          | ok x r2 =>
            rw [prog_more hT h0 h5 hC] at h
            exact ih _ _ _ _ (by simp; omega) h
/-- A program of nothing but facts without variables is a facts text. -/
theorem prog_facts {c f : Int} : ∀ (n : Nat) (acc : List PCls) (R r : List Tok) (out : List PCls), acc.length ≤ 512 → progF c f n acc R = .ok out r → (∀ x ∈ out, gCls x = true) → factsF c f n (acc.map (·.h)) R = .ok (out.map (·.h)) r := by
  intro n
  induction n with
  | zero => intro acc R r out _ h; cases h
  | succ n ih =>
    intro acc R r out hl h hg
    cases hT : takeP c f [1, 0] R with
    | bad e1 e2 => rw [prog_bad1 hT] at h; cases h
    | ok t r1 =>
      by_cases h0 : t.k = 0
      · rw [prog_end hT h0] at h; injection h with e1 e2; subst e1 e2; exact facts_end hT h0
      · by_cases h5 : acc.length = 512
        · rw [prog_lim hT h0 h5] at h; cases h
        · cases hC : clauseP c f t r1 with
          | bad e1 e2 => rw [prog_cls hT h0 h5 hC] at h; cases h
          | ok x r2 =>
            rw [prog_more hT h0 h5 hC] at h
            obtain ⟨us, e⟩ := prog_len _ _ _ _ _ h
            obtain ⟨s, r4, q1, q2, q3⟩ := fact_clause hC (hg x (by rw [e]; simp))
            have := ih _ _ _ _ (by simp; omega) h hg
            rw [List.map_append, List.map_singleton] at this
            rw [facts_more hT h0 (by rw [List.length_map]; omega) q1 q2]
            exact this
end Go.Proofs.YtjofiibfgfdleaaDoor

namespace Go.Proofs.YtjofiibfgfdleaaDoor
set_option linter.unusedSimpArgs false
set_option linter.unusedVariables false
open Go.RowKit

def TermK (k : Int) : Prop := k = 3 ∨ k = 1 ∨ k = 4 ∨ k = 2
/-- The terms of an atom, from the bracket on: place i. -/
structure SpT (L : List Tok) (i : Nat) (ts : List Trm) : Prop where
  sep : ∀ j, j < ts.length → ∃ s, L[i + 2 * j]? = some s ∧ s.k = if j = 0 then 5 else 7
  trm : ∀ j t, ts[j]? = some t → ∃ u, L[i + 2 * j + 1]? = some u ∧ TermK u.k ∧ termP u = t
  fin : ts ≠ [] → ∃ s, L[i + 2 * ts.length]? = some s ∧ s.k = 6
def endT (i : Nat) (ts : List Trm) : Nat := if ts = [] then i else i + 2 * ts.length + 1
structure SpA (L : List Tok) (i : Nat) (a : PAtom) (i' : Nat) : Prop where
  name : ∃ n, L[i]? = some n ∧ n.k = 1 ∧ n.t = a.p ∧ (n.off : Int) = a.off
  few : a.ts.length ≤ 8
  ts : SpT L (i + 1) a.ts
  at' : i' = endT (i + 1) a.ts
theorem at_drop {L R : List Tok} {i : Nat} {t : Tok} (h : L.drop i = t :: R) : L[i]? = some t ∧ L.drop (i + 1) = R := by
  have hi : i < L.length := by
    rcases Nat.lt_or_ge i L.length with h1 | h1
    · exact h1
    · rw [List.drop_eq_nil_of_le h1] at h; cases h
  rw [List.drop_eq_getElem_cons hi] at h
  injection h with e1 e2
  exact ⟨by rw [List.getElem?_eq_getElem hi, e1], e2⟩
/-- What the grammar takes as terms. -/
theorem args_sp {c f : Int} {ks : List Int} (hks : ∀ k, k ∈ ks → TermK k) {L : List Tok} : ∀ (n : Nat) (acc : List Trm) (R r : List Tok) (ts : List Trm) (i : Nat), R.length = n → argsP c f ks acc R = .ok ts r → L.drop (i + 2 * acc.length + 1) = R → acc.length ≤ 8 →
    (∀ j, j ≤ acc.length → ∃ s, L[i + 2 * j]? = some s ∧ s.k = if j = 0 then 5 else 7) → (∀ j t, acc[j]? = some t → ∃ u, L[i + 2 * j + 1]? = some u ∧ TermK u.k ∧ termP u = t) →
    SpT L i ts ∧ ts ≠ [] ∧ ts.length ≤ 8 ∧ L.drop (i + 2 * ts.length + 1) = r := by
  intro n
  induction n using Nat.strongRecOn with
  | ind n ih =>
    intro acc R r ts i hn h hd h8' hs ht
    match R, hn, h, hd with
    | [], _, h, _ => cases h
    | [t], _, h, _ =>
      unfold argsP at h
      split at h
      · split at h <;> cases h
      · cases h
    | t :: s :: q, hn, h, hd =>
      obtain ⟨ht1, hd1⟩ := at_drop hd
      obtain ⟨hs1, hd2⟩ := at_drop hd1
      unfold argsP at h
      split at h
      · rename_i hk
        split at h
        · cases h
        · rename_i h8
          simp only at h
          have hacc : ∀ j t', (acc ++ [termP t])[j]? = some t' → ∃ u, L[i + 2 * j + 1]? = some u ∧ TermK u.k ∧ termP u = t' := fun j t' hj => by
            rcases Nat.lt_or_ge j acc.length with h1 | h1
            · rw [List.getElem?_append_left h1] at hj; exact ht j t' hj
            · rw [List.getElem?_append_right h1] at hj
              have hj0 : j - acc.length = 0 := by
                rcases Nat.eq_zero_or_pos (j - acc.length) with h2 | h2
                · exact h2
                · rw [List.getElem?_eq_none (by simp; omega)] at hj; cases hj
              rw [hj0] at hj
              obtain rfl : j = acc.length := by omega
              exact ⟨t, ht1, hks _ hk, Option.some.inj hj⟩
          split at h
          · rename_i h7
            refine ih q.length (by simp at hn; omega) (acc ++ [termP t]) q r ts i rfl h ?_ (by simp; omega) ?_ hacc
            · rw [← hd2, List.length_append, List.length_singleton, show i + 2 * (acc.length + 1) + 1 = i + 2 * acc.length + 1 + 1 + 1 by omega]
            · intro j hj
              simp only [List.length_append, List.length_singleton] at hj
              rcases Nat.lt_or_ge acc.length j with h1 | h1
              · obtain rfl : j = acc.length + 1 := by omega
                refine ⟨s, by rw [← hs1, show i + 2 * (acc.length + 1) = i + 2 * acc.length + 1 + 1 by omega], ?_⟩
                rw [if_neg (by omega)]; exact h7
              · exact hs j h1
          · split at h
            · rename_i h6
              injection h with e1 e2
              subst e1 e2
              refine ⟨⟨fun j hj => hs j (by simp at hj; omega), hacc, fun _ => ⟨s, by rw [← hs1, List.length_append, List.length_singleton, show i + 2 * (acc.length + 1) = i + 2 * acc.length + 1 + 1 by omega], h6⟩⟩, by simp, by rw [List.length_append, List.length_singleton]; omega, ?_⟩
              rw [← hd2, List.length_append, List.length_singleton, show i + 2 * (acc.length + 1) + 1 = i + 2 * acc.length + 1 + 1 + 1 by omega]
            · cases h
      · cases h
theorem atom_sp {c f : Int} {ks : List Int} (hks : ∀ k, k ∈ ks → TermK k) {L : List Tok} {name : Tok} {R r : List Tok} {a : PAtom} {i : Nat} (h : atomP c f ks name R = .ok a r) (hd : L.drop i = name :: R) (hn : name.k = 1) : ∃ i', SpA L i a i' ∧ L.drop i' = r := by
  obtain ⟨hi, hd1⟩ := at_drop hd
  cases R with
  | nil => cases h
  | cons t R =>
    change (if t.k = 5 then (match argsP c f ks [] R with | .bad c o => PR.bad c o | .ok ts r' => PR.ok (⟨name.t, ts, name.off⟩ : PAtom) r') else PR.ok (⟨name.t, [], name.off⟩ : PAtom) (t :: R)) = _ at h
    split at h
    · rename_i h5
      obtain ⟨hb, hd2⟩ := at_drop hd1
      cases hA : argsP c f ks [] R with
      | bad x o => rw [hA] at h; cases h
      | ok ts r1 =>
        rw [hA] at h
        simp only [PR.ok.injEq] at h
        obtain ⟨rfl, rfl⟩ := h
        obtain ⟨g1, g2, g3, g4⟩ := args_sp hks _ [] R r1 ts (i + 1) rfl hA (by simpa using hd2) (by simp) (fun j hj => by
          obtain rfl : j = 0 := by simpa using hj
          exact ⟨t, by simpa using hb, by simpa using h5⟩) (fun j t hj => by simp at hj)
        exact ⟨endT (i + 1) ts, ⟨⟨name, hi, hn, rfl, rfl⟩, g3, g1, rfl⟩, by unfold endT; rw [if_neg g2]; exact g4⟩
    · injection h with e1 e2
      subst e1 e2
      exact ⟨i + 1, ⟨⟨name, hi, hn, rfl, rfl⟩, by simp, ⟨fun j hj => by simp at hj, fun j t hj => by simp at hj, fun h => absurd rfl h⟩, rfl⟩, hd1⟩
end Go.Proofs.YtjofiibfgfdleaaDoor

namespace Go.Proofs.YtjofiibfgfdleaaDoor
set_option linter.unusedSimpArgs false
set_option linter.unusedVariables false
open Go.RowKit

inductive SpL (L : List Tok) (i : Nat) : PLit → Nat → Prop
  | pos {a : PAtom} {i' : Nat} (h : SpA L i a i') : SpL L i ⟨1, a, 0, zeroTrm, zeroTrm, a.off⟩ i'
  | neg {n : Tok} {a : PAtom} {i' : Nat} (hn : L[i]? = some n) (hk : n.k = 10) (h : SpA L (i + 1) a i') : SpL L i ⟨2, a, 0, zeroTrm, zeroTrm, n.off⟩ i'
  | tst {u o v : Tok} (hu : L[i]? = some u) (ku : TermK u.k) (ho : L[i + 1]? = some o) (ko : o.k = 11) (hv : L[i + 2]? = some v) (kv : TermK v.k) : SpL L i ⟨3, zeroAtom, o.op, termP u, termP v, u.off⟩ (i + 3)
theorem termKs_k : ∀ k, k ∈ termKs → TermK k := by
  intro k hk
  simp only [termKs, List.mem_cons, List.not_mem_nil, or_false] at hk
  unfold TermK
  omega
theorem valueKs_k : ∀ k, k ∈ valueKs → TermK k := by
  intro k hk
  simp only [valueKs, List.mem_cons, List.not_mem_nil, or_false] at hk
  unfold TermK
  omega
theorem take_sp {c f : Int} {ks : List Int} {R r : List Tok} {t : Tok} (h : takeP c f ks R = .ok t r) : R = t :: r ∧ t.k ∈ ks := by
  cases R with
  | nil => cases h
  | cons x R =>
    change (if x.k ∈ ks then PR.ok x R else PR.bad (misK x.k) x.off) = _ at h
    split at h
    · rename_i hk
      injection h with e1 e2
      subst e1 e2
      exact ⟨rfl, hk⟩
    · cases h
theorem test_sp {c f : Int} {L : List Tok} {first : Tok} {R r : List Tok} {x : PLit} {i : Nat} (hf : TermK first.k) (hd : L.drop i = first :: R)
    (h : (match takeP c f [11] R with
      | .bad c o => PR.bad c o
      | .ok o1 r' => match takeP c f termKs r' with
        | .bad c o => .bad c o
        | .ok t2 r'' => .ok (⟨3, zeroAtom, o1.op, termP first, termP t2, first.off⟩ : PLit) r'') = .ok x r) : ∃ i', SpL L i x i' ∧ L.drop i' = r := by
  cases h1 : takeP c f [11] R with
  | bad a b => rw [h1] at h; cases h
  | ok o1 r1 =>
    rw [h1] at h
    simp only at h
    cases h2 : takeP c f termKs r1 with
    | bad a b => rw [h2] at h; cases h
    | ok t2 r2 =>
      rw [h2] at h
      injection h with e1 e2
      subst e1 e2
      obtain ⟨rfl, k1⟩ := take_sp h1
      obtain ⟨rfl, k2⟩ := take_sp h2
      obtain ⟨g0, d0⟩ := at_drop hd
      obtain ⟨g1, d1⟩ := at_drop d0
      obtain ⟨g2, d2⟩ := at_drop d1
      exact ⟨i + 3, .tst g0 hf g1 (by simpa using k1) g2 (termKs_k _ k2), d2⟩
theorem atom_off {c f : Int} {ks : List Int} {name : Tok} {R r : List Tok} {a : PAtom} (h : atomP c f ks name R = .ok a r) : a.off = name.off := by
  cases R with
  | nil => cases h
  | cons t R =>
    change (if t.k = 5 then (match argsP c f ks [] R with | .bad c o => PR.bad c o | .ok ts r' => PR.ok (⟨name.t, ts, name.off⟩ : PAtom) r') else PR.ok (⟨name.t, [], name.off⟩ : PAtom) (t :: R)) = _ at h
    split at h
    · split at h
      · cases h
      · injection h with e1 e2; rw [← e1]
    · injection h with e1 e2; rw [← e1]
theorem lit_sp {c f : Int} {L : List Tok} {first : Tok} {R r : List Tok} {x : PLit} {i : Nat} (h : litP c f first R = .ok x r) (hd : L.drop i = first :: R) (hf : first.k ∈ [1, 10, 2, 3, 4]) : ∃ i', SpL L i x i' ∧ L.drop i' = r := by
  unfold litP at h
  split at h
  · rename_i h10
    cases h1 : takeP c f [1] R with
    | bad a b => rw [h1] at h; cases h
    | ok n r1 =>
      rw [h1] at h
      simp only at h
      cases h2 : atomP c f termKs n r1 with
      | bad a b => rw [h2] at h; cases h
      | ok a r2 =>
        rw [h2] at h
        injection h with e1 e2
        subst e1 e2
        obtain ⟨rfl, k1⟩ := take_sp h1
        obtain ⟨g0, d0⟩ := at_drop hd
        obtain ⟨i', q, d⟩ := atom_sp termKs_k h2 d0 (by simpa using k1)
        exact ⟨i', .neg g0 h10 q, d⟩
  · rename_i h10
    simp only at h
    have hk : TermK first.k := by
      simp only [List.mem_cons, List.not_mem_nil, or_false] at hf
      unfold TermK
      omega
    split at h
    · rename_i h1
      cases R with
      | nil => cases h
      | cons t R =>
        simp only at h
        split at h
        · exact test_sp hk hd h
        · cases h2 : atomP c f termKs first (t :: R) with
          | bad a b => rw [h2] at h; cases h
          | ok a r2 =>
            rw [h2] at h
            injection h with e1 e2
            subst e1 e2
            obtain ⟨i', q, d⟩ := atom_sp termKs_k h2 hd h1
            rw [← atom_off h2]
            exact ⟨i', .pos q, d⟩
    · exact test_sp hk hd h

structure SpB (L : List Tok) (i : Nat) (ls : List PLit) (i' : Nat) : Prop where
  few : 0 < ls.length ∧ ls.length ≤ 16
  at' : ∃ pl : Nat → Nat, pl 0 = i ∧ (∀ j x, ls[j]? = some x → SpL L (if j = 0 then pl j else pl j + 1) x (pl (j + 1))) ∧ (∀ j, 0 < j → j < ls.length → ∃ s, L[pl j]? = some s ∧ s.k = 7) ∧ (∃ s, L[pl ls.length]? = some s ∧ s.k = 8) ∧ i' = pl ls.length + 1
theorem body_sp {c f : Int} {L : List Tok} {i : Nat} : ∀ (n : Nat) (acc : List PLit) (R r : List Tok) (b : List PLit) (pl : Nat → Nat), bodyF c f n acc R = .ok b r → acc.length ≤ 16 → pl 0 = i → (∀ j x, acc[j]? = some x → SpL L (if j = 0 then pl j else pl j + 1) x (pl (j + 1))) → (∀ j, 0 < j → j ≤ acc.length → ∃ s, L[pl j]? = some s ∧ s.k = 7) → L.drop (if acc.length = 0 then pl acc.length else pl acc.length + 1) = R →
    ∃ i', SpB L i b i' ∧ L.drop i' = r := by
  intro n
  induction n with
  | zero => intro acc R r b pl h; cases h
  | succ n ih =>
    intro acc R r b pl h h16 h0 hl hs hd
    rw [bodyF] at h
    cases h1 : takeP c f [1, 10, 2, 3, 4] R with
    | bad a b => rw [h1] at h; cases h
    | ok t r1 =>
      rw [h1] at h
      simp only at h
      split at h
      · cases h
      · rename_i hne
        cases h2 : litP c f t r1 with
        | bad a b => rw [h2] at h; cases h
        | ok x r2 =>
          rw [h2] at h
          simp only at h
          cases h3 : takeP c f [7, 8] r2 with
          | bad a b => rw [h3] at h; cases h
          | ok s r3 =>
            rw [h3] at h
            simp only at h
            obtain ⟨rfl, k1⟩ := take_sp h1
            obtain ⟨rfl, k3⟩ := take_sp h3
            obtain ⟨m, q, d⟩ := lit_sp h2 hd k1
            obtain ⟨gs, ds⟩ := at_drop d
            obtain ⟨pm, hpm⟩ : ∃ pm : Nat → Nat, pm = fun j => if j ≤ acc.length then pl j else m := ⟨_, rfl⟩
            have p1 : ∀ j, j ≤ acc.length → pm j = pl j := fun j hj => by rw [hpm]; simp only; rw [if_pos hj]
            have p2 : pm (acc.length + 1) = m := by rw [hpm]; simp only; rw [if_neg (by omega)]
            have hl' : ∀ j y, (acc ++ [x])[j]? = some y → SpL L (if j = 0 then pm j else pm j + 1) y (pm (j + 1)) := fun j y hj => by
              rcases Nat.lt_or_ge j acc.length with g | g
              · rw [List.getElem?_append_left g] at hj
                rw [p1 j (by omega), p1 (j + 1) (by omega)]
                exact hl j y hj
              · rw [List.getElem?_append_right g] at hj
                have hj0 : j - acc.length = 0 := by
                  rcases Nat.eq_zero_or_pos (j - acc.length) with g2 | g2
                  · exact g2
                  · rw [List.getElem?_eq_none (by simp; omega)] at hj; cases hj
                rw [hj0] at hj
                obtain rfl : j = acc.length := by omega
                obtain rfl : x = y := Option.some.inj hj
                rw [p1 _ (Nat.le_refl _), p2]
                exact q
            split at h
            · rename_i h8
              injection h with e1 e2
              subst e1 e2
              refine ⟨m + 1, ⟨by simp; omega, pm, by rw [p1 0 (by omega)]; exact h0, hl', fun j j0 jl => ?_, ?_, ?_⟩, ds⟩
              · rw [p1 j (by simp at jl; omega)]; exact hs j j0 (by simp at jl; omega)
              · rw [List.length_append, List.length_singleton, p2]; exact ⟨s, gs, h8⟩
              · rw [List.length_append, List.length_singleton, p2]
            · rename_i h8
              have h7 : s.k = 7 := by
                simp only [List.mem_cons, List.not_mem_nil, or_false] at k3
                exact k3.resolve_right h8
              refine ih (acc ++ [x]) _ r b pm h (by simp; omega) (by rw [p1 0 (by omega)]; exact h0) hl' (fun j j0 jl => ?_) ?_
              · rcases Nat.lt_or_ge acc.length j with g | g
                · obtain rfl : j = acc.length + 1 := by simp at jl; omega
                  rw [p2]; exact ⟨s, gs, h7⟩
                · rw [p1 j g]; exact hs j j0 g
              · rw [List.length_append, List.length_singleton, if_neg (by omega), p2]; exact ds
def SpC (L : List Tok) (i : Nat) (x : PCls) (i' : Nat) : Prop := ∃ m, SpA L i x.h m ∧ ∃ s, L[m]? = some s ∧ ((x.b = [] ∧ s.k = 8 ∧ i' = m + 1) ∨ (s.k = 9 ∧ SpB L (m + 1) x.b i'))
theorem cls_sp {c f : Int} {L : List Tok} {name : Tok} {R r : List Tok} {x : PCls} {i : Nat} (h : clauseP c f name R = .ok x r) (hd : L.drop i = name :: R) (hn : name.k = 1) : ∃ i', SpC L i x i' ∧ L.drop i' = r := by
  unfold clauseP at h
  cases h1 : atomP c f termKs name R with
  | bad a b => rw [h1] at h; cases h
  | ok a r1 =>
    rw [h1] at h
    simp only at h
    cases h2 : takeP c f [8, 9] r1 with
    | bad a b => rw [h2] at h; cases h
    | ok s r2 =>
      rw [h2] at h
      simp only at h
      obtain ⟨m, q, d⟩ := atom_sp termKs_k h1 hd hn
      obtain ⟨rfl, k2⟩ := take_sp h2
      obtain ⟨gs, ds⟩ := at_drop d
      split at h
      · rename_i h9
        cases h3 : bodyP c f r2 with
        | bad a b => rw [h3] at h; cases h
        | ok b r3 =>
          rw [h3] at h
          injection h with e1 e2
          subst e1 e2
          obtain ⟨i', qb, db⟩ := body_sp _ [] r2 r3 b (fun _ => m + 1) h3 (by simp) rfl (fun j x hj => by simp at hj) (fun j j0 jl => by simp at jl; omega) ds
          exact ⟨i', ⟨m, q, s, gs, .inr ⟨h9, qb⟩⟩, db⟩
      · rename_i h9
        injection h with e1 e2
        subst e1 e2
        refine ⟨m + 1, ⟨m, q, s, gs, .inl ⟨rfl, ?_, rfl⟩⟩, ds⟩
        simp only [List.mem_cons, List.not_mem_nil, or_false] at k2
        exact k2.resolve_right h9
structure SpP (L : List Tok) (cs : List PCls) (e : Nat) : Prop where
  few : cs.length ≤ 512
  at' : ∃ pl : Nat → Nat, pl 0 = 0 ∧ (∀ j x, cs[j]? = some x → SpC L (pl j) x (pl (j + 1))) ∧ pl cs.length = e
  fin : ∃ s, L[e]? = some s ∧ s.k = 0
theorem prog_sp {c f : Int} {L : List Tok} : ∀ (n : Nat) (acc : List PCls) (R r : List Tok) (cs : List PCls) (pl : Nat → Nat), progF c f n acc R = .ok cs r → acc.length ≤ 512 → pl 0 = 0 → (∀ j x, acc[j]? = some x → SpC L (pl j) x (pl (j + 1))) → L.drop (pl acc.length) = R →
    ∃ e, SpP L cs e ∧ L.drop (e + 1) = r := by
  intro n
  induction n with
  | zero => intro acc R r cs pl h; cases h
  | succ n ih =>
    intro acc R r cs pl h h512 h0 hl hd
    rw [progF] at h
    cases h1 : takeP c f [1, 0] R with
    | bad a b => rw [h1] at h; cases h
    | ok t r1 =>
      rw [h1] at h
      simp only at h
      obtain ⟨rfl, k1⟩ := take_sp h1
      obtain ⟨gt, dt⟩ := at_drop hd
      split at h
      · rename_i ht
        injection h with e1 e2
        subst e1 e2
        exact ⟨pl acc.length, ⟨h512, ⟨pl, h0, hl, rfl⟩, t, gt, ht⟩, dt⟩
      · rename_i ht
        split at h
        · cases h
        · rename_i hne
          cases h2 : clauseP c f t r1 with
          | bad a b => rw [h2] at h; cases h
          | ok x r2 =>
            rw [h2] at h
            simp only at h
            obtain ⟨m, q, d⟩ := cls_sp h2 hd (by
              simp only [List.mem_cons, List.not_mem_nil, or_false] at k1
              exact k1.resolve_right ht)
            obtain ⟨pm, hpm⟩ : ∃ pm : Nat → Nat, pm = fun j => if j ≤ acc.length then pl j else m := ⟨_, rfl⟩
            have p1 : ∀ j, j ≤ acc.length → pm j = pl j := fun j hj => by rw [hpm]; simp only; rw [if_pos hj]
            have p2 : pm (acc.length + 1) = m := by rw [hpm]; simp only; rw [if_neg (by omega)]
            refine ih (acc ++ [x]) _ r cs pm h (by simp; omega) (by rw [p1 0 (by omega)]; exact h0) (fun j y hj => ?_) (by rw [List.length_append, List.length_singleton, p2]; exact d)
            rcases Nat.lt_or_ge j acc.length with g | g
            · rw [List.getElem?_append_left g] at hj
              rw [p1 j (by omega), p1 (j + 1) (by omega)]
              exact hl j y hj
            · rw [List.getElem?_append_right g] at hj
              have hj0 : j - acc.length = 0 := by
                rcases Nat.eq_zero_or_pos (j - acc.length) with g2 | g2
                · exact g2
                · rw [List.getElem?_eq_none (by simp; omega)] at hj; cases hj
              rw [hj0] at hj
              obtain rfl : j = acc.length := by omega
              obtain rfl : x = y := Option.some.inj hj
              rw [p1 _ (Nat.le_refl _), p2]
              exact q
end Go.Proofs.YtjofiibfgfdleaaDoor

namespace Go.Proofs.YtjofiibfgfdleaaDoor
set_option linter.unusedSimpArgs false
set_option linter.unusedVariables false
open Go.RowKit

theorem chk_who {ec eo first : Int} : ∀ (L : List Tok) (s : Int) (c : Cnt) (x o : Int), chkR ec eo first s c L = .bad x o → (x = ec ∧ o = eo ∧ ec ≠ 0) ∨ 20 ≤ x
  | [], s, c, x, o, h => by
    unfold chkR at h
    split at h
    · cases h
    · rename_i he; cases h; exact .inl ⟨rfl, rfl, he⟩
  | t :: r, s, c, x, o, h => by
    unfold chkR at h
    split at h
    · injection h with e1 e2
      subst e1
      exact .inr (misK_20 _)
    · split at h
      · rename_i hov
        injection h with e1 e2
        subst e1
        have hc := (over_code first (takeC c s t.k)).resolve_left hov
        exact .inr (by omega)
      · exact chk_who r _ _ x o h
theorem toks_lt20 {s : ByteArray} {o : Nat} {L : List Tok} {c : Int} {f : Nat} (h : Toks s o L c f) : c < 20 := by
  induction h with
  | bad ho hx => have := next_bad hx; omega
  | last ho hx hk => decide
  | more ho hx hk _ ih => exact ih
theorem scan_lt20 (s : ByteArray) : (scanX s).2.1 < 20 := by
  by_cases h : s.size ≤ 65536
  · exact toks_lt20 (scan_toks s h)
  · rw [show scanX s = ([], 1, 0) from if_pos (by omega)]; decide
theorem who {s : ByteArray} {first x o : Int} (h0 : overC first ⟨0, 0, 0⟩ = 0) (h : chkR (scanX s).2.1 ((scanX s).2.2 : Int) first first ⟨0, 0, 0⟩ (scanX s).1 = .bad x o) :
    ((scanX s).2.1 ≠ 0 ∧ x = (scanX s).2.1 ∧ o = ((scanX s).2.2 : Int)) ∨ (x ≠ (scanX s).2.1 ∧ (20 ≤ x ∧ x ≤ 24) ∧ ∃ (q : Nat) (t : Tok), (scanX s).1[q]? = some t ∧ (t.off : Int) = o ∧ (x = 21 ↔ t.k = 0)) := by
  have hc := scan_lt20 s
  rcases chk_who _ _ _ _ _ h with ⟨h1, h2, h3⟩ | h1
  · exact .inl ⟨h3, h1, h2⟩
  · rcases chk_at _ _ _ _ _ h0 h with ⟨h2, h3⟩ | ⟨X, t, r, h2, h3, h4, h5, -⟩
    · omega
    · exact .inr ⟨by omega, by omega, X.length, t, by rw [h2, List.getElem?_append_right (Nat.le_refl _)]; simp, h3, h5⟩
theorem scan_lst {w : World} {base : Nat} {v : Value} {L : List Tok} (h : w.ownsRow base 30 6 v L.length (L.flatMap cells6)) (hL : L.length ≤ 65538) : Lst elTk w (fun b => base ≤ b) v L :=
  Grow.new (E := elTk) ⟨h, fun _ _ => trivial⟩ (by omega)
theorem wf_end {ec : Int} : ∀ (L : List Tok) (e : Nat) (s : Tok), Wf ec L → L[e]? = some s → s.k = 0 → e + 1 = L.length ∧ ec = 0
  | [], e, s, _, h, _ => by simp at h
  | t :: r, 0, s, hw, h, hk => by
    obtain rfl : t = s := by simpa using h
    obtain ⟨h1, h2⟩ := hw.last hk
    exact ⟨by rw [h1]; rfl, h2⟩
  | t :: r, e + 1, s, hw, h, hk => by
    rw [List.getElem?_cons_succ] at h
    have hk0 : t.k ≠ 0 := fun e9 => by
      obtain ⟨h1, -⟩ := hw.last e9
      rw [h1] at h; simp at h
    obtain ⟨h1, h2⟩ := wf_end r e s (hw.tail hk0) h hk
    exact ⟨by rw [List.length_cons]; omega, h2⟩
end Go.Proofs.YtjofiibfgfdleaaDoor
