/- What lex's tokens and parse's trees are: well formed. What parse makes of a text is well formed. What is well formed: nothing speaks against it, its text is of printable bytes, a line a clause, and tells no places. -/
import Derived.Test.YtchhophblejmeaaGreatDoorPkB7
import Derived.Test.YtchhophblejmeaaGreatDoorPkB8
import Derived.Test.YtchhophblejmeaaGreatDoorPkB9

namespace Go.Proofs.YtchhophblejmeaaGreatDoor
set_option linter.unusedSimpArgs false
set_option linter.unusedVariables false
open Go.RowKit

def Tok.fine (t : Tok) : Prop :=
  (t.k = 1 → isNameL t.t.toList = true ∧ t.n = 0) ∧ (t.k = 2 → isVarL t.t.toList = true ∧ t.n = 0) ∧ (t.k = 3 → t.t = ⟨#[]⟩) ∧ (t.k = 4 → t.t.size ≤ 255 ∧ t.n = 0) ∧ (t.k = 11 → 1 ≤ t.op ∧ t.op ≤ 6) ∧ t.good
theorem punct_mem {l : List UInt8} {n : Nat} {k op : Int} : ∀ {ms : List (List UInt8 × Int × Int)}, punctL ms l = some (n, k, op) → ∃ m ∈ ms, k = m.2.1 ∧ op = m.2.2
  | [], h => by simp [punctL] at h
  | m :: r, h => by
    unfold punctL at h
    by_cases h1 : Lib.hasPrefix l m.1 = true
    · rw [if_pos h1] at h
      simp only [Option.some.injEq, Prod.mk.injEq] at h
      obtain ⟨-, rfl, rfl⟩ := h
      exact ⟨m, List.mem_cons_self, rfl, rfl⟩
    · rw [if_neg h1] at h
      obtain ⟨x, hx, h2⟩ := punct_mem h
      exact ⟨x, List.mem_cons_of_mem _ hx, h2⟩
theorem marks_fine : ∀ m ∈ marksT, m.2.1 ≠ 1 ∧ m.2.1 ≠ 2 ∧ m.2.1 ≠ 3 ∧ m.2.1 ≠ 4 ∧ (m.2.1 = 11 → 1 ≤ m.2.2 ∧ m.2.2 ≤ 6) := by decide
theorem run_word : ∀ (l : List UInt8), ∀ b ∈ l.take (runC l), bWord (b.toNat : Int) = true
  | [], b, h => by simp [runC] at h
  | c :: r, b, h => by
    unfold runC at h
    by_cases hc : bWord (c.toNat : Int) = true
    · rw [if_pos hc, List.take_succ_cons] at h
      rcases List.mem_cons.1 h with rfl | h
      · exact hc
      · exact run_word r b h
    · rw [if_neg hc] at h; simp at h
theorem word_is {s : ByteArray} {g : Nat} (hg : g < s.size) (hw : (bLow (s[g].toNat : Int) || (bUp (s[g].toNat : Int) || (s[g].toNat : Int) == 95)) = true) :
    ∃ r, (s.extract g (g + runC (rest s g))).data.toList = s[g] :: r ∧ (∀ b ∈ s[g] :: r, bWord (b.toNat : Int) = true) ∧ (s[g] :: r).length = runC (rest s g) := by
  have e1 := extract_list s g (runC (rest s g))
  have hb := first_byte s g hg
  obtain ⟨r0, hr⟩ : ∃ r0, rest s g = s[g] :: r0 := by
    cases h : rest s g with
    | nil => rw [h] at hb; cases hb
    | cons a r0 => rw [h] at hb; cases hb; exact ⟨r0, rfl⟩
  have hbw : bWord (s[g].toNat : Int) = true := by
    unfold bWord
    have hw' := hw
    rw [Bool.or_eq_true, Bool.or_eq_true] at hw'
    rcases hw' with h | h | h <;> (rw [h]; simp)
  have hall := run_word (rest s g)
  have hle := runC_le (rest s g)
  have hlen : ((rest s g).take (runC (rest s g))).length = runC (rest s g) := by rw [List.length_take]; omega
  have hc : runC (rest s g) = runC r0 + 1 := by rw [hr]; show (if bWord (s[g].toNat : Int) = true then runC r0 + 1 else 0) = _; rw [if_pos hbw]
  rw [hc] at e1 hall hlen ⊢
  rw [hr, List.take_succ_cons] at e1 hall hlen
  exact ⟨r0.take (runC r0), e1, hall, hlen⟩
theorem tokAt_fine {s : ByteArray} {g : Nat} {t : Tok} (hs : s.size ≤ 65536) (hg : g ≤ s.size) (h : tokAt s g = .tok t) : t.fine := by
  have hgood := tokAt_good hs hg h
  suffices hh : (t.k = 1 → isNameL t.t.toList = true ∧ t.n = 0) ∧ (t.k = 2 → isVarL t.t.toList = true ∧ t.n = 0) ∧ (t.k = 3 → t.t = ⟨#[]⟩) ∧ (t.k = 4 → t.t.size ≤ 255 ∧ t.n = 0) ∧ (t.k = 11 → 1 ≤ t.op ∧ t.op ≤ 6) from ⟨hh.1, hh.2.1, hh.2.2.1, hh.2.2.2.1, hh.2.2.2.2, hgood⟩
  unfold tokAt at h
  by_cases h0 : g < s.size
  · rw [dif_pos h0] at h
    by_cases hw : (bLow (s[g].toNat : Int) || (bUp (s[g].toNat : Int) || (s[g].toNat : Int) == 95)) = true
    · rw [if_pos hw] at h
      obtain ⟨r, e1, e2, e3⟩ := word_is h0 hw
      unfold wordX at h
      simp only at h
      generalize s.extract g (g + runC (rest s g)) = w at *
      obtain ⟨⟨l⟩⟩ := w
      simp only at e1
      subst e1
      by_cases hm : 64 < runC (rest s g)
      · rw [if_pos hm] at h; cases h
      · rw [if_neg hm] at h
        have hl : (⟨⟨s[g] :: r⟩⟩ : ByteArray).toList = s[g] :: r := by rw [ByteArray.toList_eq]
        have hW : isWordL (s[g] :: r) = true := by
          unfold isWordL
          simp only [Bool.and_eq_true, decide_eq_true_eq, List.all_eq_true]
          exact ⟨by simp, by omega, fun b hb => e2 b hb⟩
        by_cases hn : ((⟨⟨s[g] :: r⟩⟩ : ByteArray).toList == [110, 111, 116]) = true
        · rw [if_pos hn] at h
          injection h with h; subst h
          simp
        · rw [if_neg hn] at h
          have hhd : ((⟨⟨s[g] :: r⟩⟩ : ByteArray).data[0]!) = s[g] := rfl
          rw [hhd] at h
          rw [hl] at hn
          by_cases hlow : bLow (s[g].toNat : Int) = true
          · rw [if_pos hlow] at h
            injection h with h; subst h
            simp only [hl]
            refine ⟨fun _ => ⟨?_, trivial⟩, by simp, by simp, by simp, by simp⟩
            unfold isNameL
            rw [hW, show lowN (headN (s[g] :: r)) = true from hlow]
            cases hq : (s[g] :: r == [110, 111, 116]) with
            | false => rfl
            | true => exact absurd hq hn
          · rw [if_neg hlow] at h
            injection h with h; subst h
            simp only [hl]
            refine ⟨by simp, fun _ => ⟨?_, trivial⟩, by simp, by simp, by simp⟩
            unfold isVarL
            rw [hW]
            have : bLow (s[g].toNat : Int) = false := by simpa using hlow
            rw [this] at hw
            exact hw
    · rw [if_neg hw] at h
      by_cases hb : begB (s.extract g s.size) = true
      · rw [if_pos hb] at h
        unfold intX at h
        split at h
        · injection h with h; subst h; simp
        · cases h
      · rw [if_neg hb] at h
        by_cases h34 : (s[g].toNat : Int) = 34
        · rw [if_pos h34] at h
          obtain ⟨h1, h2, h3, h4⟩ := textF_good s g _ _ _ _ rfl (by simp) h
          refine ⟨fun h => by omega, fun h => by omega, fun h => by omega, fun _ => ⟨h4, h2⟩, fun h => by omega⟩
        · rw [if_neg h34] at h
          unfold punctX at h
          cases hp : punctL marksT (rest s g) with
          | none => rw [hp] at h; cases h
          | some x =>
            obtain ⟨n, k, op⟩ := x
            rw [hp] at h
            injection h with h
            subst h
            obtain ⟨m, hm, rfl, rfl⟩ := punct_mem hp
            obtain ⟨q1, q2, q3, q4, q5⟩ := marks_fine m hm
            exact ⟨fun h => absurd h q1, fun h => absurd h q2, fun h => absurd h q3, fun h => absurd h q4, q5⟩
  · rw [dif_neg h0] at h
    injection h with h; subst h; simp
theorem next_fine {s : ByteArray} {o : Nat} {t : Tok} (hs : s.size ≤ 65536) (ho : o ≤ s.size) (h : nextX s o = .tok t) : t.fine := by
  have h1 := next_tok ho h
  unfold nextX at h
  rw [if_pos h1.1] at h
  exact tokAt_fine hs (gapW_le s o ho).2 h
theorem toks_fine {s : ByteArray} (hs : s.size ≤ 65536) {o : Nat} {L : List Tok} {c : Int} {f : Nat} (h : Toks s o L c f) : ∀ t ∈ L, t.fine := by
  induction h with
  | bad ho hx => simp
  | last ho hx hk => exact fun t ht => by simp only [List.mem_singleton] at ht; subst ht; exact next_fine hs ho hx
  | more ho hx hk T ih =>
    intro t ht
    rcases List.mem_cons.1 ht with rfl | ht
    · exact next_fine hs ho hx
    · exact ih t ht
theorem scan_fine (s : ByteArray) : ∀ t ∈ (scanX s).1, t.fine := by
  by_cases hs : s.size ≤ 65536
  · exact toks_fine hs (scan_toks s hs)
  · have e : scanX s = ([], 1, 0) := if_pos (by omega)
    rw [e]
    simp
end Go.Proofs.YtchhophblejmeaaGreatDoor

namespace Go.Proofs.YtchhophblejmeaaGreatDoor
set_option linter.unusedSimpArgs false
set_option linter.unusedVariables false
open Go.RowKit

def Fine (R : List Tok) : Prop := ∀ t ∈ R, t.fine
theorem Fine.tail {t : Tok} {R : List Tok} (h : Fine (t :: R)) : Fine R := fun u hu => h u (by simp [hu])
theorem take_fine {c f : Int} {ks : List Int} {R r : List Tok} {t : Tok} (hR : Fine R) (h : takeP c f ks R = .ok t r) : t.fine ∧ t.k ∈ ks ∧ Fine r := by
  obtain ⟨rfl, hk⟩ := take_got h
  exact ⟨hR t (by simp), hk, hR.tail⟩
theorem fine_ok {t : Tok} (h : t.fine) (hk : t.k ∈ termKs) : okT (termP t) := by
  obtain ⟨h1, h2, h3, h4, -, hg⟩ := h
  obtain ⟨g1, g2, g3, g4, g5⟩ := hg
  unfold termKs at hk
  simp only [List.mem_cons, List.not_mem_nil, or_false] at hk
  have hok : (termP t).ok := by
    refine ⟨⟨?_, g3, by show t.t.size ≤ _; omega⟩, by show I64 (t.off : Int); unfold I64; omega⟩
    show I64 (kindT t.k)
    unfold kindT I64
    repeat' split
    all_goals omega
  refine ⟨hok, ?_⟩
  unfold termE
  show (if kindT t.k = 4 then (if t.n = 0 then (if isVarL t.t.toList = true then (0 : Int) else 14) else 14) else if validC ⟨kindT t.k, t.n, t.t⟩ = true then 0 else 5) = 0
  rcases hk with hk | hk | hk | hk
  · obtain ⟨q1, q2⟩ := h2 hk
    have e : kindT t.k = 4 := by rw [hk]; rfl
    rw [if_pos e, if_pos q2, if_pos q1]
  · have q := h3 hk
    have e : kindT t.k = 1 := by rw [hk]; rfl
    rw [e, if_neg (by decide), q, if_pos]
    unfold validC
    rw [if_pos rfl, ByteArray.toList_eq]
    rfl
  · obtain ⟨q1, q2⟩ := h1 hk
    have e : kindT t.k = 2 := by rw [hk]; rfl
    rw [e, if_neg (by decide), if_pos]
    unfold validC
    rw [if_neg (show ¬ (2 : Int) = 1 by decide), if_pos rfl, q1, q2]
    rfl
  · obtain ⟨q1, q2⟩ := h4 hk
    have e : kindT t.k = 3 := by rw [hk]; rfl
    rw [e, if_neg (by decide), if_pos]
    unfold validC
    rw [if_neg (show ¬ (3 : Int) = 1 by decide), if_neg (show ¬ (3 : Int) = 2 by decide), if_pos rfl, q2]
    simpa using q1
theorem args_ok {c f : Int} : ∀ (n : Nat) (acc : List Trm) (R r : List Tok) (ts : List Trm), R.length = n → Fine R → (∀ t ∈ acc, okT t) → acc.length ≤ 8 → argsP c f termKs acc R = .ok ts r → (∀ t ∈ ts, okT t) ∧ ts.length ≤ 8 ∧ Fine r := by
  intro n
  induction n using Nat.strongRecOn with
  | ind n ih =>
    intro acc R r ts hn hR hacc hl h
    cases hT : takeP c f termKs R with
    | bad ec eo => rw [args_bad1 hT] at h; cases h
    | ok t r1 =>
      have l1 := take_len hT
      obtain ⟨t1, t2, t3⟩ := take_fine hR hT
      have hto := fine_ok t1 t2
      have hacc2 : ∀ u ∈ acc ++ [termP t], okT u := fun u hu => by
        rcases List.mem_append.1 hu with hu | hu
        · exact hacc u hu
        · simp only [List.mem_singleton] at hu; subst hu; exact hto
      by_cases h8 : acc.length = 8
      · rw [args_lim hT h8] at h; cases h
      · rw [args_next hT h8] at h
        cases hU : takeP c f [7, 6] r1 with
        | bad ec eo => rw [hU] at h; cases h
        | ok s r2 =>
          have l2 := take_len hU
          obtain ⟨-, -, u3⟩ := take_fine t3 hU
          rw [hU] at h
          simp only at h
          by_cases h7 : s.k = 7
          · rw [if_pos h7] at h
            exact ih r2.length (by omega) _ r2 r ts rfl u3 hacc2 (by simp; omega) h
          · rw [if_neg h7] at h
            injection h with e1 e2
            subst e1 e2
            exact ⟨hacc2, by simp; omega, u3⟩
theorem atom_ok {c f : Int} {name : Tok} {R r : List Tok} {a : PAtom} (hn : name.fine) (h1 : name.k = 1) (hR : Fine R) (h : atomP c f termKs name R = .ok a r) : okA a.p a.ts ∧ Fine r := by
  cases R with
  | nil => cases h
  | cons t q =>
    unfold atomP at h
    simp only at h
    by_cases h5 : t.k = 5
    · rw [if_pos h5] at h
      cases hA : argsP c f termKs [] q with
      | bad ec eo => rw [hA] at h; cases h
      | ok ts r' =>
        rw [hA] at h
        simp only at h
        injection h with e1 e2
        subst e1 e2
        obtain ⟨q1, q2, q3⟩ := args_ok q.length [] q _ ts rfl hR.tail (by simp) (by simp) hA
        exact ⟨⟨(hn.1 h1).1, q2, q1⟩, q3⟩
    · rw [if_neg h5] at h
      injection h with e1 e2
      subst e1 e2
      exact ⟨⟨(hn.1 h1).1, by simp, by simp⟩, hR⟩
theorem okL_atom {k : Int} (hk : k = 1 ∨ k = 2) {a : PAtom} (h : okA a.p a.ts) (o : Int) : okL ⟨k, a, 0, zeroTrm, zeroTrm, o⟩ := .inl ⟨hk, h, rfl, rfl, rfl⟩
theorem lit_ok {c f : Int} {first : Tok} {R r : List Tok} {x : PLit} (hf : first.fine) (hk : first.k ∈ [1, 10, 2, 3, 4]) (hR : Fine R) (h : litP c f first R = .ok x r) : okL x ∧ Fine r := by
  unfold litP at h
  by_cases h10 : first.k = 10
  · rw [if_pos h10] at h
    cases hT : takeP c f [1] R with
    | bad ec eo => rw [hT] at h; cases h
    | ok n r1 =>
      rw [hT] at h
      simp only at h
      obtain ⟨t1, t2, t3⟩ := take_fine hR hT
      cases hA : atomP c f termKs n r1 with
      | bad ec eo => rw [hA] at h; cases h
      | ok a r2 =>
        rw [hA] at h
        simp only at h
        injection h with e1 e2
        subst e1 e2
        obtain ⟨q1, q2⟩ := atom_ok t1 (by simpa using t2) t3 hA
        exact ⟨okL_atom (.inr rfl) q1 _, q2⟩
  · rw [if_neg h10] at h
    have hft : first.k ∈ termKs := by
      simp only [termKs, List.mem_cons, List.not_mem_nil, or_false] at hk ⊢
      omega
    have htest : ∀ x r, (match takeP c f [11] R with
      | .bad c o => PR.bad c o
      | .ok o1 r' => match takeP c f termKs r' with
        | .bad c o => .bad c o
        | .ok t2 r'' => .ok (⟨3, zeroAtom, o1.op, termP first, termP t2, first.off⟩ : PLit) r'') = .ok x r → okL x ∧ Fine r := fun x r h => by
      cases hT : takeP c f [11] R with
      | bad ec eo => rw [hT] at h; cases h
      | ok o1 r1 =>
        rw [hT] at h
        simp only at h
        obtain ⟨t1, t2, t3⟩ := take_fine hR hT
        cases hU : takeP c f termKs r1 with
        | bad ec eo => rw [hU] at h; cases h
        | ok t r2 =>
          rw [hU] at h
          simp only at h
          obtain ⟨u1, u2, u3⟩ := take_fine t3 hU
          injection h with e1 e2
          subst e1 e2
          have ho := t1.2.2.2.2.1 (by simpa using t2)
          exact ⟨.inr ⟨rfl, ho.1, ho.2, fine_ok hf hft, fine_ok u1 u2, rfl, rfl⟩, u3⟩
    simp only at h
    by_cases h1 : first.k = 1
    · rw [if_pos h1] at h
      cases R with
      | nil => cases h
      | cons t q =>
        simp only at h
        by_cases h11 : t.k = 11
        · rw [if_pos h11] at h
          exact htest x r h
        · rw [if_neg h11] at h
          cases hA : atomP c f termKs first (t :: q) with
          | bad ec eo => rw [hA] at h; cases h
          | ok a r2 =>
            rw [hA] at h
            simp only at h
            injection h with e1 e2
            subst e1 e2
            obtain ⟨q1, q2⟩ := atom_ok hf h1 hR hA
            exact ⟨okL_atom (.inl rfl) q1 _, q2⟩
    · rw [if_neg h1] at h
      exact htest x r h
theorem body_ok {c f : Int} : ∀ (n : Nat) (acc : List PLit) (R r : List Tok) (b : List PLit), Fine R → (∀ l ∈ acc, okL l) → acc.length ≤ 16 → bodyF c f n acc R = .ok b r → (∀ l ∈ b, okL l) ∧ b.length ≤ 16 ∧ Fine r := by
  intro n
  induction n with
  | zero => intro acc R r b _ _ _ h; cases h
  | succ n ih =>
    intro acc R r b hR hacc hl h
    cases hT : takeP c f [1, 10, 2, 3, 4] R with
    | bad e1 e2 => rw [body_bad1 hT] at h; cases h
    | ok t r1 =>
      obtain ⟨t1, t2, t3⟩ := take_fine hR hT
      by_cases h16 : acc.length = 16
      · rw [body_lim hT h16] at h; cases h
      · cases hL : litP c f t r1 with
        | bad e1 e2 => rw [body_lit hT h16 hL] at h; cases h
        | ok x r2 =>
          obtain ⟨l1, l2⟩ := lit_ok t1 t2 t3 hL
          have hacc2 : ∀ u ∈ acc ++ [x], okL u := fun u hu => by
            rcases List.mem_append.1 hu with hu | hu
            · exact hacc u hu
            · simp only [List.mem_singleton] at hu; subst hu; exact l1
          cases hU : takeP c f [7, 8] r2 with
          | bad e1 e2 => rw [body_sep hT h16 hL hU] at h; cases h
          | ok s r3 =>
            obtain ⟨-, -, u3⟩ := take_fine l2 hU
            by_cases h8 : s.k = 8
            · rw [body_end hT h16 hL hU h8] at h
              injection h with e1 e2
              subst e1 e2
              exact ⟨hacc2, by simp; omega, u3⟩
            · rw [body_more hT h16 hL hU h8] at h
              exact ih _ _ _ _ u3 hacc2 (by simp; omega) h
theorem cls_ok {c f : Int} {name : Tok} {R r : List Tok} {x : PCls} (hn : name.fine) (h1 : name.k = 1) (hR : Fine R) (h : clauseP c f name R = .ok x r) : okC x ∧ Fine r := by
  unfold clauseP at h
  cases hA : atomP c f termKs name R with
  | bad ec eo => rw [hA] at h; cases h
  | ok a r1 =>
    rw [hA] at h
    simp only at h
    obtain ⟨q1, q2⟩ := atom_ok hn h1 hR hA
    cases hT : takeP c f [8, 9] r1 with
    | bad ec eo => rw [hT] at h; cases h
    | ok s r2 =>
      rw [hT] at h
      simp only at h
      obtain ⟨-, -, t3⟩ := take_fine q2 hT
      by_cases h9 : s.k = 9
      · rw [if_pos h9] at h
        cases hB : bodyP c f r2 with
        | bad ec eo => rw [hB] at h; cases h
        | ok b r3 =>
          rw [hB] at h
          simp only at h
          injection h with e1 e2
          subst e1 e2
          obtain ⟨b1, b2, b3⟩ := body_ok _ [] _ _ _ t3 (by simp) (by simp) hB
          exact ⟨⟨q1, b2, b1⟩, b3⟩
      · rw [if_neg h9] at h
        injection h with e1 e2
        subst e1 e2
        exact ⟨⟨q1, by simp, by simp⟩, t3⟩
theorem progF_ok {c f : Int} : ∀ (n : Nat) (acc : List PCls) (R r : List Tok) (out : List PCls), Fine R → (∀ x ∈ acc, okC x) → progF c f n acc R = .ok out r → ∀ x ∈ out, okC x := by
  intro n
  induction n with
  | zero => intro acc R r out _ _ h; cases h
  | succ n ih =>
    intro acc R r out hR hacc h
    cases hT : takeP c f [1, 0] R with
    | bad e1 e2 => rw [prog_bad1 hT] at h; cases h
    | ok t r1 =>
      obtain ⟨t1, t2, t3⟩ := take_fine hR hT
      by_cases h0 : t.k = 0
      · rw [prog_end hT h0] at h; injection h with e1 e2; subst e1; exact hacc
      · have hk1 : t.k = 1 := by
          simp only [List.mem_cons, List.not_mem_nil, or_false] at t2
          omega
        by_cases h5 : acc.length = 512
        · rw [prog_lim hT h0 h5] at h; cases h
        · cases hC : clauseP c f t r1 with
          | bad e1 e2 => rw [prog_cls hT h0 h5 hC] at h; cases h
          | ok x r2 =>
            obtain ⟨c1, c2⟩ := cls_ok t1 hk1 t3 hC
            rw [prog_more hT h0 h5 hC] at h
            refine ih _ _ _ _ c2 (fun u hu => ?_) h
            rcases List.mem_append.1 hu with hu | hu
            · exact hacc u hu
            · simp only [List.mem_singleton] at hu; subst hu; exact c1
/-- What parse.Program makes of a text is well formed. -/
theorem prog_ok {s : ByteArray} {P : List PCls} {r : List Tok} (h : progP (scanX s).2.1 ((scanX s).2.2 : Int) (scanX s).1 = .ok P r) : (∀ x ∈ P, okC x) ∧ P.length ≤ 512 :=
  ⟨progF_ok _ [] _ _ _ (scan_fine s) (by simp) h, prog_most _ [] _ _ _ (by simp) h⟩
end Go.Proofs.YtchhophblejmeaaGreatDoor

namespace Go.Proofs.YtchhophblejmeaaGreatDoor
set_option linter.unusedSimpArgs false
set_option linter.unusedVariables false
open Go.RowKit
open Go.Lib (decDigits itoa)

theorem noTerm_st {t : Trm} (h : t.st = zeroTrm) : noTerm t = true := by
  obtain ⟨k, n, s, off⟩ := t
  unfold Trm.st zeroTrm at h
  simp only [Trm.mk.injEq] at h
  obtain ⟨rfl, rfl, rfl, -⟩ := h
  unfold noTerm
  rw [ByteArray.toList_eq]
  rfl
theorem atom_zero {p : ByteArray} {ts : List Trm} (h : okA p ts) : atomE p ts = 0 := by
  unfold atomE
  rw [if_pos h.1, if_neg (by have := h.2.1; omega)]
  exact firstE_zero fun t ht => (h.2.2 t ht).2
theorem lit_zero {x : Lix} (h : okL x.pur) : litE (ltrOf x) = 0 := by
  unfold litE ltrOf
  simp only [atmOf_p, atmOf_ts]
  rcases h with ⟨hk, ha, ho, hl, hr⟩ | ⟨hk, h1, h6, hl, hr, hp, hts⟩
  · rw [if_pos (show x.k = 1 ∨ x.k = 2 from hk), if_pos (show x.op = 0 from ho), if_pos (show noTerm x.l = true from noTerm_st hl), if_pos (show noTerm x.r = true from noTerm_st hr)]
    exact atom_zero ha
  · have hk' : x.k = 3 := hk
    have hp' : x.a.p = ⟨#[]⟩ := hp
    have ht' : x.a.ts = [] := hts
    have e : (x.a.p.toList == []) = true := by rw [hp', ByteArray.toList_eq]; rfl
    rw [if_neg (by omega), if_pos hk', if_neg (show ¬ x.op < 1 by have : 1 ≤ x.op := h1; omega), if_neg (show ¬ 6 < x.op by have : x.op ≤ 6 := h6; omega), if_pos e, if_neg (by rw [ht']; simp), if_pos (show termE x.l = 0 from hl.2)]
    exact hr.2
theorem cls_zero {c : Clx} (h : okC c.pur) : clauseE (clsOf c) = 0 := by
  obtain ⟨h1, h2, h3⟩ := h
  unfold clauseE
  rw [clsOf_h, clsOf_ls, atmOf_p, atmOf_ts, if_pos (show atomE c.h.p c.h.ts = 0 from atom_zero h1)]
  unfold bodyE
  have hl : (c.ls.map ltrOf).length = c.pur.b.length := by show _ = (c.ls.map Lix.pur).length; simp
  rw [if_neg (by omega)]
  refine firstE_zero fun y hy => ?_
  obtain ⟨x, hx, rfl⟩ := List.mem_map.1 hy
  exact lit_zero (h3 x.pur (List.mem_map.2 ⟨x, hx, rfl⟩))
theorem prog_zero {cs : List Clx} (h : ∀ c ∈ cs.map Clx.pur, okC c) (hn : cs.length ≤ 512) : progE (cs.map clsOf) = 0 := by
  unfold progE
  rw [if_neg (by simp; omega)]
  refine firstE_zero fun y hy => ?_
  obtain ⟨x, hx, rfl⟩ := List.mem_map.1 hy
  exact cls_zero (h x.pur (List.mem_map.2 ⟨x, hx, rfl⟩))
/-- The same text by the trees alone. -/
theorem bodyT_pur (ls : List Lix) : bodyT ls = pbodyT (ls.map Lix.pur) := by
  unfold bodyT pbodyT
  rw [List.map_map]
  rfl
theorem clsT_pur (c : Clx) : clsT c = pclsT c.pur := by
  unfold clsT pclsT
  rw [bodyT_pur]
  show _ = atmT c.h.p c.h.ts ++ ((if c.ls.map Lix.pur = [] then [] else [32, 58, 45, 32] ++ pbodyT (c.ls.map Lix.pur)) ++ [46])
  by_cases h : c.ls = []
  · rw [if_pos h, if_pos (by rw [h]; rfl)]
  · rw [if_neg h, if_neg (by simpa using h)]
theorem progT_pur (cs : List Clx) : progT cs = pprogT (cs.map Clx.pur) := by
  unfold progT pprogT
  rw [List.flatMap_map]
  congr 1
  funext c
  show _ = pclsT c.pur ++ [10]
  rw [clsT_pur]
/-- A text tells no places. -/
theorem trmT_st (t : Trm) : trmT t.st = trmT t := rfl
theorem atmT_st (p : ByteArray) (ts : List Trm) : atmT p (ts.map Trm.st) = atmT p ts := by
  unfold atmT
  rw [List.map_map]
  rfl
theorem plitT_st (x : PLit) : plitT x.st = plitT x := by
  unfold plitT PLit.st PAtom.st
  simp only [atmT_st]
  rfl
theorem pbodyT_st (ls : List PLit) : pbodyT (ls.map PLit.st) = pbodyT ls := by
  unfold pbodyT
  rw [List.map_map]
  congr 1
  exact List.map_congr_left fun x _ => plitT_st x
theorem pclsT_st (c : PCls) : pclsT c.st = pclsT c := by
  unfold pclsT
  show atmT c.h.p (c.h.ts.map Trm.st) ++ ((if c.b.map PLit.st = [] then [] else [32, 58, 45, 32] ++ pbodyT (c.b.map PLit.st)) ++ [46]) = _
  rw [atmT_st, pbodyT_st]
  by_cases h : c.b = []
  · rw [if_pos h, if_pos (by rw [h]; rfl)]
  · rw [if_neg h, if_neg (by simpa using h)]
theorem pprogT_st {cs ds : List PCls} (h : cs.map PCls.st = ds.map PCls.st) : pprogT cs = pprogT ds := by
  have key : ∀ cs : List PCls, pprogT cs = pprogT (cs.map PCls.st) := fun cs => by
    unfold pprogT
    rw [List.flatMap_map]
    congr 1
    funext c
    rw [pclsT_st]
  rw [key cs, key ds, h]
/-- Printable bytes. -/
def Prn (l : List UInt8) : Prop := ∀ b ∈ l, 32 ≤ b.toNat ∧ b.toNat ≤ 126
theorem Prn.app {l m : List UInt8} (h : Prn l) (h2 : Prn m) : Prn (l ++ m) := fun b hb => (List.mem_append.1 hb).elim (h b) (h2 b)
theorem word_prn : ∀ n : Fin 256, wordN (n.val : Int) = true → 32 ≤ n.val ∧ n.val ≤ 126 := by decide +kernel
theorem isWord_prn {s : ByteArray} (h : isWordL s.toList = true) : Prn s.data.toList ∧ s.data.toList.length ≤ 64 := by
  rw [ByteArray.toList_eq] at h
  unfold isWordL at h
  rw [Bool.and_eq_true, Bool.and_eq_true] at h
  simp only [decide_eq_true_eq, List.all_eq_true] at h
  exact ⟨fun b hb => word_prn ⟨b.toNat, b.toNat_lt⟩ (h.2.2 b hb), h.2.1⟩
theorem name_prn {s : ByteArray} (h : isNameL s.toList = true) : Prn s.data.toList ∧ s.data.toList.length ≤ 64 := by
  unfold isNameL at h
  rw [Bool.and_eq_true] at h
  exact isWord_prn h.1
theorem var_prn {s : ByteArray} (h : isVarL s.toList = true) : Prn s.data.toList ∧ s.data.toList.length ≤ 64 := by
  unfold isVarL at h
  rw [Bool.and_eq_true] at h
  exact isWord_prn h.1
theorem escB_prn' : ∀ n : Fin 256, (∀ b ∈ escB (UInt8.ofNat n.val), 32 ≤ b.toNat ∧ b.toNat ≤ 126) ∧ (escB (UInt8.ofNat n.val)).length ≤ 4 := by decide +kernel
theorem escB_prn (c : UInt8) : Prn (escB c) ∧ (escB c).length ≤ 4 := by
  have := escB_prn' ⟨c.toNat, c.toNat_lt⟩
  unfold Prn
  simpa using this
theorem escs_prn : ∀ l : List UInt8, Prn (l.flatMap escB) ∧ (l.flatMap escB).length ≤ 4 * l.length
  | [] => ⟨by simp [Prn], by simp⟩
  | c :: l => by
    obtain ⟨h1, h2⟩ := escB_prn c
    obtain ⟨h3, h4⟩ := escs_prn l
    rw [List.flatMap_cons]
    exact ⟨h1.app h3, by simp only [List.length_append, List.length_cons]; omega⟩
theorem dig_prn (u : Nat) : Prn (decDigits u) := fun b hb => by have := dec_digs u b hb; omega
theorem itoa_prn (n : Int) : Prn (itoa n) := by
  unfold itoa
  split
  · intro b hb
    rcases List.mem_cons.1 hb with rfl | hb
    · decide
    · exact dig_prn _ b hb
  · exact dig_prn _
theorem trm_prn {t : Trm} (h : okT t) : Prn (trmT t) ∧ (trmT t).length ≤ 2000 := by
  rcases okT_cases h with ⟨hk, hn, hv⟩ | ⟨hk, hs, hI, hv⟩ | ⟨hk, hn, hm, hv⟩ | ⟨hk, hn, hs, hv⟩
  · have e1 : trmT t = t.s.data.toList := by unfold trmT; rw [if_pos hk]
    rw [e1]
    exact ⟨(var_prn hv).1, by have := (var_prn hv).2; omega⟩
  · have e1 : trmT t = itoa t.n := by unfold trmT; rw [if_neg (show ¬ t.k = 4 by omega)]; unfold textC; rw [if_pos hv, if_pos (show t.con.k = 1 from hk)]; rfl
    rw [e1]
    exact ⟨itoa_prn _, by have := Go.Lib.itoa_length_le t.n (by unfold I64 at hI; omega) (by unfold I64 at hI; omega); omega⟩
  · have e1 : trmT t = t.s.data.toList := by unfold trmT; rw [if_neg (show ¬ t.k = 4 by omega)]; unfold textC; rw [if_pos hv, if_neg (show ¬ t.con.k = 1 by show ¬ t.k = 1; omega), if_pos (show t.con.k = 2 from hk)]; rfl
    rw [e1]
    exact ⟨(name_prn hm).1, by have := (name_prn hm).2; omega⟩
  · have e1 : trmT t = 34 :: (t.s.data.toList.flatMap escB ++ [34]) := by unfold trmT; rw [if_neg (show ¬ t.k = 4 by omega)]; unfold textC; rw [if_pos hv, if_neg (show ¬ t.con.k = 1 by show ¬ t.k = 1; omega), if_neg (show ¬ t.con.k = 2 by show ¬ t.k = 2; omega), quot_bytes]; rfl
    obtain ⟨h1, h2⟩ := escs_prn t.s.data.toList
    rw [e1]
    refine ⟨fun b hb => ?_, ?_⟩
    · rcases List.mem_cons.1 hb with rfl | hb
      · decide
      · rcases List.mem_append.1 hb with hb | hb
        · exact h1 b hb
        · simp only [List.mem_singleton] at hb; subst hb; decide
    · have hz : t.s.data.toList.length ≤ 255 := hs
      simp only [List.length_cons, List.length_append, List.length_nil]
      omega
theorem jnT_prn {N : Nat} {b : List UInt8} (hb : Prn b) : ∀ {ms : List (List UInt8)}, (∀ m ∈ ms, Prn m ∧ m.length ≤ N) → Prn (jnT b ms) ∧ (jnT b ms).length ≤ ms.length * (b.length + N)
  | [], _ => ⟨by simp [Prn, jnT], by simp [jnT]⟩
  | m :: ms, h => by
    obtain ⟨h1, h2⟩ := jnT_prn (N := N) hb (ms := ms) fun x hx => h x (by simp [hx])
    obtain ⟨h3, h4⟩ := h m (by simp)
    rw [jnT_cons]
    refine ⟨hb.app (h3.app h1), ?_⟩
    simp only [List.length_append, List.length_cons, Nat.succ_mul]
    omega
theorem jn_prn {N : Nat} {b : List UInt8} (hb : Prn b) {ms : List (List UInt8)} (h : ∀ m ∈ ms, Prn m ∧ m.length ≤ N) : Prn (jn b ms) ∧ (jn b ms).length ≤ ms.length * (b.length + N) := by
  cases ms with
  | nil => exact ⟨by simp [Prn, jn], by simp [jn]⟩
  | cons m ms =>
    obtain ⟨h1, h2⟩ := jnT_prn (N := N) hb (ms := ms) fun x hx => h x (by simp [hx])
    obtain ⟨h3, h4⟩ := h m (by simp)
    rw [jn_cons]
    refine ⟨h3.app h1, ?_⟩
    simp only [List.length_append, List.length_cons, Nat.succ_mul]
    omega
theorem prn_lit {l : List UInt8} (h : (l.all fun b => decide (32 ≤ b.toNat) && decide (b.toNat ≤ 126)) = true) : Prn l := fun b hb => by
  have := List.all_eq_true.1 h b hb
  simpa using this
theorem atm_prn {p : ByteArray} {ts : List Trm} (h : okA p ts) : Prn (atmT p ts) ∧ (atmT p ts).length ≤ 20000 := by
  obtain ⟨h1, h2, h3⟩ := h
  obtain ⟨n1, n2⟩ := name_prn h1
  obtain ⟨j1, j2⟩ := jn_prn (N := 2000) (b := [44, 32]) (ms := ts.map trmT) (prn_lit (by decide)) fun m hm => by
    obtain ⟨t, ht, rfl⟩ := List.mem_map.1 hm
    exact trm_prn (h3 t ht)
  unfold atmT argT
  by_cases h0 : ts.map trmT = []
  · rw [if_pos h0, List.append_nil]
    exact ⟨n1, by omega⟩
  · rw [if_neg h0]
    refine ⟨n1.app ((prn_lit (by decide)).app (j1.app (prn_lit (by decide)))), ?_⟩
    simp only [List.length_append, List.length_cons, List.length_nil, List.length_map] at j2 ⊢
    have : ts.length * (0 + 1 + 1 + 2000) ≤ 8 * (0 + 1 + 1 + 2000) := Nat.mul_le_mul_right _ h2
    omega
theorem op_prn (op : Int) : Prn (opT op) ∧ (opT op).length ≤ 2 := by
  unfold opT
  repeat' split
  all_goals exact ⟨prn_lit (by decide), by decide⟩
theorem lit_prn {x : PLit} (h : okL x) : Prn (plitT x) ∧ (plitT x).length ≤ 20010 := by
  unfold plitT
  rcases h with ⟨hk, ha, -⟩ | ⟨hk, h1, h6, hl, hr, -⟩
  · obtain ⟨a1, a2⟩ := atm_prn ha
    by_cases h1 : x.k = 1
    · rw [if_pos h1]; exact ⟨a1, by omega⟩
    · rw [if_neg h1, if_pos (by omega)]
      exact ⟨(prn_lit (by decide)).app ((prn_lit (by decide)).app a1), by simp only [List.length_append, List.length_cons, List.length_nil]; omega⟩
  · rw [if_neg (by omega), if_neg (by omega), if_pos hk]
    obtain ⟨l1, l2⟩ := trm_prn hl
    obtain ⟨r1, r2⟩ := trm_prn hr
    obtain ⟨o1, o2⟩ := op_prn x.op
    exact ⟨l1.app ((prn_lit (by decide)).app (o1.app ((prn_lit (by decide)).app r1))), by simp only [List.length_append, List.length_cons, List.length_nil]; omega⟩
theorem body_prn {ls : List PLit} (h : ∀ l ∈ ls, okL l) (hn : ls.length ≤ 16) : Prn (pbodyT ls) ∧ (pbodyT ls).length ≤ 400000 := by
  obtain ⟨j1, j2⟩ := jn_prn (N := 20010) (b := [44, 32]) (ms := ls.map plitT) (prn_lit (by decide)) fun m hm => by
    obtain ⟨t, ht, rfl⟩ := List.mem_map.1 hm
    exact lit_prn (h t ht)
  refine ⟨j1, ?_⟩
  unfold pbodyT
  simp only [List.length_map, List.length_cons, List.length_nil] at j2
  have : ls.length * (0 + 1 + 1 + 20010) ≤ 16 * (0 + 1 + 1 + 20010) := Nat.mul_le_mul_right _ hn
  omega
/-- A clause's text: printable bytes, a dot at the end. -/
theorem cls_prn {c : PCls} (h : okC c) : ∃ l, pclsT c = l ++ [46] ∧ Prn l ∧ l.length ≤ 500000 := by
  obtain ⟨h1, h2, h3⟩ := h
  obtain ⟨a1, a2⟩ := atm_prn h1
  obtain ⟨b1, b2⟩ := body_prn h3 h2
  unfold pclsT
  rw [← List.append_assoc]
  refine ⟨_, rfl, a1.app ?_, ?_⟩
  · split
    · simp [Prn]
    · exact (prn_lit (by decide)).app b1
  · split
    · simp only [List.length_append, List.length_nil]; omega
    · simp only [List.length_append, List.length_cons, List.length_nil]; omega
/-- Printable bytes and line ends, each behind a dot. -/
def LnOk : UInt8 → List UInt8 → Prop
  | _, [] => True
  | p, b :: r => ((b = 10 ∧ p = 46) ∨ (32 ≤ b.toNat ∧ b.toNat ≤ 126)) ∧ LnOk b r
theorem lnOk_prn : ∀ (l : List UInt8) (p : UInt8) (r : List UInt8), Prn l → LnOk 46 (10 :: r) → LnOk p (l ++ 46 :: 10 :: r)
  | [], p, r, _, hr => ⟨.inr (by decide), hr⟩
  | b :: l, p, r, hl, hr => ⟨.inr (hl b (by simp)), lnOk_prn l b r (fun x hx => hl x (by simp [hx])) hr⟩
theorem prog_lines : ∀ (cs : List PCls), (∀ c ∈ cs, okC c) → ∀ p, LnOk p (pprogT cs)
  | [], _, _ => trivial
  | c :: cs, h, p => by
    obtain ⟨l, e, hl, -⟩ := cls_prn (h c (by simp))
    have e2 : pprogT (c :: cs) = l ++ 46 :: 10 :: pprogT cs := by
      unfold pprogT
      rw [List.flatMap_cons, e]
      simp
    rw [e2]
    exact lnOk_prn l p _ hl ⟨.inl ⟨rfl, rfl⟩, prog_lines cs (fun u hu => h u (by simp [hu])) 10⟩
theorem prn_count {l : List UInt8} (h : Prn l) : l.count 10 = 0 := by
  rw [List.count_eq_zero]
  intro hm
  have := h 10 hm
  exact absurd this.1 (by decide)
theorem prog_count : ∀ (cs : List PCls), (∀ c ∈ cs, okC c) → (pprogT cs).count 10 = cs.length ∧ (pprogT cs = [] ∨ (pprogT cs).getLast? = some 10) ∧ (pprogT cs).length ≤ cs.length * 600000
  | [], _ => ⟨rfl, .inl rfl, by simp [pprogT]⟩
  | c :: cs, h => by
    obtain ⟨l, e, hl, hn⟩ := cls_prn (h c (by simp))
    obtain ⟨h1, h2, h3⟩ := prog_count cs fun u hu => h u (by simp [hu])
    have e2 : pprogT (c :: cs) = l ++ ([46, 10] ++ pprogT cs) := by
      unfold pprogT
      rw [List.flatMap_cons, e]
      simp
    rw [e2]
    refine ⟨?_, .inr ?_, ?_⟩
    · rw [List.count_append, List.count_append, prn_count hl, h1]
      simp [Nat.add_comm]
    · rw [List.getLast?_append, List.getLast?_append]
      rcases h2 with h2 | h2
      · rw [h2]; rfl
      · rw [h2]; rfl
    · simp only [List.length_append, List.length_cons, List.length_nil, Nat.succ_mul]
      omega
end Go.Proofs.YtchhophblejmeaaGreatDoor
