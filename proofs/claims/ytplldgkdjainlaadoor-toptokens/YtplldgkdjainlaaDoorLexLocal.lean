/- A token hangs on its own bytes and on the one behind them: no program in sight. -/
import Derived.Test.YtplldgkdjainlaaDoorLexNothingPure
namespace Go.Proofs.YtplldgkdjainlaaDoor
set_option linter.unusedSimpArgs false
set_option linter.unusedVariables false
open Go.RowKit

/-- Two lists have the same first n bytes. -/
def Agree (l l' : List UInt8) (n : Nat) : Prop := ∀ i, i < n → l'[i]? = l[i]?
/-- What stands behind the first n bytes of l' stands there in l too, or is a blank. -/
def Safe (l l' : List UInt8) (n : Nat) : Prop := ∀ b, l'[n]? = some b → l[n]? = some b ∨ b = 10 ∨ b = 32

theorem Agree.mono {l l' : List UInt8} {n m : Nat} (h : Agree l l' n) (hm : m ≤ n) : Agree l l' m := fun i hi => h i (by omega)
theorem Agree.drop {l l' : List UInt8} {n : Nat} (h : Agree l l' n) (k : Nat) : Agree (l.drop k) (l'.drop k) (n - k) := fun i hi => by
  rw [List.getElem?_drop, List.getElem?_drop]; exact h _ (by omega)
theorem Agree.take {l l' : List UInt8} {n : Nat} (h : Agree l l' n) : l'.take n = l.take n := by
  apply List.ext_getElem?
  intro i
  rw [List.getElem?_take, List.getElem?_take]
  split
  · exact h i (by assumption)
  · rfl
theorem Agree.len {l l' : List UInt8} {n : Nat} (h : Agree l l' n) (hn : n ≤ l.length) : n ≤ l'.length := by
  rcases n with _ | n
  · omega
  · have e := h n (by omega)
    rw [List.getElem?_eq_getElem (l := l) (by omega)] at e
    have := (List.getElem?_eq_some_iff.1 e).1
    omega
theorem Safe.drop {l l' : List UInt8} {n : Nat} (h : Safe l l' n) {k : Nat} (hk : k ≤ n) : Safe (l.drop k) (l'.drop k) (n - k) := fun b hb => by
  rw [List.getElem?_drop] at hb ⊢
  rw [show k + (n - k) = n by omega] at hb ⊢
  exact h b hb

theorem runC_iff : ∀ (l : List UInt8) (m : Nat), runC l = m ↔ m ≤ l.length ∧ (∀ i b, i < m → l[i]? = some b → bWord b.toNat = true) ∧ (∀ b, l[m]? = some b → bWord b.toNat = false)
  | [], m => by
    constructor
    · intro h
      have h0 : m = 0 := h.symm
      subst h0
      exact ⟨by simp, fun i b h => by omega, fun b h => by simp at h⟩
    · intro h
      have := h.1
      simp at this
      exact this.symm
  | a :: r, 0 => by
    unfold runC
    constructor
    · intro h
      split at h
      · omega
      · next hw => exact ⟨by simp, fun i b h => by omega, fun b hb => by simp at hb; subst hb; simpa using hw⟩
    · intro h
      have := h.2.2 a (by simp)
      rw [if_neg (by rw [this]; simp)]
  | a :: r, m + 1 => by
    have ih := runC_iff r m
    unfold runC
    constructor
    · intro h
      split at h
      · next hw =>
        obtain ⟨h1, h2, h3⟩ := ih.1 (by omega)
        refine ⟨by simp; omega, ?_, ?_⟩
        · intro i b hi hb
          rcases i with _ | i
          · simp at hb; subst hb; exact hw
          · exact h2 i b (by omega) (by simpa using hb)
        · intro b hb
          exact h3 b (by simpa using hb)
      · omega
    · rintro ⟨h1, h2, h3⟩
      rw [if_pos (h2 0 a (by omega) (by simp))]
      have := ih.2 ⟨by simp at h1; omega, fun i b hi hb => h2 (i + 1) b (by omega) (by simpa using hb), fun b hb => h3 b (by simpa using hb)⟩
      omega

theorem runC_pre {l l' : List UInt8} (ha : Agree l l' (runC l)) (hs : Safe l l' (runC l)) : runC l' = runC l := by
  obtain ⟨h1, h2, h3⟩ := (runC_iff l _).1 rfl
  refine (runC_iff l' _).2 ⟨ha.len h1, fun i b hi hb => h2 i b hi (by rw [← ha i hi]; exact hb), fun b hb => ?_⟩
  rcases hs b hb with h | h | h
  · exact h3 b h
  · subst h; rfl
  · subst h; rfl

theorem extract_list (s : ByteArray) (a n : Nat) : (s.extract a (a + n)).data.toList = (rest s a).take n := by
  rw [ByteArray.data_extract, Array.toList_extract, List.extract_eq_take_drop]
  unfold rest
  rw [show a + n - a = n by omega]

theorem extract_pre {s s' : ByteArray} {g g' n : Nat} (ha : Agree (rest s g) (rest s' g') n) : s'.extract g' (g' + n) = s.extract g (g + n) := by
  apply ByteArray.ext
  apply Array.ext'
  rw [extract_list, extract_list, ha.take]

theorem first_byte (s : ByteArray) (g : Nat) (h : g < s.size) : (rest s g)[0]? = some s[g] := by rw [rest_cons s g h]; rfl
theorem nth_byte (s : ByteArray) (g j : Nat) (h : g + j < s.size) : (rest s g)[j]? = some s[g + j] := by
  have := first_byte s (g + j) h
  rw [← rest_drop, List.getElem?_drop] at this
  exact this
theorem lt_of_byte {s : ByteArray} {g j : Nat} {b : UInt8} (h : (rest s g)[j]? = some b) : g + j < s.size := by
  have := (List.getElem?_eq_some_iff.1 h).1
  rw [rest_len] at this
  omega
theorem byte_pre {s s' : ByteArray} {g g' n j : Nat} (ha : Agree (rest s g) (rest s' g') n) (hj : j < n) (h : g + j < s.size) : ∃ h' : g' + j < s'.size, s'[g' + j] = s[g + j] := by
  have e := ha j hj
  rw [nth_byte s g j h] at e
  have h' := lt_of_byte e
  rw [nth_byte s' g' j h'] at e
  exact ⟨h', Option.some.inj e⟩

theorem wordX_len {s : ByteArray} {o : Nat} {t : Tok} (h : wordX s o = .tok t) : t.en = o + runC (rest s o) := by
  unfold wordX at h
  simp only at h
  repeat' split at h
  all_goals first | (injection h with h; subst h; rfl) | cases h

theorem wordX_pre {s s' : ByteArray} {g g' : Nat} {t : Tok} (h : wordX s g = .tok t) (ha : Agree (rest s g) (rest s' g') (t.en - g)) (hs : Safe (rest s g) (rest s' g') (t.en - g)) :
    wordX s' g' = .tok ⟨t.k, t.t, t.n, t.op, g', g' + (t.en - g)⟩ := by
  have he := wordX_len h
  rw [show t.en - g = runC (rest s g) by omega] at ha hs ⊢
  have hr := runC_pre ha hs
  have hx := extract_pre ha
  unfold wordX at h ⊢
  simp only at h ⊢
  rw [hr, hx]
  generalize runC (rest s g) = m at *
  split
  · next h64 => rw [if_pos h64] at h; cases h
  · next h64 =>
    rw [if_neg h64] at h
    split
    · next hn => rw [if_pos hn] at h; injection h with h; subst h; rfl
    · next hn =>
      rw [if_neg hn] at h
      split
      · next hl => rw [if_pos hl] at h; injection h with h; subst h; rfl
      · next hl => rw [if_neg hl] at h; injection h with h; subst h; rfl

theorem intX_len {s : ByteArray} {o : Nat} {t : Tok} (h : intX s o = .tok t) : t.en = o + (1 + runC (rest s (o + 1))) := by
  unfold intX at h
  split at h
  · injection h with h; subst h; show o + 1 + _ = _; omega
  · cases h

theorem intX_pre {s s' : ByteArray} {g g' : Nat} {t : Tok} (h : intX s g = .tok t) (ha : Agree (rest s g) (rest s' g') (t.en - g)) (hs : Safe (rest s g) (rest s' g') (t.en - g)) :
    intX s' g' = .tok ⟨t.k, t.t, t.n, t.op, g', g' + (t.en - g)⟩ := by
  have he := intX_len h
  have e1 : t.en - g = 1 + runC (rest s (g + 1)) := by omega
  rw [e1] at ha hs ⊢
  have hr : runC (rest s' (g' + 1)) = runC (rest s (g + 1)) := by
    rw [← rest_drop, ← rest_drop]
    rw [← rest_drop] at ha hs
    have h1 := ha.drop 1
    have h2 := hs.drop (k := 1) (by omega)
    rw [show 1 + runC ((rest s g).drop 1) - 1 = runC ((rest s g).drop 1) by omega] at h1 h2
    exact runC_pre h1 h2
  have hx := extract_pre ha
  unfold intX at h ⊢
  rw [hr, show g' + 1 + runC (rest s (g + 1)) = g' + (1 + runC (rest s (g + 1))) by omega, hx]
  rw [show g + 1 + runC (rest s (g + 1)) = g + (1 + runC (rest s (g + 1))) by omega] at h
  split
  · next v hv => rw [hv] at h; injection h with h; subst h; rfl
  · next hv =>
    split at h
    · next v hv' => exact absurd hv' (hv v)
    · cases h

def begL (l : List UInt8) : Bool := bDig (((l[0]?).getD 0).toNat : Int) || ((((l[0]?).getD 0).toNat : Int) == 45 && (decide (1 < l.length) && bDig (((l[1]?).getD 0).toNat : Int)))
theorem begB_list (r : ByteArray) : begB r = begL r.data.toList := by
  have h : ∀ i : Nat, r.data[i]! = (r.data.toList[i]?).getD 0 := fun i => by
    rw [Array.getElem?_toList, getElem!_def]
    cases r.data[i]? <;> rfl
  unfold begB begL
  rw [h 0, h 1]
  simp
theorem beg_rest (s : ByteArray) (g : Nat) : begB (s.extract g s.size) = begL (rest s g) := by rw [begB_list, extract_rest]

theorem escX_two (r : ByteArray) (h : (escX r).2 ≠ 0) : 2 ≤ (escX r).2 := by
  have hx := hexX_bounds r
  revert h
  unfold escX
  split
  · unfold escOf
    repeat' split
    all_goals first | (intro; decide) | (intro h; rcases hx.1 with h1 | h1 <;> omega) | (intro h; exact absurd rfl h)
  · intro h; exact absurd rfl h

theorem at_two {r r' : ByteArray} {i : Nat} (h : i < r.size) (e : r'.data.toList[i]? = r.data.toList[i]?) : ∃ h' : i < r'.size, r'[i] = r[i] := by
  rw [List.getElem?_eq_getElem (l := r.data.toList) (by simpa using h)] at e
  have h1 := (List.getElem?_eq_some_iff.1 e)
  obtain ⟨h2, h3⟩ := h1
  exact ⟨by simpa using h2, h3⟩

theorem escX_pre {r r' : ByteArray} (h : (escX r).2 ≠ 0) (ha : Agree r.data.toList r'.data.toList (escX r).2.toNat) : escX r' = escX r := by
  have h2 := escX_two r h
  have h1 : 1 < r.size := by
    unfold escX at h
    split at h
    · assumption
    · exact absurd rfl h
  obtain ⟨h1', e1⟩ := at_two h1 (ha 1 (by omega))
  have e : escX r = escOf r (r[1].toNat : Int) := dif_pos h1
  have e' : escX r' = escOf r' (r[1].toNat : Int) := by rw [← e1]; exact dif_pos h1'
  rw [e] at h ha ⊢
  rw [e']
  unfold escOf at h ha ⊢
  split; · rfl
  split; · rfl
  split; · rfl
  split; · rfl
  split; · rfl
  split
  · next a1 a2 a3 a4 a5 a6 =>
    rw [if_neg a1, if_neg a2, if_neg a3, if_neg a4, if_neg a5, if_pos a6] at h ha
    have h4 : (hexX r).2 = 4 ∧ 4 ≤ r.size := by
      rcases (hexX_bounds r).1 with hh | hh
      · exact absurd hh h
      · exact ⟨hh.1, hh.2⟩
    rw [h4.1] at ha
    have hl := ha.len (n := 4) (by simp; omega)
    have hl' : 4 ≤ r'.size := by simpa using hl
    have hx : r'.extract 2 4 = r.extract 2 4 := by
      apply ByteArray.ext
      apply Array.ext'
      rw [ByteArray.data_extract, ByteArray.data_extract, Array.toList_extract, Array.toList_extract, List.extract_eq_take_drop, List.extract_eq_take_drop]
      have := (ha.drop 2).take
      exact this
    unfold hexX
    rw [if_neg (by omega), if_neg (by omega), hx]
  · rfl

theorem textF_lt (s : ByteArray) (o : Nat) : ∀ (n i : Nat) (vs : List Int) (t : Tok), s.size - i = n → textF s o i vs = .tok t → i < t.en ∧ t.off = o := by
  intro n
  induction n using Nat.strongRecOn with
  | ind n ih =>
    intro i vs t hn h
    rw [textF] at h
    split at h
    · next hlt =>
      split at h
      · cases h
      · split at h
        · injection h with h; subst h; exact ⟨Nat.lt_succ_self _, rfl⟩
        · split at h
          · split at h
            · cases h
            · split at h
              · cases h
              · have := ih _ (by omega) _ _ t rfl h
                exact ⟨by omega, this.2⟩
          · split at h
            · cases h
            · have := ih _ (by omega) _ _ t rfl h
              exact ⟨by omega, this.2⟩
    · cases h

theorem textF_pre {s s' : ByteArray} {g g' : Nat} : ∀ (N j : Nat) (vs : List Int) (t : Tok), s.size - (g + j) = N → textF s g (g + j) vs = .tok t → Agree (rest s g) (rest s' g') (t.en - g) →
    textF s' g' (g' + j) vs = .tok ⟨t.k, t.t, t.n, t.op, g', g' + (t.en - g)⟩ := by
  intro N
  induction N using Nat.strongRecOn with
  | ind N ih =>
    intro j vs t hN h ha
    have hlt1 := (textF_lt s g _ _ _ _ rfl h).1
    rw [textF] at h
    split at h
    · next hlt =>
      obtain ⟨hlt', hb⟩ := byte_pre ha (j := j) (by omega) hlt
      rw [textF, dif_pos hlt', hb]
      split at h
      · cases h
      · next h32 =>
        rw [if_neg h32]
        split at h
        · next h34 =>
          rw [if_pos h34]
          injection h with h
          subst h
          show Nx.tok _ = Nx.tok _
          congr 2
          show g' + j + 1 = g' + (g + j + 1 - g)
          omega
        · next h34 =>
          rw [if_neg h34]
          split at h
          · next h92 =>
            rw [if_pos h92]
            split at h
            · cases h
            · next hn0 =>
              split at h
              · cases h
              · next h255 =>
                have hlt2 := (textF_lt s g _ _ _ _ rfl h).1
                have hesc : escX (s'.extract (g' + j) s'.size) = escX (s.extract (g + j) s.size) := by
                  refine escX_pre (fun e => hn0 (by rw [e]; rfl)) ?_
                  rw [extract_rest, extract_rest, ← rest_drop, ← rest_drop]
                  exact (ha.drop j).mono (by omega)
                rw [hesc, dif_neg hn0, if_neg h255]
                have := ih (s.size - (g + (j + (escX (s.extract (g + j) s.size)).2.toNat))) (by omega) (j + (escX (s.extract (g + j) s.size)).2.toNat) _ t rfl (by rw [← Nat.add_assoc]; exact h) ha
                rw [← Nat.add_assoc] at this
                exact this
          · next h92 =>
            rw [if_neg h92]
            split at h
            · cases h
            · next h255 =>
              rw [if_neg h255]
              have := ih (s.size - (g + (j + 1))) (by omega) (j + 1) _ t rfl (by rw [← Nat.add_assoc]; exact h) ha
              rw [← Nat.add_assoc] at this
              exact this
    · cases h

/-- What the marks' table says of a byte alone, and of a byte and the one behind it. -/
def P1 (a : UInt8) : Option (Nat × Int × Int) :=
  if a == 60 then some (1, 11, 3)
  else if a == 62 then some (1, 11, 5)
  else if a == 61 then some (1, 11, 1)
  else if a == 40 then some (1, 5, 0)
  else if a == 41 then some (1, 6, 0)
  else if a == 44 then some (1, 7, 0)
  else if a == 46 then some (1, 8, 0)
  else none
def P2 (a : UInt8) (b : Option UInt8) : Option (Nat × Int × Int) :=
  if a == 58 && b == some 45 then some (2, 9, 0)
  else if a == 33 && b == some 61 then some (2, 11, 2)
  else if a == 60 && b == some 61 then some (2, 11, 4)
  else if a == 62 && b == some 61 then some (2, 11, 6)
  else P1 a

theorem beq_swap (x a : UInt8) : (x == a) = (a == x) := by
  rw [Bool.eq_iff_iff]; simp only [beq_iff_eq]; exact eq_comm
theorem nil_pre (r : List UInt8) : List.isPrefixOf [] r = true := by cases r <;> rfl
theorem pre_one (x a : UInt8) (r : List UInt8) : Lib.hasPrefix (a :: r) [x] = (a == x) := by
  show ((x == a) && List.isPrefixOf [] r) = (a == x)
  rw [nil_pre, Bool.and_true, beq_swap]
theorem pre_two (x y a : UInt8) (r : List UInt8) : Lib.hasPrefix (a :: r) [x, y] = (a == x && r[0]? == some y) := by
  cases r with
  | nil =>
    show ((x == a) && false) = ((a == x) && false)
    rw [Bool.and_false, Bool.and_false]
  | cons b r =>
    show ((x == a) && ((y == b) && List.isPrefixOf [] r)) = ((a == x) && (b == y))
    rw [nil_pre, Bool.and_true, beq_swap x a, beq_swap y b]
theorem punctL_one (x a : UInt8) (k op : Int) (ms : List (List UInt8 × Int × Int)) (r : List UInt8) : punctL (([x], k, op) :: ms) (a :: r) = if a == x then some (1, k, op) else punctL ms (a :: r) := by
  show (if Lib.hasPrefix (a :: r) [x] = true then some (1, k, op) else punctL ms (a :: r)) = _
  rw [pre_one]
theorem punctL_two (x y a : UInt8) (k op : Int) (ms : List (List UInt8 × Int × Int)) (r : List UInt8) : punctL (([x, y], k, op) :: ms) (a :: r) = if a == x && r[0]? == some y then some (2, k, op) else punctL ms (a :: r) := by
  show (if Lib.hasPrefix (a :: r) [x, y] = true then some (2, k, op) else punctL ms (a :: r)) = _
  rw [pre_two]

theorem punct_two (a : UInt8) (r : List UInt8) : punctL marksT (a :: r) = P2 a r[0]? := by
  unfold marksT P2 P1
  rw [punctL_two, punctL_two, punctL_two, punctL_two, punctL_one, punctL_one, punctL_one, punctL_one, punctL_one, punctL_one, punctL_one]
  rfl

theorem P1_one {a : UInt8} {n : Nat} {k op : Int} (h : P1 a = some (n, k, op)) : n = 1 ∧ a ∈ ([58, 33, 60, 62, 61, 40, 41, 44, 46] : List UInt8) := by
  unfold P1 at h
  repeat' split at h
  all_goals first | (cases h; done) | skip
  all_goals
    injection h with h
    injection h with h _
    refine ⟨h.symm, ?_⟩
    have e := eq_of_beq (by assumption)
    subst e
    decide

theorem P2_blank {a : UInt8} {b : Option UInt8} (h1 : (b == some 45) = false) (h2 : (b == some 61) = false) : P2 a b = P1 a := by
  unfold P2
  rw [h1, h2, Bool.and_false, Bool.and_false, Bool.and_false, Bool.and_false]
  rfl

theorem P2_cases {a : UInt8} {b : Option UInt8} {n : Nat} {k op : Int} (h : P2 a b = some (n, k, op)) : (n = 2 ∧ a ∈ ([58, 33, 60, 62, 61, 40, 41, 44, 46] : List UInt8)) ∨ (n = 1 ∧ P1 a = some (n, k, op)) := by
  unfold P2 at h
  split at h
  · next hh => injection h with h; injection h with h _; simp only [Bool.and_eq_true, beq_iff_eq] at hh; rw [hh.1]; exact .inl ⟨h.symm, by decide⟩
  · split at h
    · next hh => injection h with h; injection h with h _; simp only [Bool.and_eq_true, beq_iff_eq] at hh; rw [hh.1]; exact .inl ⟨h.symm, by decide⟩
    · split at h
      · next hh => injection h with h; injection h with h _; simp only [Bool.and_eq_true, beq_iff_eq] at hh; rw [hh.1]; exact .inl ⟨h.symm, by decide⟩
      · split at h
        · next hh => injection h with h; injection h with h _; simp only [Bool.and_eq_true, beq_iff_eq] at hh; rw [hh.1]; exact .inl ⟨h.symm, by decide⟩
        · exact .inr ⟨(P1_one h).1, h⟩

theorem P2_pre {a : UInt8} {b b' : Option UInt8} {n : Nat} {k op : Int} (h : P2 a b = some (n, k, op)) (h2 : n = 2 → b' = b) (h1 : n = 1 → b' = none ∨ b' = b ∨ b' = some 10 ∨ b' = some 32) : P2 a b' = some (n, k, op) := by
  rcases P2_cases h with ⟨hn, _⟩ | ⟨hn, hp⟩
  · rw [h2 hn]; exact h
  · rcases h1 hn with rfl | rfl | rfl | rfl
    · rw [P2_blank rfl rfl]; exact hp
    · exact h
    · rw [P2_blank (by decide) (by decide)]; exact hp
    · rw [P2_blank (by decide) (by decide)]; exact hp

theorem P2_first {a : UInt8} {b : Option UInt8} {x : Nat × Int × Int} (h : P2 a b = some x) : a ∈ ([58, 33, 60, 62, 61, 40, 41, 44, 46] : List UInt8) := by
  obtain ⟨n, k, op⟩ := x
  rcases P2_cases h with ⟨_, h⟩ | ⟨_, h⟩
  · exact h
  · exact (P1_one h).2

theorem punctX_pre {s s' : ByteArray} {g g' : Nat} {t : Tok} (hg : g < s.size) (hg' : g' < s'.size) (hb : s'[g'] = s[g]) (h : punctX s g = .tok t) (ha : Agree (rest s g) (rest s' g') (t.en - g)) (hs : Safe (rest s g) (rest s' g') (t.en - g)) :
    punctX s' g' = .tok ⟨t.k, t.t, t.n, t.op, g', g' + (t.en - g)⟩ ∧ s[g] ∈ ([58, 33, 60, 62, 61, 40, 41, 44, 46] : List UInt8) := by
  unfold punctX at h ⊢
  rw [rest_cons s g hg] at h
  rw [rest_cons s' g' hg', hb]
  rw [punct_two] at h ⊢
  cases hp : P2 s[g] (rest s (g + 1))[0]? with
  | none => rw [hp] at h; cases h
  | some x =>
    obtain ⟨n, k, op⟩ := x
    refine ⟨?_, P2_first hp⟩
    rw [hp] at h
    unfold punctOf at h
    injection h with h
    subst h
    have en : g + n - g = n := by omega
    simp only [en] at ha hs ⊢
    have d0 : (rest s (g + 1))[0]? = (rest s g)[1]? := by rw [← rest_drop, List.getElem?_drop]
    have d1 : (rest s' (g' + 1))[0]? = (rest s' g')[1]? := by rw [← rest_drop, List.getElem?_drop]
    rw [P2_pre hp (b' := (rest s' (g' + 1))[0]?)]
    · rfl
    · intro e
      rw [d0, d1]
      exact ha 1 (by omega)
    · intro e
      rw [d0, d1]
      subst e
      cases hh : (rest s' g')[1]? with
      | none => exact .inl rfl
      | some b =>
        rcases hs b hh with h | h | h
        · exact .inr (.inl h.symm)
        · subst h; exact .inr (.inr (.inl rfl))
        · subst h; exact .inr (.inr (.inr rfl))

/-- A byte at which no gap goes on. -/
def Start (a : UInt8) : Prop := blankN a.toNat = false ∧ a.toNat ≠ 37 ∧ a ≠ 47

theorem start_word : ∀ n : Fin 256, (bLow (n.val : Int) || (bUp (n.val : Int) || (n.val : Int) == 95)) = true → blankN (n.val : Int) = false ∧ n.val ≠ 37 ∧ n.val ≠ 47 := by decide +kernel
theorem start_beg : ∀ n : Fin 256, (bDig (n.val : Int) = true ∨ (n.val : Int) = 45 ∨ (n.val : Int) = 34) → blankN (n.val : Int) = false ∧ n.val ≠ 37 ∧ n.val ≠ 47 := by decide +kernel
theorem start_of {a : UInt8} (h : blankN (a.toNat : Int) = false ∧ a.toNat ≠ 37 ∧ a.toNat ≠ 47) : Start a := ⟨h.1, h.2.1, fun e => h.2.2 (by rw [e]; rfl)⟩

/-- A token hangs on its own bytes and on the one behind them; and no gap goes on where it begins. -/
theorem tokAt_pre {s s' : ByteArray} {g g' : Nat} {t : Tok} (hg : g ≤ s.size) (h : tokAt s g = .tok t) (hk : t.k ≠ 0) (ha : Agree (rest s g) (rest s' g') (t.en - g)) (hs : Safe (rest s g) (rest s' g') (t.en - g)) :
    tokAt s' g' = .tok ⟨t.k, t.t, t.n, t.op, g', g' + (t.en - g)⟩ ∧ ∃ hlt : g < s.size, Start s[g] := by
  obtain ⟨ho, hc⟩ := tokAt_en hg h
  obtain ⟨h1, h2, h3⟩ := hc.resolve_left (fun h => hk h.1)
  have hlt : g < s.size := by omega
  obtain ⟨hlt', hb⟩ := byte_pre ha (j := 0) (by omega) (by omega)
  simp only [Nat.add_zero] at hlt' hb
  have e0 : (rest s g)[0]? = some s[g] := first_byte s g hlt
  have e0' : (rest s' g')[0]? = some s[g] := by rw [first_byte s' g' hlt', hb]
  unfold tokAt at h ⊢
  rw [dif_pos hlt] at h
  rw [dif_pos hlt', hb]
  rw [beg_rest] at h ⊢
  have hn256 := s[g].toNat_lt
  split at h
  · next hw =>
    rw [if_pos hw]
    exact ⟨wordX_pre h ha hs, hlt, start_of (start_word ⟨_, hn256⟩ hw)⟩
  · next hw =>
    rw [if_neg hw]
    split at h
    · next hbeg =>
      have hbeg' : begL (rest s' g') = true := by
        unfold begL at hbeg ⊢
        rw [e0] at hbeg
        rw [e0']
        simp only [Option.getD_some] at hbeg ⊢
        cases hd : bDig (s[g].toNat : Int) with
        | true => rfl
        | false =>
          rw [hd] at hbeg
          simp only [Bool.false_or, Bool.and_eq_true, decide_eq_true_eq] at hbeg ⊢
          obtain ⟨q1, q2, q3⟩ := hbeg
          have hl1 : (rest s (g + 1))[0]? = (rest s g)[1]? := by rw [← rest_drop, List.getElem?_drop]
          have hrun : 1 ≤ runC (rest s (g + 1)) := by
            rw [rest_len] at q2
            rw [rest_cons s (g + 1) (by omega)] at hl1 ⊢
            rw [← hl1] at q3
            unfold runC
            have q3' : bDig (s[g + 1].toNat : Int) = true := q3
            rw [if_pos (by unfold bWord; rw [q3']; simp)]
            omega
          have hlen := intX_len h
          have ea := ha 1 (by omega)
          have := ha.len (n := t.en - g) (by rw [rest_len]; omega)
          exact ⟨q1, by omega, by rw [ea]; exact q3⟩
      rw [if_pos hbeg']
      refine ⟨intX_pre h ha hs, hlt, start_of (start_beg ⟨_, hn256⟩ ?_)⟩
      unfold begL at hbeg
      rw [e0] at hbeg
      simp only [Option.getD_some] at hbeg
      cases hd : bDig (s[g].toNat : Int) with
      | true => exact .inl rfl
      | false =>
        rw [hd] at hbeg
        simp only [Bool.false_or, Bool.and_eq_true, beq_iff_eq] at hbeg
        exact .inr (.inl hbeg.1)
    · next hbeg =>
      have hnd : bDig (s[g].toNat : Int) = false := by
        cases hd : bDig (s[g].toNat : Int) with
        | false => rfl
        | true =>
          unfold begL at hbeg
          rw [e0] at hbeg
          simp only [Option.getD_some, hd, Bool.true_or, not_true_eq_false] at hbeg
      have hnb : (s[g].toNat : Int) ≠ 45 → begL (rest s' g') = false := fun h45 => by
        unfold begL
        rw [e0']
        simp only [Option.getD_some, hnd, Bool.false_or]
        rw [show ((s[g].toNat : Int) == 45) = false by simpa using h45]
        rfl
      split at h
      · next h34 =>
        rw [if_neg (by rw [hnb (by omega)]; simp), if_pos h34]
        exact ⟨textF_pre _ 1 [] t rfl h ha, hlt, start_of (start_beg ⟨_, hn256⟩ (.inr (.inr h34)))⟩
      · next h34 =>
        obtain ⟨hp, hm⟩ := punctX_pre hlt hlt' hb h ha hs
        have hm' : (s[g].toNat : Int) ≠ 45 ∧ blankN (s[g].toNat : Int) = false ∧ s[g].toNat ≠ 37 ∧ s[g].toNat ≠ 47 := by
          generalize s[g] = a at hm
          simp only [List.mem_cons, List.not_mem_nil, or_false] at hm
          rcases hm with rfl | rfl | rfl | rfl | rfl | rfl | rfl | rfl | rfl <;> decide
        rw [if_neg (by rw [hnb hm'.1]; simp), if_neg h34]
        exact ⟨hp, hlt, start_of hm'.2⟩

end Go.Proofs.YtplldgkdjainlaaDoor
