/- The spellings of a text's tokens with one blank between each two: no program in sight. -/
import Derived.Test.YtgbnoggapejinaaDoorLexSame
namespace Go.Proofs.YtgbnoggapejinaaDoor
set_option linter.unusedSimpArgs false
set_option linter.unusedVariables false
open Go.RowKit

def spell (T : ByteArray) (t : Tok) : List UInt8 := (rest T t.off).take (t.en - t.off)
def tailB (T : ByteArray) (r : List Tok) : List UInt8 := r.flatMap fun t => 32 :: spell T t
def allB (T : ByteArray) : List Tok → List UInt8
  | [] => []
  | t :: r => spell T t ++ tailB T r

/-- A token of the text T that is not its end. -/
def IsTok (T : ByteArray) (t : Tok) : Prop := ∃ o, o ≤ T.size ∧ nextX T o = .tok t ∧ t.k ≠ 0

theorem IsTok.bounds {T : ByteArray} {t : Tok} (h : IsTok T t) : t.off < t.en ∧ t.en ≤ T.size := by
  obtain ⟨o, ho, hn, hk⟩ := h
  obtain ⟨_, _, _, h4⟩ := next_tok ho hn
  obtain ⟨_, h5, h6⟩ := h4.resolve_left (fun h => hk h.1)
  exact ⟨h5, h6⟩
theorem IsTok.at {T : ByteArray} {t : Tok} (h : IsTok T t) : tokAt T t.off = .tok t ∧ t.k ≠ 0 := by
  obtain ⟨o, ho, hn, hk⟩ := h
  obtain ⟨h1, h2, _, _⟩ := next_tok ho hn
  unfold nextX at hn
  rw [h1, ← h2] at hn
  exact ⟨hn, hk⟩
theorem spell_len {T : ByteArray} {t : Tok} (h : IsTok T t) : (spell T t).length = t.en - t.off := by
  have := h.bounds
  unfold spell
  rw [List.length_take, rest_len]
  omega

def mv (t : Tok) (p : Nat) : Tok := ⟨t.k, t.t, t.n, t.op, p, p + (t.en - t.off)⟩

theorem tok_there {T S : ByteArray} {t : Tok} {p : Nat} {x : List UInt8} (h : IsTok T t) (hr : rest S p = spell T t ++ x) (hx : x = [] ∨ ∃ y, x = 32 :: y) : tokAt S p = .tok (mv t p) ∧ gapW S p = (p, true) := by
  have hb := h.bounds
  have hl := spell_len h
  have ha : Agree (rest T t.off) (rest S p) (t.en - t.off) := fun i hi => by
    rw [hr, List.getElem?_append_left (by omega)]
    unfold spell
    rw [List.getElem?_take_of_lt hi]
  have hs : Safe (rest T t.off) (rest S p) (t.en - t.off) := fun b hb => by
    rw [hr, List.getElem?_append_right (by omega), hl, Nat.sub_self] at hb
    rcases hx with rfl | ⟨y, rfl⟩
    · simp at hb
    · exact .inr (.inr (by simpa using hb.symm))
  obtain ⟨h1, hlt, hst⟩ := tokAt_pre (by omega) h.at.1 h.at.2 ha hs
  refine ⟨h1, ?_⟩
  obtain ⟨hlt', hbb⟩ := byte_pre ha (j := 0) (by omega) hlt
  simp only [Nat.add_zero] at hlt' hbb
  unfold gapW
  rw [rest_cons S p hlt', hbb, gapN_stop (item_start hst _)]
  rfl

def shiftsFrom (p : Nat) : List Tok → List Tok
  | [] => []
  | t :: r => mv t (p + 1) :: shiftsFrom (p + 1 + (t.en - t.off)) r

theorem tailB_head (T : ByteArray) (r : List Tok) : tailB T r = [] ∨ ∃ y, tailB T r = 32 :: y := by
  cases r with
  | nil => exact .inl rfl
  | cons t r => exact .inr ⟨_, rfl⟩

theorem toks_tail {T S : ByteArray} : ∀ (r : List Tok) (p : Nat), (∀ t ∈ r, IsTok T t) → p ≤ S.size → rest S p = tailB T r → Toks S p (shiftsFrom p r ++ [endTok S.size]) 0 0
  | [], p, _, hp, hr => by
    have : p = S.size := by
      have := congrArg List.length hr
      rw [rest_len] at this
      simp [tailB] at this
      omega
    subst this
    exact .last (Nat.le_refl _) (next_last S S.size (Nat.le_refl _) (gapW_end S _ (Nat.le_refl _))) rfl
  | t :: r, p, ht, hp, hr => by
    have h := ht t (List.mem_cons_self ..)
    have hb := h.bounds
    have hl := spell_len h
    have hr' : rest S p = 32 :: (spell T t ++ tailB T r) := hr
    have hlt : p < S.size := by
      have := congrArg List.length hr'
      rw [rest_len] at this
      simp at this
      omega
    have h1 : rest S (p + 1) = spell T t ++ tailB T r := by rw [← rest_drop, hr']; rfl
    have hb32 : S[p] = 32 := by
      have := rest_cons S p hlt
      rw [hr'] at this
      injection this with this
      exact this.symm
    obtain ⟨k1, k2⟩ := tok_there h h1 (tailB_head T r)
    have hg : gapW S p = (p + 1, true) := by rw [gapW_blank S p hlt (by rw [hb32]; rfl), k2]
    have hn : nextX S p = .tok (mv t (p + 1)) := by
      unfold nextX
      rw [hg]
      simp only [if_true]
      exact k1
    have h2 : rest S (p + 1 + (t.en - t.off)) = tailB T r := by rw [← rest_drop, h1, ← hl, List.drop_left]
    have hp2 : p + 1 + (t.en - t.off) ≤ S.size := by
      have := congrArg List.length h1
      rw [rest_len, List.length_append, hl] at this
      omega
    exact .more hp hn h.at.2 (toks_tail r (p + 1 + (t.en - t.off)) (fun x hx => ht x (List.mem_cons_of_mem _ hx)) hp2 h2)

/-- Where token number i begins in the spaced text of the tokens K. -/
def posOf (T : ByteArray) (K : List Tok) (i : Nat) : Nat := if i = 0 then 0 else (allB T (K.take i)).length + 1

theorem shifts_at {T : ByteArray} : ∀ (r : List Tok) (p i : Nat) (t : Tok), (∀ t ∈ r, IsTok T t) → r[i]? = some t → (shiftsFrom p r)[i]? = some (mv t (p + (tailB T (r.take i)).length + 1))
  | x :: r, p, 0, t, _, h => by
    obtain rfl : x = t := by simpa using h
    simp [shiftsFrom, tailB]
  | x :: r, p, i + 1, t, ht, h => by
    have hl := spell_len (ht x (List.mem_cons_self ..))
    have := shifts_at r (p + 1 + (x.en - x.off)) i t (fun y hy => ht y (List.mem_cons_of_mem _ hy)) (by simpa using h)
    show (shiftsFrom (p + 1 + (x.en - x.off)) r)[i]? = _
    rw [this, List.take_succ_cons]
    have e : (tailB T (x :: r.take i)).length = (x.en - x.off) + 1 + (tailB T (r.take i)).length := by
      unfold tailB
      rw [List.flatMap_cons, List.length_append, List.length_cons, hl]
    rw [e]
    congr 2
    omega

theorem shifts_len (r : List Tok) : ∀ p, (shiftsFrom p r).length = r.length := by
  induction r with
  | nil => intro p; rfl
  | cons t r ih => intro p; show _ + 1 = _ + 1; rw [ih]

/-- The spaced text has just these tokens. -/
theorem spaced_scan {T S : ByteArray} {K : List Tok} (hK : ∀ t ∈ K, IsTok T t) (h0 : 0 < K.length) (hS : S.data.toList = allB T K) (hz : S.size ≤ 65536) :
    ∃ A, scanX S = (A ++ [endTok S.size], 0, 0) ∧ A.length = K.length ∧ ∀ i t, K[i]? = some t → A[i]? = some (mv t (posOf T K i)) := by
  match K, h0 with
  | t0 :: r, _ =>
    have h := hK t0 (List.mem_cons_self ..)
    have hb := h.bounds
    have hl := spell_len h
    have hr : rest S 0 = spell T t0 ++ tailB T r := by unfold rest; rw [List.drop_zero, hS]; rfl
    obtain ⟨k1, k2⟩ := tok_there h hr (tailB_head T r)
    have hn : nextX S 0 = .tok (mv t0 0) := by
      unfold nextX
      rw [k2]
      simp only [if_true]
      exact k1
    have h2 : rest S (0 + (t0.en - t0.off)) = tailB T r := by rw [← rest_drop, hr, ← hl, List.drop_left]
    have hp2 : 0 + (t0.en - t0.off) ≤ S.size := by
      have := congrArg List.length hr
      rw [rest_len, List.length_append, hl] at this
      omega
    have hr2 : ∀ t ∈ r, IsTok T t := fun x hx => hK x (List.mem_cons_of_mem _ hx)
    refine ⟨mv t0 0 :: shiftsFrom (0 + (t0.en - t0.off)) r, scan_eq hz (.more (Nat.zero_le _) hn h.at.2 (toks_tail r _ hr2 hp2 h2)), by rw [List.length_cons, shifts_len, List.length_cons], ?_⟩
    intro i t hi
    rcases i with _ | i
    · obtain rfl : t0 = t := by simpa using hi
      rfl
    · have := shifts_at r (0 + (t0.en - t0.off)) i t hr2 (by simpa using hi)
      show (shiftsFrom (0 + (t0.en - t0.off)) r)[i]? = _
      rw [this]
      unfold posOf
      rw [if_neg (by omega), List.take_succ_cons]
      show some (mv t (0 + (t0.en - t0.off) + (tailB T (r.take i)).length + 1)) = some (mv t ((spell T t0 ++ tailB T (r.take i)).length + 1))
      rw [List.length_append, hl]
      congr 2
      omega

/-- One token more. -/
theorem allB_snoc (T : ByteArray) (K : List Tok) (k : Nat) (t : Tok) (ht : K[k]? = some t) : allB T (K.take (k + 1)) = allB T (K.take k) ++ (if k = 0 then [] else [32]) ++ spell T t := by
  rw [List.take_add_one, ht]
  match K, k, ht with
  | t0 :: r, 0, ht => 
    obtain rfl : t0 = t := by simpa using ht
    simp [allB, tailB]
  | t0 :: r, k + 1, ht =>
    rw [List.take_succ_cons, if_neg (by omega)]
    show spell T t0 ++ tailB T (r.take k ++ [t]) = spell T t0 ++ tailB T (r.take k) ++ [32] ++ spell T t
    unfold tailB
    rw [List.flatMap_append]
    simp
theorem pos_eq (T : ByteArray) (K : List Tok) (k : Nat) : posOf T K k = (allB T (K.take k) ++ (if k = 0 then [] else [32])).length := by
  unfold posOf
  split
  · next h => subst h; simp [allB]
  · next h => simp

/-- The tokens of a chain without its end. -/
theorem chain_toks {s : ByteArray} {o : Nat} {L : List Tok} {c : Int} {f : Nat} (h : Toks s o L c f) : ∃ K, (∀ t ∈ K, IsTok s t) ∧ ((c = 0 ∧ L = K ++ [endTok s.size]) ∨ (c ≠ 0 ∧ L = K)) := by
  induction h with
  | bad h1 h2 => exact ⟨[], by simp, .inr ⟨by have := next_bad h2; omega, rfl⟩⟩
  | last h1 h2 h3 => exact ⟨[], by simp, .inl ⟨rfl, by rw [next_end h1 h2 h3]; rfl⟩⟩
  | more h1 h2 h3 h4 ih =>
    rename_i o t r c f
    obtain ⟨K, hK, hc⟩ := ih
    refine ⟨t :: K, ?_, ?_⟩
    · intro x hx
      rcases List.mem_cons.1 hx with rfl | hx
      · exact ⟨o, h1, h2, h3⟩
      · exact hK x hx
    · rcases hc with ⟨a, b⟩ | ⟨a, b⟩
      · exact .inl ⟨a, by rw [b]; rfl⟩
      · exact .inr ⟨a, by rw [b]⟩

/-- All spellings together are no longer than twice the text. -/
theorem allB_len (T : ByteArray) (K : List Tok) : (allB T K).length ≤ K.length * 65537 + K.length * T.size := by
  have hsp : ∀ t, (spell T t).length ≤ T.size := fun t => by unfold spell; rw [List.length_take, rest_len]; omega
  have htl : ∀ r : List Tok, (tailB T r).length ≤ r.length * (T.size + 1) := by
    intro r
    induction r with
    | nil => simp [tailB]
    | cons t r ih =>
      have h1 := hsp t
      unfold tailB at ih ⊢
      rw [List.flatMap_cons, List.length_append, List.length_cons, List.length_cons, Nat.succ_mul]
      omega
  cases K with
  | nil => simp [allB]
  | cons t r =>
    have h1 := hsp t
    have h2 := htl r
    show (spell T t ++ tailB T r).length ≤ _
    rw [List.length_append, List.length_cons]
    rw [Nat.mul_add, Nat.mul_one] at h2
    rw [Nat.succ_mul, Nat.succ_mul]
    have : r.length ≤ r.length * 65537 := Nat.le_mul_of_pos_right _ (by decide)
    omega

end Go.Proofs.YtgbnoggapejinaaDoor
