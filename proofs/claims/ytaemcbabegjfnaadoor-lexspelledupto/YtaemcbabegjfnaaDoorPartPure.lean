/- LexSpelled's parts as plain data: how each is spelled, what token it is, what stands between; and that lex makes of the text just these tokens. -/
import Derived.Test.YtaemcbabegjfnaaDoorDecPure
namespace Go.Proofs.YtaemcbabegjfnaaDoor
set_option linter.unusedSimpArgs false
set_option linter.unusedVariables false
open Go.RowKit
open Go.Lib (decDigits itoa)

structure Prt where
  k : Int
  w : ByteArray
  n : Int
  op : Int
  g : Int
  st : Int
/-- A word that begins as wanted. -/
def wordB (w : List UInt8) (name : Bool) : Bool :=
  match w with
  | [] => false
  | b :: r => decide ((b :: r).length ≤ 64) && (decide (b :: r ≠ [110, 111, 116]) && ((if name then bLow (b.toNat : Int) else (bUp (b.toNat : Int) || (b.toNat : Int) == 95)) && (b :: r).all fun c => bWord (c.toNat : Int)))
def zerosN (z : Int) : Nat := min z.toNat 20
def intZ (v z : Int) : List UInt8 := if v < 0 then 45 :: (zeros (zerosN z) ++ decDigits v.natAbs) else zeros (zerosN z) ++ decDigits v.toNat
def letterOf (c : UInt8) : UInt8 := if c = 34 then 34 else if c = 92 then 92 else if c = 10 then 110 else if c = 9 then 116 else if c = 13 then 114 else 0
def hexL (n : Nat) : UInt8 := if n < 10 then UInt8.ofNat (48 + n) else UInt8.ofNat (87 + n)
def chunkL (st : Int) (c : UInt8) : List UInt8 :=
  if letterOf c ≠ 0 ∧ st ≠ 2 then [92, letterOf c] else if c.toNat < 32 ∨ st = 2 ∨ letterOf c ≠ 0 then [92, 120, hexL (c.toNat / 16), hexL (c.toNat % 16)] else [c]
def writL (v : List UInt8) (st : Int) : List UInt8 := 34 :: (v.flatMap (chunkL st) ++ [34])
def opS (n : Int) : List UInt8 := if n = 1 then [61] else if n = 2 then [33, 61] else if n = 3 then [60] else if n = 4 then [60, 61] else if n = 5 then [62] else [62, 61]
def spellP (p : Prt) : Option (List UInt8 × Tok) :=
  if p.k = 1 then (if wordB p.w.data.toList true then some (p.w.data.toList, ⟨1, p.w, 0, 0, 0, 0⟩) else none)
  else if p.k = 2 then (if wordB p.w.data.toList false then some (p.w.data.toList, ⟨2, p.w, 0, 0, 0, 0⟩) else none)
  else if p.k = 3 then some (intZ p.n p.st, ⟨3, ⟨#[]⟩, p.n, 0, 0, 0⟩)
  else if p.k = 4 then (if p.w.size ≤ 255 then some (writL p.w.data.toList p.st, ⟨4, p.w, 0, 0, 0, 0⟩) else none)
  else if p.k = 5 then some ([40], ⟨5, ⟨#[]⟩, 0, 0, 0, 0⟩)
  else if p.k = 6 then some ([41], ⟨6, ⟨#[]⟩, 0, 0, 0, 0⟩)
  else if p.k = 7 then some ([44], ⟨7, ⟨#[]⟩, 0, 0, 0, 0⟩)
  else if p.k = 8 then some ([46], ⟨8, ⟨#[]⟩, 0, 0, 0, 0⟩)
  else if p.k = 9 then some ([58, 45], ⟨9, ⟨#[]⟩, 0, 0, 0, 0⟩)
  else if p.k = 10 then some ([110, 111, 116], ⟨10, ⟨#[]⟩, 0, 0, 0, 0⟩)
  else if p.k = 11 then (if 1 ≤ p.op ∧ p.op ≤ 6 then some (opS p.op, ⟨11, ⟨#[]⟩, 0, p.op, 0, 0⟩) else none)
  else none
def gap2 : List UInt8 := [37, 32, 34, 32, 47, 42, 32, 110, 111, 116, 13, 10]
def gap3 : List UInt8 := [47, 42, 32, 37, 32, 47, 42, 32, 41, 32, 42, 47, 32, 34, 32, 42, 47]
def betwL (c b : UInt8) (g : Int) : List UInt8 :=
  if g = 1 then [32] else if g = 2 then gap2 else if g = 3 then gap3 else if g = 4 then [10]
  else if bWord (c.toNat : Int) && bWord (b.toNat : Int) then [32] else if (c == 60 || c == 62) && b == 61 then [9] else []
structure Sp where
  t : List UInt8
  w : List Tok
def spOne (q : Sp) (s : List UInt8) (x : Tok) (g : List UInt8) : Sp :=
  if 65536 < q.t.length + g.length + s.length then q else ⟨q.t ++ g ++ s, q.w ++ [⟨x.k, x.t, x.n, x.op, q.t.length + g.length, q.t.length + g.length + s.length⟩]⟩
def spStep (q : Sp) (p : Prt) : Sp :=
  match spellP p with
  | none => q
  | some (s, x) => spOne q s x (betwL (q.t.getLastD 0) (s.headD 0) p.g)
def spRun (ps : List Prt) : Sp := ps.foldl spStep ⟨[97], [⟨1, ⟨#[97]⟩, 0, 0, 0, 1⟩]⟩

theorem wordB_name {w : List UInt8} (h : wordB w true = true) : Tkn w ⟨1, ⟨w.toArray⟩, 0, 0, 0, 0⟩ okWord ∧ (∀ c ∈ w, bWord (c.toNat : Int) = true) := by
  cases w with
  | nil => cases h
  | cons b r =>
    unfold wordB at h
    simp only [Bool.and_eq_true, decide_eq_true_eq, if_true, List.all_eq_true] at h
    obtain ⟨h1, h2, h3, h4⟩ := h
    have := word_tkn h4 (by rw [h3]; rfl) h1
    unfold wordTok at this
    rw [if_neg h2, show ((b :: r).headD 0) = b from rfl, if_pos h3] at this
    exact ⟨this, h4⟩
theorem up_low : ∀ n : Fin 256, (bUp (n.val : Int) || (n.val : Int) == 95) = true → bLow (n.val : Int) = false := by decide +kernel
theorem wordB_var {w : List UInt8} (h : wordB w false = true) : Tkn w ⟨2, ⟨w.toArray⟩, 0, 0, 0, 0⟩ okWord ∧ (∀ c ∈ w, bWord (c.toNat : Int) = true) := by
  cases w with
  | nil => cases h
  | cons b r =>
    unfold wordB at h
    simp only [Bool.and_eq_true, decide_eq_true_eq, Bool.false_eq_true, if_false, List.all_eq_true] at h
    obtain ⟨h1, h2, h3, h4⟩ := h
    have := word_tkn h4 (by rw [h3]; simp) h1
    unfold wordTok at this
    have hl := up_low ⟨b.toNat, b.toNat_lt⟩ h3
    rw [if_neg h2, show ((b :: r).headD 0) = b from rfl, if_neg (by rw [hl]; decide)] at this
    exact ⟨this, h4⟩
theorem intZ_tkn (v z : Int) (h : I64 v) : Tkn (intZ v z) ⟨3, ⟨#[]⟩, v, 0, 0, 0⟩ okWord := by
  unfold I64 at h
  unfold intZ
  split
  · have := neg_tkn (zerosN z) v.natAbs (by omega)
    rw [show (-(v.natAbs : Int)) = v by omega] at this
    exact this
  · have := pos_tkn (zerosN z) v.toNat (by omega)
    rw [show ((v.toNat : Nat) : Int) = v by omega] at this
    exact this
theorem dec_last (u : Nat) : ∃ c, (decDigits u).getLast? = some c ∧ 48 ≤ c.toNat ∧ c.toNat ≤ 57 := by
  cases h : (decDigits u).getLast? with
  | none => exact absurd (List.getLast?_eq_none_iff.1 h) (dec_ne u)
  | some c => exact ⟨c, rfl, dec_digs u c (List.mem_of_getLast? h)⟩
theorem intZ_last (v z : Int) : ∃ c, (intZ v z).getLast? = some c ∧ bWord (c.toNat : Int) = true := by
  unfold intZ
  split
  · obtain ⟨c, h1, h2⟩ := dec_last v.natAbs
    refine ⟨c, ?_, (dig_b h2).2⟩
    rw [← List.cons_append, List.getLast?_append, h1]; rfl
  · obtain ⟨c, h1, h2⟩ := dec_last v.toNat
    exact ⟨c, by rw [List.getLast?_append, h1]; rfl, (dig_b h2).2⟩
theorem esc_is (l : UInt8) (R : List UInt8) (r : ByteArray) (hr : r.data.toList = 92 :: l :: R) : escX r = escOf r (l.toNat : Int) := by
  obtain ⟨⟨d⟩⟩ := r
  simp only at hr
  subst hr
  unfold escX
  rw [dif_pos (by show 1 < (92 :: l :: R).length; simp)]
  rfl
theorem hex_all : ∀ n : Fin 256, hexU 0 [hexL (n.val / 16), hexL (n.val % 16)] = some n.val := by decide +kernel
theorem hex_is (c : UInt8) (R : List UInt8) (r : ByteArray) (hr : r.data.toList = 92 :: 120 :: hexL (c.toNat / 16) :: hexL (c.toNat % 16) :: R) : escX r = ((c.toNat : Int), 4) := by
  rw [esc_is 120 _ r hr]
  have hs : ¬ r.size < 4 := by
    have h1 : r.data.toList.length = r.size := rfl
    rw [hr] at h1
    simp at h1
    omega
  have he : (r.extract 2 4).data.toList = [hexL (c.toNat / 16), hexL (c.toNat % 16)] := by
    have := extract_list r 2 2
    rw [this]
    unfold rest
    rw [hr]
    rfl
  show escOf r 120 = _
  unfold escOf hexX
  rw [if_neg (by decide), if_neg (by decide), if_neg (by decide), if_neg (by decide), if_neg (by decide), if_pos rfl, if_neg hs, he, hex_all ⟨c.toNat, c.toNat_lt⟩]
theorem ext_rest (T : ByteArray) (i : Nat) (hi : i ≤ T.size) : (T.extract i T.size).data.toList = rest T i := by
  have := extract_list T i (T.size - i)
  rw [show i + (T.size - i) = T.size by omega] at this
  rw [this, List.take_of_length_le (Nat.le_of_eq (rest_len T i))]
theorem letter_all : ∀ n : Fin 256, letterOf (UInt8.ofNat n.val) ≠ 0 → ∃ l : UInt8, letterOf (UInt8.ofNat n.val) = l ∧ ∀ r : ByteArray, escOf r (l.toNat : Int) = ((n.val : Int), 2) := by
  intro n h
  refine ⟨_, rfl, fun r => ?_⟩
  have key : ∀ n : Fin 256, letterOf (UInt8.ofNat n.val) ≠ 0 → n.val = 34 ∨ n.val = 92 ∨ n.val = 10 ∨ n.val = 9 ∨ n.val = 13 := by decide +kernel
  obtain ⟨n, hn⟩ := n
  rcases key ⟨n, hn⟩ h with e | e | e | e | e <;> (simp only at e; subst e; rfl)
theorem textF_piece (T : ByteArray) (o i : Nat) (vs : List Int) (st : Int) (c : UInt8) (R : List UInt8) (hr : rest T i = chunkL st c ++ R) (hv : vs.length < 255) : textF T o i vs = textF T o (i + (chunkL st c).length) (vs ++ [(c.toNat : Int)]) := by
  unfold chunkL at hr ⊢
  by_cases h1 : letterOf c ≠ 0 ∧ st ≠ 2
  · rw [if_pos h1] at hr ⊢
    obtain ⟨ho, hb⟩ := here_lt hr
    have hex : escX (T.extract i T.size) = ((c.toNat : Int), 2) := by
      rw [esc_is (letterOf c) R _ (by rw [ext_rest T i (by omega)]; exact hr)]
      obtain ⟨l, e1, e2⟩ := letter_all ⟨c.toNat, c.toNat_lt⟩ (by simpa using h1.1)
      simp only [UInt8.ofNat_toNat] at e1
      rw [e1]
      exact e2 _
    rw [textF, dif_pos ho, hb, if_neg (by decide), if_neg (by decide), if_pos (by decide), hex, dif_neg (by simp), if_neg (by omega)]
    rfl
  · rw [if_neg h1] at hr ⊢
    by_cases h2 : c.toNat < 32 ∨ st = 2 ∨ letterOf c ≠ 0
    · rw [if_pos h2] at hr ⊢
      obtain ⟨ho, hb⟩ := here_lt hr
      have hex : escX (T.extract i T.size) = ((c.toNat : Int), 4) := hex_is c R _ (by rw [ext_rest T i (by omega)]; exact hr)
      rw [textF, dif_pos ho, hb, if_neg (by decide), if_neg (by decide), if_pos (by decide), hex, dif_neg (by simp), if_neg (by omega)]
      rfl
    · rw [if_neg h2] at hr ⊢
      obtain ⟨ho, hb⟩ := here_lt hr
      have hl : letterOf c = 0 := Classical.byContradiction fun h => h2 (.inr (.inr h))
      have hne : c.toNat ≠ 34 ∧ c.toNat ≠ 92 := by
        constructor
        · intro e
          have : c = 34 := UInt8.toNat_inj.1 (by rw [e]; rfl)
          subst this
          exact absurd hl (by decide)
        · intro e
          have : c = 92 := UInt8.toNat_inj.1 (by rw [e]; rfl)
          subst this
          exact absurd hl (by decide)
      rw [textF, dif_pos ho, hb, if_neg (by omega), if_neg (by omega), if_neg (by omega), if_neg (by omega)]
      rfl
theorem textF_writ (T : ByteArray) (o : Nat) (st : Int) : ∀ (v R : List UInt8) (i : Nat) (vs : List Int), rest T i = v.flatMap (chunkL st) ++ 34 :: R → vs.length + v.length ≤ 255 → textF T o i vs = .tok ⟨4, strOf (vs ++ v.map fun b => (b.toNat : Int)), 0, 0, o, i + (v.flatMap (chunkL st)).length + 1⟩
  | [], R, i, vs, hr, _ => by
    obtain ⟨ho, hb⟩ := here_lt hr
    rw [textF, dif_pos ho, hb, if_neg (by decide), if_pos (by decide)]
    simp
  | c :: v, R, i, vs, hr, hl => by
    rw [List.flatMap_cons, List.append_assoc] at hr
    simp only [List.length_cons] at hl
    rw [textF_piece T o i vs st c _ hr (by omega), textF_writ T o st v R _ _ (rest_at hr) (by simp; omega)]
    simp only [List.map_cons, List.append_assoc, List.singleton_append, List.flatMap_cons, List.length_append]
    congr 2
    omega
theorem strOf_bytesP (l : List UInt8) : strOf (l.map fun b => (b.toNat : Int)) = ⟨l.toArray⟩ := by
  have h : ∀ (l : List UInt8) (r : ByteArray), ((l.map fun b => (b.toNat : Int)).foldl (fun r n => r.push (UInt8.ofNat n.toNat)) r).data.toList = r.data.toList ++ l := by
    intro l
    induction l with
    | nil => intro r; simp
    | cons n t ih => intro r; rw [List.map_cons, List.foldl_cons, ih]; simp [ByteArray.push]
  have e2 := congrArg List.toArray (h l ByteArray.empty)
  simp only [Array.toArray_toList] at e2
  exact congrArg ByteArray.mk (e2.trans (by rfl))
theorem writ_tkn (v : List UInt8) (st : Int) (hl : v.length ≤ 255) : Tkn (writL v st) ⟨4, ⟨v.toArray⟩, 0, 0, 0, 0⟩ okAny := by
  unfold writL
  have h : textX ⟨(34 :: (v.flatMap (chunkL st) ++ [34])).toArray⟩ 0 = .tok ⟨4, ⟨v.toArray⟩, 0, 0, 0, (v.flatMap (chunkL st) ++ [34]).length + 1⟩ := by
    unfold textX
    rw [textF_writ ⟨(34 :: (v.flatMap (chunkL st) ++ [34])).toArray⟩ 0 st v [] 1 [] rfl (by simpa using hl), List.nil_append, strOf_bytesP]
    simp
    omega
  have := text_tkn h rfl ⟨rfl, rfl, rfl⟩
  exact ⟨this.kind, this.head, this.at_⟩
end Go.Proofs.YtaemcbabegjfnaaDoor
