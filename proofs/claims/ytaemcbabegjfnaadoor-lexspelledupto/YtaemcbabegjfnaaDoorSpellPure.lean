/- Tokens that are spelled, gaps between them: what lex makes of a text that is put together of them. -/
import Derived.Test.YtaemcbabegjfnaaDoorLexLocal2
import Derived.Test.YtaemcbabegjfnaaDoorLexToks
namespace Go.Proofs.YtaemcbabegjfnaaDoor
set_option linter.unusedSimpArgs false
set_option linter.unusedVariables false
open Go.RowKit

/-- The bytes s, with a byte behind them that ok lets stand (or none), are the token x, wherever they stand. -/
structure Tkn (s : List UInt8) (x : Tok) (ok : UInt8 → Bool) : Prop where
  kind : x.k ≠ 0
  head : ∃ b r, s = b :: r ∧ Start b
  at_ : ∀ (T : ByteArray) (o : Nat) (R : List UInt8), rest T o = s ++ R → (∀ b, R.head? = some b → ok b = true) → nextX T o = .tok ⟨x.k, x.t, x.n, x.op, o, o + s.length⟩
def okAny (_ : UInt8) : Bool := true
def okWord (b : UInt8) : Bool := !bWord (b.toNat : Int)
def okEq (b : UInt8) : Bool := b != 61
theorem here_lt {T : ByteArray} {o : Nat} {b : UInt8} {r : List UInt8} (h : rest T o = b :: r) : ∃ ho : o < T.size, T[o] = b := by
  have ho : o < T.size := by
    have := rest_len T o
    rw [h] at this
    simp at this
    omega
  have := first_byte T o ho
  rw [h] at this
  exact ⟨ho, (Option.some.inj this).symm⟩
theorem next_here {T : ByteArray} {o : Nat} {b : UInt8} {r : List UInt8} (h : rest T o = b :: r) (hs : Start b) : nextX T o = tokAt T o := by
  have hg : gapW T o = (o, true) := by
    unfold gapW
    rw [h, gapN_stop (item_start hs r)]
    rfl
  unfold nextX
  rw [hg]
  rfl
theorem run_all : ∀ (s R : List UInt8), (∀ b ∈ s, bWord (b.toNat : Int) = true) → (∀ b, R.head? = some b → okWord b = true) → runC (s ++ R) = s.length
  | [], R, _, hR => by
    cases R with
    | nil => rfl
    | cons b r =>
      have := hR b rfl
      unfold okWord at this
      show (if bWord (b.toNat : Int) then _ else 0) = 0
      rw [if_neg (by simpa using this)]
  | a :: s, R, hs, hR => by
    show (if bWord (a.toNat : Int) then runC (s ++ R) + 1 else 0) = _
    rw [if_pos (hs a (by simp)), run_all s R (fun b hb => hs b (by simp [hb])) hR]
    rfl
theorem extract_is {T : ByteArray} {o : Nat} {s R : List UInt8} (h : rest T o = s ++ R) : T.extract o (o + s.length) = ⟨s.toArray⟩ := by
  have e : (T.extract o (o + s.length)).data.toList = s := by rw [extract_list, h, List.take_left]
  have e2 := congrArg List.toArray e
  simp only [Array.toArray_toList] at e2
  exact congrArg ByteArray.mk e2
/-- A word: what kind it is. -/
def wordTok (s : List UInt8) : Tok := if s = [110, 111, 116] then ⟨10, ⟨#[]⟩, 0, 0, 0, 0⟩ else if bLow ((s.headD 0).toNat : Int) then ⟨1, ⟨s.toArray⟩, 0, 0, 0, 0⟩ else ⟨2, ⟨s.toArray⟩, 0, 0, 0, 0⟩
theorem word_tkn {b : UInt8} {r : List UInt8} (hw : ∀ c ∈ b :: r, bWord (c.toNat : Int) = true) (h0 : (bLow (b.toNat : Int) || (bUp (b.toNat : Int) || (b.toNat : Int) == 95)) = true) (hl : (b :: r).length ≤ 64) : Tkn (b :: r) (wordTok (b :: r)) okWord where
  kind := by
    unfold wordTok
    split
    · simp
    · split <;> simp
  head := ⟨b, r, rfl, start_of (start_word ⟨_, b.toNat_lt⟩ h0)⟩
  at_ T o R hr hR := by
    have hst : Start b := start_of (start_word ⟨_, b.toNat_lt⟩ h0)
    rw [next_here hr hst]
    obtain ⟨ho, hb⟩ := here_lt hr
    unfold tokAt
    rw [dif_pos ho, hb, if_pos h0]
    have hrun : runC (rest T o) = (b :: r).length := by rw [hr]; exact run_all _ _ hw hR
    unfold wordX
    simp only
    rw [hrun, extract_is hr, if_neg (by omega)]
    unfold wordTok
    have e : ((⟨(b :: r).toArray⟩ : ByteArray).toList == [110, 111, 116]) = decide (b :: r = [110, 111, 116]) := by
      rw [show (⟨(b :: r).toArray⟩ : ByteArray).toList = b :: r from by rw [ByteArray.toList_eq]]
      rw [Bool.eq_iff_iff]
      simp
    rw [e]
    by_cases hn : b :: r = [110, 111, 116]
    · rw [if_pos (by simpa using hn), if_pos hn]
    · rw [if_neg (by simpa using hn), if_neg hn]
      have e2 : (⟨(b :: r).toArray⟩ : ByteArray).data[0]! = b := rfl
      rw [e2, show ((b :: r).headD 0) = b from rfl]
      split <;> rfl
/-- An integer: a digit or a sign, digits behind it. -/
theorem int_tkn {b : UInt8} {r : List UInt8} {v : Int} (hw : ∀ c ∈ r, bWord (c.toNat : Int) = true) (h0 : bDig (b.toNat : Int) = true ∨ ((b.toNat : Int) = 45 ∧ ∃ d q, r = d :: q ∧ bDig (d.toNat : Int) = true)) (hp : Lib.parseIntB 64 (b :: r) = .ok v) : Tkn (b :: r) ⟨3, ⟨#[]⟩, v, 0, 0, 0⟩ okWord where
  kind := by simp
  head := ⟨b, r, rfl, start_of (start_beg ⟨_, b.toNat_lt⟩ (by rcases h0 with h | h; exact .inl h; exact .inr (.inl h.1)))⟩
  at_ T o R hr hR := by
    have hst : Start b := start_of (start_beg ⟨_, b.toNat_lt⟩ (by rcases h0 with h | h; exact .inl h; exact .inr (.inl h.1)))
    rw [next_here hr hst]
    obtain ⟨ho, hb⟩ := here_lt hr
    have hnw : (bLow (b.toNat : Int) || (bUp (b.toNat : Int) || (b.toNat : Int) == 95)) = false := by
      have hlt := b.toNat_lt
      have hd : bDig (b.toNat : Int) = true ∨ (b.toNat : Int) = 45 := by rcases h0 with h | h; exact .inl h; exact .inr h.1
      have key : ∀ n : Fin 256, (bDig (n.val : Int) = true ∨ (n.val : Int) = 45) → (bLow (n.val : Int) || (bUp (n.val : Int) || (n.val : Int) == 95)) = false := by decide +kernel
      exact key ⟨b.toNat, hlt⟩ hd
    have hbeg : begL (rest T o) = true := by
      rw [hr]
      unfold begL
      rcases h0 with h | ⟨h, d, q, rfl, hd⟩
      · simp [h]
      · simp [h, hd]
    unfold tokAt
    rw [dif_pos ho, hb, hnw, beg_rest, hbeg]
    simp only [Bool.false_eq_true, if_false, if_true]
    have hr1 : rest T (o + 1) = r ++ R := by rw [← rest_drop, hr]; rfl
    have hrun : runC (rest T (o + 1)) = r.length := by rw [hr1]; exact run_all _ _ hw hR
    unfold intX
    rw [hrun, show o + 1 + r.length = o + (b :: r).length by simp; omega, extract_is hr]
    rw [show (⟨(b :: r).toArray⟩ : ByteArray).data.toList = b :: r from rfl, hp]
/-- A mark. -/
theorem mark_tkn {b : UInt8} {r : List UInt8} {k op : Int} {ok : UInt8 → Bool} (hst : blankN (b.toNat : Int) = false ∧ b.toNat ≠ 37 ∧ b.toNat ≠ 47) (hw : (bLow (b.toNat : Int) || (bUp (b.toNat : Int) || (b.toNat : Int) == 95)) = false) (hd : bDig (b.toNat : Int) = false ∧ (b.toNat : Int) ≠ 45) (h34 : ¬ (b.toNat : Int) = 34) (hk : k ≠ 0) (hp : ∀ R : List UInt8, (∀ c, R.head? = some c → ok c = true) → P2 b (r ++ R)[0]? = some ((b :: r).length, k, op)) : Tkn (b :: r) ⟨k, ⟨#[]⟩, 0, op, 0, 0⟩ ok where
  kind := hk
  head := ⟨b, r, rfl, start_of hst⟩
  at_ T o R hr hR := by
    rw [next_here hr (start_of hst)]
    obtain ⟨ho, hb⟩ := here_lt hr
    have hbeg : begL (rest T o) = false := by
      rw [hr]
      unfold begL
      simp [hd.1, hd.2]
    unfold tokAt
    rw [dif_pos ho, hb, hw, beg_rest, hbeg, if_neg (by decide), if_neg (by decide), if_neg h34]
    unfold punctX
    rw [hr, show b :: r ++ R = b :: (r ++ R) from rfl, punct_two, hp R hR]
    rfl
theorem tk_dot : Tkn [46] ⟨8, ⟨#[]⟩, 0, 0, 0, 0⟩ okAny := mark_tkn (by decide) (by decide) (by decide) (by decide) (by decide) fun R _ => by unfold P2 P1; simp
theorem tk_com : Tkn [44] ⟨7, ⟨#[]⟩, 0, 0, 0, 0⟩ okAny := mark_tkn (by decide) (by decide) (by decide) (by decide) (by decide) fun R _ => by unfold P2 P1; simp
theorem tk_open : Tkn [40] ⟨5, ⟨#[]⟩, 0, 0, 0, 0⟩ okAny := mark_tkn (by decide) (by decide) (by decide) (by decide) (by decide) fun R _ => by unfold P2 P1; simp
theorem tk_shut : Tkn [41] ⟨6, ⟨#[]⟩, 0, 0, 0, 0⟩ okAny := mark_tkn (by decide) (by decide) (by decide) (by decide) (by decide) fun R _ => by unfold P2 P1; simp
theorem tk_arrow : Tkn [58, 45] ⟨9, ⟨#[]⟩, 0, 0, 0, 0⟩ okAny := mark_tkn (by decide) (by decide) (by decide) (by decide) (by decide) fun R _ => by unfold P2; simp
theorem tk_eq : Tkn [61] ⟨11, ⟨#[]⟩, 0, 1, 0, 0⟩ okAny := mark_tkn (by decide) (by decide) (by decide) (by decide) (by decide) fun R _ => by unfold P2 P1; simp
theorem tk_ne : Tkn [33, 61] ⟨11, ⟨#[]⟩, 0, 2, 0, 0⟩ okAny := mark_tkn (by decide) (by decide) (by decide) (by decide) (by decide) fun R _ => by unfold P2; simp
theorem tk_le : Tkn [60, 61] ⟨11, ⟨#[]⟩, 0, 4, 0, 0⟩ okAny := mark_tkn (by decide) (by decide) (by decide) (by decide) (by decide) fun R _ => by unfold P2; simp
theorem tk_ge : Tkn [62, 61] ⟨11, ⟨#[]⟩, 0, 6, 0, 0⟩ okAny := mark_tkn (by decide) (by decide) (by decide) (by decide) (by decide) fun R _ => by unfold P2; simp
theorem head_get (R : List UInt8) : ([] ++ R)[0]? = R.head? := by cases R <;> rfl
theorem tk_lt : Tkn [60] ⟨11, ⟨#[]⟩, 0, 3, 0, 0⟩ okEq := mark_tkn (by decide) (by decide) (by decide) (by decide) (by decide) fun R h => by
  rw [head_get]
  cases e : R.head? with
  | none => unfold P2 P1; simp
  | some c => have := h c e; unfold okEq at this; unfold P2 P1; simp at this; simp [this]
theorem tk_gt : Tkn [62] ⟨11, ⟨#[]⟩, 0, 5, 0, 0⟩ okEq := mark_tkn (by decide) (by decide) (by decide) (by decide) (by decide) fun R h => by
  rw [head_get]
  cases e : R.head? with
  | none => unfold P2 P1; simp
  | some c => have := h c e; unfold okEq at this; unfold P2 P1; simp at this; simp [this]
/-- A text in its marks. -/
theorem text_tkn {q : List UInt8} {x : Tok} (h : textX ⟨(34 :: q).toArray⟩ 0 = .tok x) (hx : x.en = q.length + 1) (hk : x.k = 4 ∧ x.n = 0 ∧ x.op = 0) : Tkn (34 :: q) x okAny where
  kind := by rw [hk.1]; decide
  head := ⟨34, q, rfl, start_of (by decide)⟩
  at_ T o R hr hR := by
    rw [next_here hr (start_of (by decide))]
    obtain ⟨ho, hb⟩ := here_lt hr
    have hbeg : begL (rest T o) = false := by
      rw [hr]
      unfold begL bDig
      simp
    unfold tokAt
    rw [dif_pos ho, hb, beg_rest, hbeg, if_neg (by decide), if_neg (by decide), if_pos (by decide)]
    unfold textX at h ⊢
    have := textF_pre (s := ⟨(34 :: q).toArray⟩) (s' := T) (g := 0) (g' := o) _ 1 [] x rfl h (fun i hi => by
      rw [hr, hx] at *
      rw [show rest (⟨(34 :: q).toArray⟩ : ByteArray) 0 = 34 :: q from rfl, List.getElem?_append_left (by simp; omega)])
    rw [this, hx]
    simp
/-- A text of plain bytes. -/
theorem textF_plain (T : ByteArray) (o : Nat) : ∀ (q R : List UInt8) (i : Nat) (vs : List Int), rest T i = q ++ 34 :: R → (∀ b ∈ q, 32 ≤ b.toNat ∧ b.toNat ≠ 34 ∧ b.toNat ≠ 92) → vs.length + q.length ≤ 255 → textF T o i vs = .tok ⟨4, strOf (vs ++ q.map fun b => (b.toNat : Int)), 0, 0, o, i + q.length + 1⟩
  | [], R, i, vs, hr, _, _ => by
    obtain ⟨ho, hb⟩ := here_lt hr
    rw [textF, dif_pos ho, hb, if_neg (by decide), if_pos (by decide)]
    simp
  | a :: q, R, i, vs, hr, hq, hl => by
    obtain ⟨ho, hb⟩ := here_lt hr
    obtain ⟨h1, h2, h3⟩ := hq a (by simp)
    simp only [List.length_cons] at hl
    rw [textF, dif_pos ho, hb, if_neg (by omega), if_neg (by omega), if_neg (by omega), if_neg (by omega)]
    rw [textF_plain T o q R (i + 1) (vs ++ [(a.toNat : Int)]) (by rw [← rest_drop, hr]; rfl) (fun b hb => hq b (by simp [hb])) (by simp; omega)]
    simp only [List.map_cons, List.append_assoc, List.singleton_append, List.length_cons]
    congr 2
    omega

/-- A gap: whatever begins a token may stand behind it, or nothing. -/
def Gp (g : List UInt8) : Prop := ∀ R : List UInt8, (R = [] ∨ ∃ b r, R = b :: r ∧ Start b) → gapN (g ++ R) = (g.length, true)
theorem gp_nil : Gp [] := fun R h => by
  rw [List.nil_append]
  rcases h with rfl | ⟨b, r, rfl, hs⟩
  · exact gapN_stop rfl
  · exact gapN_stop (item_start hs r)
theorem gp_go {p g : List UInt8} (hp : ∀ R, item (p ++ R) = .go p.length) (h0 : 0 < p.length) (hg : Gp g) : Gp (p ++ g) := fun R hR => by
  rw [List.append_assoc, gapN_go (hp _) h0 (by simp), List.drop_left, hg R hR]
  simp
  omega
theorem gp_blank {b : UInt8} (h : blankN (b.toNat : Int) = true) {g : List UInt8} (hg : Gp g) : Gp (b :: g) := gp_go (p := [b]) (fun R => by rw [List.singleton_append, item_cons, if_pos h]; rfl) (by simp) hg
/-- A piece of a text: a gap, a token, what may stand behind it. -/
structure Pc where
  g : List UInt8
  s : List UInt8
  x : Tok
  ok : UInt8 → Bool
def txt : List Pc → List UInt8 → List UInt8
  | [], e => e
  | p :: ps, e => p.g ++ (p.s ++ txt ps e)
def tks : Nat → List Pc → List UInt8 → List Tok
  | o, [], e => [endTok (o + e.length)]
  | o, p :: ps, e => ⟨p.x.k, p.x.t, p.x.n, p.x.op, o + p.g.length, o + p.g.length + p.s.length⟩ :: tks (o + p.g.length + p.s.length) ps e
def PcOk (e : List UInt8) : List Pc → Prop
  | [] => True
  | p :: ps => Gp p.g ∧ Tkn p.s p.x p.ok ∧ (∀ b, (txt ps e).head? = some b → p.ok b = true) ∧ PcOk e ps
theorem rest_at {T : ByteArray} {o : Nat} {p R : List UInt8} (h : rest T o = p ++ R) : rest T (o + p.length) = R := by
  rw [← rest_drop, h, List.drop_left]
theorem rest_here {T : ByteArray} {o : Nat} {s R : List UInt8} (h : rest T o = s ++ R) (hs : s ≠ []) : o + s.length ≤ T.size := by
  have := rest_len T o
  rw [h, List.length_append] at this
  have h2 : 0 < s.length := List.length_pos_iff.2 hs
  omega
/-- Lex makes of a text that is put together just its tokens. -/
theorem made_toks {T : ByteArray} {e : List UInt8} (he : Gp e) : ∀ (ps : List Pc) (o : Nat), o ≤ T.size → rest T o = txt ps e → PcOk e ps → Toks T o (tks o ps e) 0 0
  | [], o, ho, hr, _ => by
    have hl : e.length = T.size - o := by have := rest_len T o; rw [hr] at this; exact this
    have hg : gapW T o = (T.size, true) := by
      unfold gapW
      rw [hr]
      have := he [] (.inl rfl)
      rw [List.append_nil] at this
      show (o + (gapN e).1, (gapN e).2) = _
      rw [this]
      exact Prod.ext (by simp only; omega) rfl
    show Toks T o [endTok (o + e.length)] 0 0
    rw [show o + e.length = T.size by omega]
    exact .last ho (next_last T o ho hg) rfl
  | p :: ps, o, ho, hr, hp => by
    obtain ⟨h1, h2, h3, h4⟩ := hp
    obtain ⟨b, r, hs, hst⟩ := h2.head
    have hr0 : rest T o = p.g ++ (p.s ++ txt ps e) := hr
    have hr1 := rest_at hr0
    have hne : p.s ≠ [] := by rw [hs]; simp
    have hle := rest_here hr1 hne
    have hg0 : gapW T o = (o + p.g.length, true) := by
      unfold gapW
      rw [hr0, h1 _ (.inr ⟨b, r ++ txt ps e, by rw [hs]; rfl, hst⟩)]
    have hg1 : gapW T (o + p.g.length) = (o + p.g.length, true) := by
      unfold gapW
      rw [hr1, hs, show b :: r ++ txt ps e = b :: (r ++ txt ps e) from rfl, gapN_stop (item_start hst _)]
      rfl
    have hn : nextX T o = nextX T (o + p.g.length) := by unfold nextX; rw [hg0, hg1]
    have hx := h2.at_ T _ _ hr1 h3
    refine .more ho (hn.trans hx) h2.kind ?_
    exact made_toks he ps _ hle (rest_at hr1) h4
end Go.Proofs.YtaemcbabegjfnaaDoor
