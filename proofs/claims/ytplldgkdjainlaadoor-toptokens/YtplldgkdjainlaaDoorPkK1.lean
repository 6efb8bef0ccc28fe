/- What Scan answers at the text with which the law of tokens begins. What lex.Blank answers, at every text and all numbers. Gaps and chains of tokens in a text that agrees with another one up to a place: no program in sight. What the program's start-up lays, read off the row's condition: the table of marks and two error values. What the program's start-up lays, read off the row's condition: the lexer's table and error values, and the document's two tables of spellings. edicttop.TopTokens returns true: the walk. -/
import Derived.Test.YtplldgkdjainlaaDoorProg
import Derived.Test.YtplldgkdjainlaaDoorLexScan
import Derived.Test.YtplldgkdjainlaaDoorLexToks
import Derived.Test.YtplldgkdjainlaaDoorGap
import Derived.Test.YtplldgkdjainlaaDoorBlankPure
import Derived.Test.YtplldgkdjainlaaDoorLexLocal
import Derived.Test.YtplldgkdjainlaaDoorRows
import Derived.Test.YtplldgkdjainlaaDoorLexInt
import Derived.Lib.LaidU8
import Derived.MakeChecks
import Derived.OpenShut
import Derived.ProofKit
import Derived.LaidMore
import Derived.Stop.Joined
import Derived.Test.YtplldgkdjainlaaDoorTopSpP
import Derived.ChangeArms
import Derived.Test.YtplldgkdjainlaaDoorTopScd

namespace Go.Proofs.YtplldgkdjainlaaDoor
set_option linter.unusedSimpArgs false
set_option linter.unusedVariables false
open Go.RowKit

def headT : ByteArray := ⟨#[112, 40, 88, 41, 32, 58, 45, 32, 110, 111, 116, 32, 113, 44, 32, 34, 97, 92, 120, 48, 48, 34, 32, 60, 61, 32, 45, 48, 49, 46, 32, 37, 32, 114, 10, 63]⟩
theorem headT_scan : (scanX headT).1.length = 12 ∧ (scanX headT).2.1 = 10 ∧ (scanX headT).2.2 = 35 := by decide +kernel
end Go.Proofs.YtplldgkdjainlaaDoor

namespace Go.Proofs.YtplldgkdjainlaaDoor
set_option linter.unusedSimpArgs false
set_option linter.unusedVariables false
open Go.RowKit

theorem ret_boolP {a b : Bool} (h : a = b) : Ending.returned (.bool a) = .returned (.bool b) := by rw [h]

set_option maxHeartbeats 400000 in
theorem blank_any (s : ByteArray) (a b : Int) (w : World) (hs : s.size ≤ 140737488351232) (ha : -9223372036854775808 ≤ a ∧ a ≤ 9223372036854775807) (hb : -9223372036854775808 ≤ b ∧ b ≤ 9223372036854775807) :
    Calls Tryd.prog 6 #[.string s, .int .i64 a, .int .i64 b] w fun e w' => e = .returned (.bool (blankW s a b)) ∧ w' = w := by
  by_cases h1 : a < 0
  · rw [show blankW s a b = false from if_neg (by omega)]
    go_enter Tryd.func6, Tryd.ntmps6
    go_wp2
    go_ret
    exact ⟨rfl, rfl⟩
  by_cases h2 : b < a
  · rw [show blankW s a b = false from if_neg (by omega)]
    go_enter Tryd.func6, Tryd.ntmps6
    go_wp2
    go_ret
    exact ⟨rfl, rfl⟩
  by_cases h3 : (s.size : Int) < b
  · rw [show blankW s a b = false from if_neg (by omega)]
    go_enter Tryd.func6, Tryd.ntmps6
    go_wp2
    go_ret
    exact ⟨rfl, rfl⟩
  by_cases h4 : (65536 : Int) < (s.size : Int)
  · rw [show blankW s a b = false from if_neg (by omega)]
    go_enter Tryd.func6, Tryd.ntmps6
    go_wp2
    go_ret
    exact ⟨rfl, rfl⟩
  obtain ⟨x, rfl⟩ : ∃ x : Nat, a = x := ⟨a.toNat, by omega⟩
  obtain ⟨y, rfl⟩ : ∃ y : Nat, b = y := ⟨b.toNat, by omega⟩
  clear ha hb
  have hsz : (s.extract 0 y).size = y := by rw [ByteArray.size_extract]; omega
  have HG := hide (gap_any (s.extract 0 y) x w (by omega) (by omega))
  have HW : Hid (blankW s (x : Int) (y : Int) = ((gapW (s.extract 0 y) x).2 && decide ((gapW (s.extract 0 y) x).1 = y))) := by
    show blankW s (x : Int) (y : Int) = _
    unfold gapW
    rw [rest_upto]
    exact if_pos ⟨by omega, by omega, by omega, by omega⟩
  rw [HW.out]
  clear HW
  generalize gapW (s.extract 0 y) x = P at *
  obtain ⟨n, c⟩ := P
  cases c with
  | false =>
    go_enter Tryd.func6, Tryd.ntmps6
    go_wp2_with (go_at_call 11; refine HG.out.mono ?_; rintro e w' ⟨rfl, hw'⟩; have hw' := hw'.symm; subst hw')
    go_ret
    exact ⟨rfl, rfl⟩
  | true =>
    by_cases h : n = y
    · subst h
      rw [show (true && decide (n = n)) = true from by simp]
      go_enter Tryd.func6, Tryd.ntmps6
      go_wp2_with (go_at_call 11; refine HG.out.mono ?_; rintro e w' ⟨rfl, hw'⟩; have hw' := hw'.symm; subst hw')
      go_ret
      first | exact ⟨rfl, rfl⟩ | exact ⟨ret_boolP (by simp), rfl⟩
    · rw [show (true && decide (n = y)) = false from by simp [h]]
      have e : ((n : Int) == (y : Int)) = false := by simp; omega
      go_enter Tryd.func6, Tryd.ntmps6
      go_wp2_with (go_at_call 11; refine HG.out.mono ?_; rintro e w' ⟨rfl, hw'⟩; have hw' := hw'.symm; subst hw')
      go_ret
      first | exact ⟨rfl, rfl⟩ | exact ⟨ret_boolP (by simp; omega), rfl⟩

end Go.Proofs.YtplldgkdjainlaaDoor

namespace Go.Proofs.YtplldgkdjainlaaDoor
set_option linter.unusedSimpArgs false
set_option linter.unusedVariables false
open Go.RowKit

theorem blockC_pre {l l' : List UInt8} {d j m : Nat} (h : blockC d l = some j) (hj : j ≤ m) (ha : Agree l l' m) : blockC d l' = some j := by
  have h1 := blockC_take _ l d j m rfl h hj
  have h2 := blockC_append (l'.drop m) _ (l.take m) d j rfl h1
  rw [← ha.take, List.take_append_drop] at h2
  exact h2

theorem agree_cons {a : UInt8} {r l' : List UInt8} {n : Nat} (ha : Agree (a :: r) l' (n + 1)) : ∃ r', l' = a :: r' ∧ Agree r r' n := by
  have e := ha 0 (by omega)
  match l', e with
  | [], e => simp at e
  | b :: r', e =>
    have : b = a := by simpa using e
    subst this
    exact ⟨r', rfl, fun i hi => by simpa using ha (i + 1) (by omega)⟩

theorem lineC_pre : ∀ (l l' : List UInt8), lineC l < l.length → Agree l l' (lineC l + 1) → lineC l' = lineC l
  | [], _, h, _ => by simp at h
  | b :: r, l', h, ha => by
    obtain ⟨r', rfl, ha'⟩ := agree_cons ha
    unfold lineC at h ha' ⊢
    split
    · rfl
    · next hb =>
      rw [if_neg hb] at h ha'
      rw [lineC_pre r r' (by simp at h; omega) ha']

theorem item_pre {l l' : List UInt8} {k : Nat} (h : item l = .go k) (hk : k < l.length) (ha : Agree l l' (k + 1)) : item l' = .go k := by
  match l, h, hk, ha with
  | a :: r, h, hk, ha =>
    obtain ⟨r', rfl, ha'⟩ := agree_cons ha
    rw [item_cons] at h ⊢
    split
    · next hb => rw [if_pos hb] at h; exact h
    · next hb =>
      rw [if_neg hb] at h
      split
      · next h37 =>
        rw [if_pos h37] at h
        injection h with h
        subst h
        simp at hk
        rw [lineC_pre r r' hk ha']
      · next h37 =>
        rw [if_neg h37] at h
        split at h
        · next ho =>
          cases hbc : blockC 1 (r.drop 1) with
          | none => rw [hbc] at h; cases h
          | some x =>
            rw [hbc] at h
            injection h with h
            subst h
            have ho' : opens (a :: r') = true := by
              rw [← opens_take (m := 2) (Nat.le_refl _), (ha.mono (m := 2) (by omega)).take, opens_take (Nat.le_refl _)]; exact ho
            rw [if_pos ho', blockC_pre hbc (m := x + 2 - 1) (by omega) (ha'.drop 1)]
        · cases h

theorem item_start {a : UInt8} (h : Start a) (r : List UInt8) : item (a :: r) = .stop := by
  obtain ⟨h1, h2, h3⟩ := h
  rw [item_cons, if_neg (by rw [h1]; simp), if_neg h2, if_neg]
  intro ho
  match r, ho with
  | b :: r, ho =>
    have : (a == 47 && b == 42) = true := ho
    simp at this
    exact h3 this.1

theorem gap_pre : ∀ (N : Nat) (l l' : List UInt8) (n : Nat), l.length = N → gapN l = (n, true) → n < l.length → (∀ a, l[n]? = some a → Start a) → Agree l l' (n + 1) → gapN l' = (n, true) := by
  intro N
  induction N using Nat.strongRecOn with
  | ind N ih =>
    intro l l' n hl h hn hst ha
    have hzero : n = 0 → item l = .stop ∧ gapN l' = (0, true) := by
      rintro rfl
      match l, hn, hst, ha with
      | a :: r, _, hst, ha =>
        obtain ⟨r', rfl, _⟩ := agree_cons ha
        have := hst a (by simp)
        exact ⟨item_start this r, gapN_stop (item_start this r')⟩
    cases hi : item l with
    | stop =>
      rw [gapN_stop hi] at h
      cases h
      exact (hzero rfl).2
    | bad => rw [gapN_bad hi] at h; cases h
    | go k =>
      by_cases hk : 0 < k ∧ k ≤ l.length
      · rw [gapN_go hi hk.1 hk.2] at h
        have h1 : (gapN (l.drop k)).1 + k = n := congrArg Prod.fst h
        have h2 : (gapN (l.drop k)).2 = true := congrArg Prod.snd h
        have hd := ih (l.drop k).length (by simp; omega) (l.drop k) (l'.drop k) (gapN (l.drop k)).1 rfl (Prod.ext rfl h2) (by simp; omega)
          (fun a e => hst a (by rw [List.getElem?_drop] at e; rw [← e]; congr 1; omega)) ((ha.drop k).mono (by omega))
        have hlen := ha.len (by omega)
        rw [gapN_go (item_pre hi (by omega) (ha.mono (by omega))) hk.1 (by omega), hd]
        exact Prod.ext h1 rfl
      · rw [gapN, hi] at h
        simp only at h
        rw [dif_neg hk] at h
        cases h
        exact (hzero rfl).2

theorem gap_take_bad : ∀ (N : Nat) (l : List UInt8) (n : Nat), l.length = N → gapN l = (n, false) → gapN (l.take n) = (n, true) := by
  intro N
  induction N using Nat.strongRecOn with
  | ind N ih =>
    intro l n hl h
    cases hi : item l with
    | stop => rw [gapN_stop hi] at h; cases h
    | bad => rw [gapN_bad hi] at h; cases h; rw [List.take_zero]; exact gapN_stop rfl
    | go k =>
      by_cases hk : 0 < k ∧ k ≤ l.length
      · rw [gapN_go hi hk.1 hk.2] at h
        have h1 : (gapN (l.drop k)).1 + k = n := congrArg Prod.fst h
        have h2 : (gapN (l.drop k)).2 = false := congrArg Prod.snd h
        have hd := ih (l.drop k).length (by simp; omega) (l.drop k) (gapN (l.drop k)).1 rfl (Prod.ext rfl h2)
        have hle : n ≤ l.length := by
          have := gapN_len (l.drop k)
          simp at this
          omega
        rw [gapN_go (item_take hi (by omega) hk.1) hk.1 (by rw [List.length_take]; omega), List.drop_take, show n - k = (gapN (l.drop k)).1 by omega, hd]
        exact Prod.ext h1 rfl
      · rw [gapN, hi] at h
        simp only at h
        rw [dif_neg hk] at h
        cases h

theorem next_pre {s s' : ByteArray} {o o' : Nat} {t : Tok} (ho : o ≤ s.size) (h : nextX s o = .tok t) (hk : t.k ≠ 0) (ha : Agree (rest s o) (rest s' o') (t.en - o)) (hs : Safe (rest s o) (rest s' o') (t.en - o)) :
    nextX s' o' = .tok ⟨t.k, t.t, t.n, t.op, o' + (t.off - o), o' + (t.en - o)⟩ := by
  obtain ⟨h1, h2, h3, h4⟩ := next_tok ho h
  obtain ⟨_, h5, h6⟩ := h4.resolve_left (fun h => hk h.1)
  have hg : t.off = o + (gapN (rest s o)).1 := h2
  obtain ⟨n, hn⟩ : ∃ n, n = (gapN (rest s o)).1 := ⟨_, rfl⟩
  have hgn : gapN (rest s o) = (n, true) := Prod.ext hn.symm h1
  rw [← hn] at hg
  have hgw : gapW s o = (o + n, true) := by unfold gapW; rw [hgn]
  unfold nextX at h
  rw [hgw] at h
  simp only [if_true] at h
  have hA : Agree (rest s (o + n)) (rest s' (o' + n)) (t.en - (o + n)) := by
    rw [← rest_drop, ← rest_drop]
    have := ha.drop n
    rw [show t.en - o - n = t.en - (o + n) by omega] at this
    exact this
  have hS : Safe (rest s (o + n)) (rest s' (o' + n)) (t.en - (o + n)) := by
    rw [← rest_drop, ← rest_drop]
    have := hs.drop (k := n) (by omega)
    rw [show t.en - o - n = t.en - (o + n) by omega] at this
    exact this
  obtain ⟨ht, hlt, hst⟩ := tokAt_pre (by omega) h hk hA hS
  have hg' : gapN (rest s' o') = (n, true) := by
    refine gap_pre _ (rest s o) _ n rfl hgn (by rw [rest_len]; omega) (fun a e => ?_) (ha.mono (by omega))
    rw [nth_byte s o n hlt] at e
    have : s[o + n] = a := Option.some.inj e
    rw [← this]; exact hst
  unfold nextX gapW
  rw [hg']
  simp only [if_true]
  rw [ht, show o' + n + (t.en - (o + n)) = o' + (t.en - o) by omega, show o' + (t.off - o) = o' + n by omega]

theorem toks_det {s : ByteArray} {o : Nat} {L : List Tok} {c : Int} {f : Nat} (h : Toks s o L c f) : ∀ {L' c' f'}, Toks s o L' c' f' → L' = L ∧ c' = c ∧ f' = f := by
  induction h with
  | bad h1 h2 =>
    intro L' c' f' h'
    cases h' with
    | bad _ k2 => rw [h2] at k2; injection k2 with a b; exact ⟨rfl, a.symm, b.symm⟩
    | last _ k2 _ => rw [h2] at k2; cases k2
    | more _ k2 _ _ => rw [h2] at k2; cases k2
  | last h1 h2 h3 =>
    intro L' c' f' h'
    cases h' with
    | bad _ k2 => rw [h2] at k2; cases k2
    | last _ k2 _ => rw [h2] at k2; injection k2 with a; subst a; exact ⟨rfl, rfl, rfl⟩
    | more _ k2 k3 _ => rw [h2] at k2; injection k2 with a; subst a; exact absurd h3 k3
  | more h1 h2 h3 h4 ih =>
    intro L' c' f' h'
    cases h' with
    | bad _ k2 => rw [h2] at k2; cases k2
    | last _ k2 k3 => rw [h2] at k2; injection k2 with a; subst a; exact absurd k3 h3
    | more _ k2 k3 k4 =>
      rw [h2] at k2
      injection k2 with a
      subst a
      obtain ⟨e1, e2, e3⟩ := ih k4
      exact ⟨by rw [e1], e2, e3⟩

theorem scan_eq {s : ByteArray} {L : List Tok} {c : Int} {f : Nat} (hs : s.size ≤ 65536) (h : Toks s 0 L c f) : scanX s = (L, c, f) := by
  obtain ⟨e1, e2, e3⟩ := toks_det h (scan_toks s hs)
  exact Prod.ext e1 (Prod.ext e2 e3)

/-- s' begins as s does, up to m; behind that stands nothing, or a blank, or what stands in s too. -/
structure Pre (s s' : ByteArray) (m : Nat) : Prop where
  le : m ≤ s.size
  le' : m ≤ s'.size
  same : ∀ i, i < m → s'.data.toList[i]? = s.data.toList[i]?
  behind : ∀ b, s'.data.toList[m]? = some b → s.data.toList[m]? = some b ∨ b = 10 ∨ b = 32

theorem Pre.agree {s s' : ByteArray} {m : Nat} (h : Pre s s' m) {o e : Nat} (he : e ≤ m) : Agree (rest s o) (rest s' o) (e - o) := fun i hi => by
  unfold rest
  rw [List.getElem?_drop, List.getElem?_drop]
  exact h.same _ (by omega)
theorem Pre.safe {s s' : ByteArray} {m : Nat} (h : Pre s s' m) {o e : Nat} (ho : o ≤ e) (he : e ≤ m) : Safe (rest s o) (rest s' o) (e - o) := fun b hb => by
  unfold rest at hb ⊢
  rw [List.getElem?_drop, show o + (e - o) = e by omega] at hb ⊢
  by_cases h1 : e = m
  · subst h1; exact h.behind b hb
  · exact .inl (by rw [← h.same e (by omega)]; exact hb)

theorem Pre.next {s s' : ByteArray} {m o : Nat} {t : Tok} (hp : Pre s s' m) (ho : o ≤ s.size) (h : nextX s o = .tok t) (hk : t.k ≠ 0) (he : t.en ≤ m) : nextX s' o = .tok t ∧ o ≤ t.off ∧ t.off < t.en := by
  obtain ⟨_, _, h3, h4⟩ := next_tok ho h
  obtain ⟨_, h5, _⟩ := h4.resolve_left (fun h => hk h.1)
  refine ⟨?_, h3, h5⟩
  rw [next_pre ho h hk (hp.agree he) (hp.safe (by omega) he), show o + (t.off - o) = t.off by omega, show o + (t.en - o) = t.en by omega]

theorem toks_more {s s' : ByteArray} (hp : Pre s s' s.size) {o : Nat} {L : List Tok} {c : Int} {f : Nat} (h : Toks s o L c f) : c = 0 → ∃ r c' f', Toks s' o (L.dropLast ++ r) c' f' := by
  induction h with
  | bad h1 h2 => intro hc; have := next_bad h2; omega
  | last h1 h2 h3 =>
    intro _
    obtain ⟨r, c, f, _, T⟩ := each_toks s' _ _ [] rfl (Nat.le_trans h1 hp.le')
    exact ⟨r, c, f, T⟩
  | more h1 h2 h3 h4 ih =>
    intro hc
    obtain ⟨r, c', f', T⟩ := ih hc
    have h0 := (toks_zero h4 hc).2.1
    refine ⟨r, c', f', ?_⟩
    rw [List.dropLast_cons_of_ne_nil (List.ne_nil_of_length_pos h0), List.cons_append]
    exact .more (Nat.le_trans h1 hp.le') (hp.next h1 h2 h3 h4.le).1 h3 T

theorem pre_append (s m : ByteArray) : Pre s (s ++ ⟨#[10]⟩ ++ m) s.size where
  le := Nat.le_refl _
  le' := by rw [ByteArray.size_append, ByteArray.size_append]; omega
  same i hi := by
    rw [ByteArray.data_append, ByteArray.data_append, Array.toList_append, Array.toList_append, List.append_assoc, List.getElem?_append_left (by simpa using hi)]
  behind b hb := by
    rw [ByteArray.data_append, ByteArray.data_append, Array.toList_append, Array.toList_append, List.append_assoc, List.getElem?_append_right (by simp)] at hb
    simp at hb
    exact .inr (.inl hb.symm)

theorem pre_extract (s : ByteArray) (m : Nat) (h : m ≤ s.size) : Pre s (s.extract 0 m) m := by
  have e : (s.extract 0 m).data.toList = s.data.toList.take m := by
    rw [ByteArray.data_extract, Array.toList_extract, List.extract_eq_take_drop, List.drop_zero, Nat.sub_zero]
  have hz : (s.extract 0 m).size = m := by rw [ByteArray.size_extract]; omega
  exact ⟨h, by omega, fun i hi => by rw [e, List.getElem?_take_of_lt hi], fun b hb => by rw [e, List.getElem?_take_eq_none (Nat.le_refl _)] at hb; cases hb⟩

theorem toks_ends {s : ByteArray} {o : Nat} {L : List Tok} {c : Int} {f : Nat} (h : Toks s o L c f) : o ≤ endOf o L := by
  induction h with
  | bad _ _ => exact Nat.le_refl _
  | last h1 h2 h3 =>
    rename_i o t
    have := next_tok h1 h2
    show o ≤ t.en
    omega
  | more h1 h2 h3 h4 ih =>
    rename_i o t r c f
    obtain ⟨_, _, a, b⟩ := next_tok h1 h2
    show o ≤ endOf t.en r
    omega

theorem rest_cut (s : ByteArray) (o m : Nat) : rest (s.extract 0 m) o = (rest s o).take (m - o) := by
  unfold rest
  rw [ByteArray.data_extract, Array.toList_extract, List.extract_eq_take_drop, List.drop_zero, Nat.sub_zero, List.drop_take]

theorem next_last (s : ByteArray) (o : Nat) (ho : o ≤ s.size) (h : gapW s o = (s.size, true)) : nextX s o = .tok (endTok s.size) := by
  unfold nextX
  rw [h]
  simp only [if_true]
  unfold tokAt
  rw [dif_neg (by omega)]
  rfl

theorem gap_cut (s : ByteArray) (o : Nat) (ho : o ≤ s.size) : gapW (s.extract 0 (gapW s o).1) o = ((gapW s o).1, true) := by
  have e : (gapW s o).1 = o + (gapN (rest s o)).1 := rfl
  unfold gapW at e ⊢
  simp only at e ⊢
  rw [rest_cut, show o + (gapN (rest s o)).1 - o = (gapN (rest s o)).1 by omega]
  have : gapN ((rest s o).take (gapN (rest s o)).1) = ((gapN (rest s o)).1, true) := by
    cases hb : (gapN (rest s o)).2 with
    | true => exact gap_take _ (rest s o) _ rfl (Prod.ext rfl hb)
    | false => exact gap_take_bad _ (rest s o) _ rfl (Prod.ext rfl hb)
  rw [this]

/-- Cut off ahead of its fault a text has the same tokens, and then its end. -/
theorem toks_first {s : ByteArray} {o : Nat} {L : List Tok} {c : Int} {f : Nat} (h : Toks s o L c f) : c ≠ 0 → Toks (s.extract 0 (gapW s (endOf o L)).1) o (L ++ [endTok (gapW s (endOf o L)).1]) 0 0 := by
  induction h with
  | bad h1 h2 =>
    rename_i o c f
    intro _
    have hg := gapW_le s o h1
    have hz : (s.extract 0 (gapW s o).1).size = (gapW s o).1 := by rw [ByteArray.size_extract]; omega
    have hc := gap_cut s o h1
    show Toks (s.extract 0 (gapW s o).1) o [endTok (gapW s o).1] 0 0
    have := next_last (s.extract 0 (gapW s o).1) o (by omega) (by rw [hz]; exact hc)
    rw [hz] at this
    exact .last (by omega) this rfl
  | last h1 h2 h3 => intro hc; exact absurd rfl hc
  | more h1 h2 h3 h4 ih =>
    rename_i o t r c f
    intro hc
    have T := ih hc
    have hb := toks_bad h4 hc
    have hg := gapW_le s _ hb.2.1
    have he := toks_ends h4
    have hp := pre_extract s (gapW s (endOf t.en r)).1 hg.2
    have hn := hp.next h1 h2 h3 (by omega)
    refine .more ?_ hn.1 h3 T
    have := hp.le'
    show o ≤ (s.extract 0 (gapW s (endOf t.en r)).1).size
    omega

theorem textF_cut {s : ByteArray} {g f : Nat} (hf : f ≤ s.size) : ∀ (N j : Nat) (vs : List Int), s.size - (g + j) = N → textF s g (g + j) vs = .bad 12 f → textF (s.extract 0 f) g (g + j) vs = .bad 11 g ∧ g + j ≤ f ∧ f < s.size := by
  have hp := pre_extract s f hf
  have hz : (s.extract 0 f).size = f := by rw [ByteArray.size_extract]; omega
  intro N
  induction N using Nat.strongRecOn with
  | ind N ih =>
    intro j vs hN h
    rw [textF] at h
    split at h
    · next hlt =>
      split at h
      · injection h with h _; cases h
      · next h32 =>
        split at h
        · cases h
        · next h34 =>
          split at h
          · next h92 =>
            split at h
            · injection h with _ h
              refine ⟨?_, by omega, by omega⟩
              rw [textF, dif_neg (by omega)]
            · next hn0 =>
              split at h
              · injection h with h _; cases h
              · next h255 =>
                obtain ⟨r1, r2, r3⟩ := ih (s.size - (g + (j + (escX (s.extract (g + j) s.size)).2.toNat))) (by omega) (j + (escX (s.extract (g + j) s.size)).2.toNat) _ rfl (by rw [← Nat.add_assoc]; exact h)
                have ha : Agree (rest s g) (rest (s.extract 0 f) g) (f - g) := hp.agree (Nat.le_refl _)
                obtain ⟨hlt', hb⟩ := byte_pre ha (j := j) (by omega) hlt
                refine ⟨?_, by omega, r3⟩
                rw [textF, dif_pos hlt', hb, if_neg h32, if_neg h34, if_pos h92]
                have hesc : escX ((s.extract 0 f).extract (g + j) (s.extract 0 f).size) = escX (s.extract (g + j) s.size) := by
                  refine escX_pre (fun e => hn0 (by rw [e]; rfl)) ?_
                  rw [extract_rest, extract_rest, ← rest_drop, ← rest_drop]
                  exact (ha.drop j).mono (by omega)
                rw [hesc, dif_neg hn0, if_neg h255, Nat.add_assoc]
                exact r1
          · next h92 =>
            split at h
            · injection h with h _; cases h
            · next h255 =>
              obtain ⟨r1, r2, r3⟩ := ih (s.size - (g + (j + 1))) (by omega) (j + 1) _ rfl (by rw [← Nat.add_assoc]; exact h)
              have ha : Agree (rest s g) (rest (s.extract 0 f) g) (f - g) := hp.agree (Nat.le_refl _)
              obtain ⟨hlt', hb⟩ := byte_pre ha (j := j) (by omega) hlt
              refine ⟨?_, by omega, r3⟩
              rw [textF, dif_pos hlt', hb, if_neg h32, if_neg h34, if_neg h92, if_neg h255, Nat.add_assoc]
              exact r1
    · injection h with h _; cases h

theorem tokAt_cut {s : ByteArray} {g f : Nat} (h : tokAt s g = .bad 12 f) : tokAt (s.extract 0 f) g = .bad 11 g ∧ g < f ∧ ∃ hlt : g < s.size, Start s[g] := by
  have hbd := tokAt_bad h
  have hlt : g < s.size := hbd.1
  have hn256 := s[g].toNat_lt
  unfold tokAt at h
  rw [dif_pos hlt] at h
  split at h
  · unfold wordX at h
    simp only at h
    repeat' split at h
    all_goals first | (injection h with h1 h2; cases h1; done) | (cases h; done)
  · next hw =>
    split at h
    · unfold intX at h
      split at h
      · cases h
      · injection h with h _; cases h
    · split at h
      · next h34 =>
        obtain ⟨r1, r2, r3⟩ := textF_cut (g := g) (by omega) _ 1 [] rfl h
        have hp := pre_extract s f (by omega)
        have ha : Agree (rest s g) (rest (s.extract 0 f) g) (f - g) := hp.agree (Nat.le_refl _)
        obtain ⟨hlt', hb⟩ := byte_pre ha (j := 0) (by omega) hlt
        simp only [Nat.add_zero] at hlt' hb
        refine ⟨?_, by omega, hlt, start_of (start_beg ⟨_, hn256⟩ (.inr (.inr h34)))⟩
        unfold tokAt
        rw [dif_pos hlt', hb, if_neg hw, beg_rest, if_neg, if_pos h34]
        · exact r1
        · unfold begL
          rw [first_byte _ g hlt', hb]
          simp only [Option.getD_some]
          rw [h34]
          simp [bDig]
      · unfold punctX at h
        cases hq : punctL marksT (rest s g) with
        | none => rw [hq] at h; injection h with h _; cases h
        | some x => obtain ⟨n, k, op⟩ := x; rw [hq] at h; cases h

theorem next_cut {s : ByteArray} {o f : Nat} (ho : o ≤ s.size) (h : nextX s o = .bad 12 f) : nextX (s.extract 0 f) o = .bad 11 (gapW s o).1 ∧ (gapW s o).1 < f ∧ f < s.size := by
  have hb := next_bad h
  obtain ⟨h1, _, _, _, h5, _⟩ := hb.resolve_left (fun h => by omega)
  obtain ⟨n, hn⟩ : ∃ n, n = (gapN (rest s o)).1 := ⟨_, rfl⟩
  have hgn : gapN (rest s o) = (n, true) := Prod.ext hn.symm h1
  have hgw : gapW s o = (o + n, true) := by unfold gapW; rw [hgn]
  unfold nextX at h
  rw [hgw] at h ⊢
  simp only [if_true] at h
  obtain ⟨r1, r2, hlt, hst⟩ := tokAt_cut h
  have hp := pre_extract s f (by omega)
  have ha : Agree (rest s o) (rest (s.extract 0 f) o) (f - o) := hp.agree (Nat.le_refl _)
  have hg' : gapN (rest (s.extract 0 f) o) = (n, true) := by
    refine gap_pre _ (rest s o) _ n rfl hgn (by rw [rest_len]; omega) (fun a e => ?_) (ha.mono (by omega))
    rw [nth_byte s o n hlt] at e
    have : s[o + n] = a := Option.some.inj e
    rw [← this]; exact hst
  refine ⟨?_, r2, h5⟩
  unfold nextX gapW
  rw [hg']
  simp only [if_true]
  exact r1

/-- Cut off at an escape that is none a text has the same tokens, and a text that is not closed. -/
theorem toks_escape {s : ByteArray} {o : Nat} {L : List Tok} {c : Int} {f : Nat} (h : Toks s o L c f) : c = 12 → Toks (s.extract 0 f) o L 11 (gapW s (endOf o L)).1 ∧ (gapW s (endOf o L)).1 < f ∧ f < s.size := by
  induction h with
  | bad h1 h2 =>
    rename_i o c f
    rintro rfl
    obtain ⟨r1, r2, r3⟩ := next_cut h1 h2
    have hg := gapW_le s o h1
    have hz : (s.extract 0 f).size = f := by rw [ByteArray.size_extract]; omega
    exact ⟨.bad (by omega) r1, r2, r3⟩
  | last h1 h2 h3 => intro hc; cases hc
  | more h1 h2 h3 h4 ih =>
    rename_i o t r c f
    intro hc
    obtain ⟨T, r2, r3⟩ := ih hc
    have hb := toks_bad h4 (by omega)
    have hg := gapW_le s _ hb.2.1
    have he := toks_ends h4
    have hp := pre_extract s f (by omega)
    have hn := hp.next h1 h2 h3 (by omega)
    have hz := hp.le'
    exact ⟨.more (by omega) hn.1 h3 T, r2, r3⟩

/-- The fault's place, but for escapes, is where the gap ends. -/
theorem toks_place {s : ByteArray} {o : Nat} {L : List Tok} {c : Int} {f : Nat} (h : Toks s o L c f) (hc : c ≠ 0) : f < s.size ∧ (c ≠ 12 → f = (gapW s (endOf o L)).1) := by
  obtain ⟨h1, h2, _⟩ := toks_bad h hc
  rcases next_bad h1 with ⟨a, b, d⟩ | ⟨a, _, _, _, d, e⟩
  · have := gap_bad_lt s _ h2 a
    exact ⟨by omega, fun _ => d⟩
  · exact ⟨d, e⟩

/-- A token's spelling, alone, is that token. -/
theorem alone_scan {s : ByteArray} {o : Nat} {t : Tok} (hs : s.size ≤ 65536) (ho : o ≤ s.size) (h : nextX s o = .tok t) (hk : t.k ≠ 0) :
    scanX (s.extract t.off t.en) = ([⟨t.k, t.t, t.n, t.op, 0, t.en - t.off⟩, endTok (t.en - t.off)], 0, 0) := by
  obtain ⟨h1, h2, h3, h4⟩ := next_tok ho h
  obtain ⟨_, h5, h6⟩ := h4.resolve_left (fun h => hk h.1)
  have hg : nextX s o = tokAt s t.off := by unfold nextX; rw [h1, ← h2]; rfl
  rw [hg] at h
  have hz : (s.extract t.off t.en).size = t.en - t.off := by rw [ByteArray.size_extract]; omega
  have hr : rest (s.extract t.off t.en) 0 = (rest s t.off).take (t.en - t.off) := by
    have := extract_list s t.off (t.en - t.off)
    rw [show t.off + (t.en - t.off) = t.en by omega] at this
    unfold rest at this ⊢
    rw [List.drop_zero]; exact this
  have ha : Agree (rest s t.off) (rest (s.extract t.off t.en) 0) (t.en - t.off) := fun i hi => by rw [hr, List.getElem?_take_of_lt hi]
  have hsf : Safe (rest s t.off) (rest (s.extract t.off t.en) 0) (t.en - t.off) := fun b hb => by rw [hr, List.getElem?_take_eq_none (Nat.le_refl _)] at hb; cases hb
  obtain ⟨r1, hlt, hst⟩ := tokAt_pre (by omega) h hk ha hsf
  rw [Nat.zero_add] at r1
  generalize hS : s.extract t.off t.en = S at *
  have hg0 : gapW S 0 = (0, true) := by
    obtain ⟨hlt', hb⟩ := byte_pre ha (j := 0) (by omega) hlt
    simp only [Nat.add_zero] at hlt' hb
    unfold gapW
    rw [rest_cons S 0 hlt', hb, gapN_stop (item_start hst _)]
    rfl
  have n0 : nextX S 0 = .tok ⟨t.k, t.t, t.n, t.op, 0, t.en - t.off⟩ := by
    unfold nextX
    rw [hg0]
    simp only [if_true]
    exact r1
  have n1 : nextX S (t.en - t.off) = .tok (endTok (t.en - t.off)) := by
    have := next_last S (t.en - t.off) (by omega) (by rw [hz]; exact gapW_end S _ (by omega))
    rw [hz] at this
    exact this
  exact scan_eq (by omega) (.more (Nat.zero_le _) n0 hk (.last (by show t.en - t.off ≤ _; omega) n1 rfl))

end Go.Proofs.YtplldgkdjainlaaDoor

namespace Go.Proofs.YtplldgkdjainlaaDoor
set_option linter.unusedSimpArgs false
set_option linter.unusedVariables false
open Go.RowKit

def lexLaid : List (String × DataW Unit) := [("math/bits.deBruijn32tab", Rows.laid_math_bits_deBruijn32tab), ("math/bits.deBruijn64tab", Rows.laid_math_bits_deBruijn64tab), ("internal/strconv.uint64pow10", Rows.laid_internal_strconv_uint64pow10), ("strconv.ErrRange", Rows.laid_strconv_ErrRange), ("strconv.ErrSyntax", Rows.laid_strconv_ErrSyntax), ("edict/lex.marks", Rows.laid_edict_lex_marks)]

theorem gMarks : Tryd.prog.globalNamed "edict/lex.marks" = some 2 := by kernel_rfl
theorem gSyn : Tryd.prog.globalNamed "strconv.ErrSyntax" = some 3 := by kernel_rfl
theorem gRng : Tryd.prog.globalNamed "strconv.ErrRange" = some 4 := by kernel_rfl
theorem tMarks : (Tryd.prog.globals[2]?).map (·.type) = some 64 := by kernel_rfl
theorem tSyn : (Tryd.prog.globals[3]?).map (·.type) = some 57 := by kernel_rfl
theorem tRng : (Tryd.prog.globals[4]?).map (·.type) = some 57 := by kernel_rfl

set_option maxRecDepth 100000 in
theorem iface_cells {fuel : Nat} {W : World} {cs : List Value} {n : String} {d : DataW Unit} {p : List MemPlace} {sp : Nat → Bool} {base : Nat}
    (h : DataW.trod (fun _ => ()) Tryd.prog W base sp false fuel 57 cs = some (.iface n d, p)) : ∃ t y, cs = [.iface t y] := by
  cases fuel with
  | zero => simp [DataW.trod] at h
  | succ m =>
    unfold DataW.trod at h
    rw [Tryd.underlying57] at h
    split at h <;> first | exact ⟨_, _, rfl⟩ | simp_all

set_option maxRecDepth 100000 in
theorem struct_cells {fuel : Nat} {W : World} {cs : List Value} {bs : List UInt8} {k op : Int} {p : List MemPlace} {sp : Nat → Bool} {base : Nat}
    (h : DataW.trod (fun _ => ()) Tryd.prog W base sp false fuel 63 cs = some ((.agg [.lit (.string bs), .lit (.int .i64 k), .lit (.int .i64 op)] : DataW Unit), p)) : cs = [.string ⟨bs.toArray⟩, .int .i64 k, .int .i64 op] := by
  obtain ⟨xs, m, rfl, hx, hlen, hn, hel⟩ := DataW.trod_struct Tryd.underlying63 h
  have hc : Tryd.prog.cellsOf 63 = 3 := by kernel_rfl
  have c9 : Tryd.prog.cellsOf 9 = 1 := by kernel_rfl
  have c3 : Tryd.prog.cellsOf 3 = 1 := by kernel_rfl
  rw [hc] at hlen
  have e0 : DataW.trod (fun _ => ()) Tryd.prog W base sp false m 9 ((cs.drop 0).take (Tryd.prog.cellsOf 9)) = xs[0]? := hel 0 _ rfl
  have e1 : DataW.trod (fun _ => ()) Tryd.prog W base sp false m 3 ((cs.drop 1).take (Tryd.prog.cellsOf 3)) = xs[1]? := hel 1 _ rfl
  have e2 : DataW.trod (fun _ => ()) Tryd.prog W base sp false m 3 ((cs.drop 2).take (Tryd.prog.cellsOf 3)) = xs[2]? := hel 2 _ rfl
  rw [c9] at e0
  rw [c3] at e1 e2
  match xs, hn, hx, e0, e1, e2 with
  | [x0, x1, x2], _, hx, e0, e1, e2 =>
    obtain ⟨s, a0, b0, _⟩ := DataW.trod_string Tryd.underlying9 (show _ = some x0 from e0)
    obtain ⟨n1, a1, b1, _⟩ := DataW.trod_int Tryd.underlying3 (show _ = some x1 from e1)
    obtain ⟨n2, a2, b2, _⟩ := DataW.trod_int Tryd.underlying3 (show _ = some x2 from e2)
    simp only [Prod.mk.injEq, DataW.agg.injEq, List.map_cons, List.map_nil, List.cons.injEq, and_true] at hx
    rw [b0, b1, b2] at hx
    simp only [DataW.lit.injEq, Lit.string.injEq, Lit.int.injEq, true_and] at hx
    obtain ⟨⟨h0, h1, h2⟩, _⟩ := hx
    match cs, hlen, a0, a1, a2 with
    | [c0, c1, c2], _, a0, a1, a2 =>
      simp at a0 a1 a2
      rw [a0, a1, a2, h0, ← h1, ← h2]

/-- The data of the table's rows. -/
def markD (m : List UInt8 × Int × Int) : DataW Unit := .agg [.lit (.string m.1), .lit (.int .i64 m.2.1), .lit (.int .i64 m.2.2)]
def marksM : List (List UInt8 × Int × Int) :=
  [([58, 45], 9, 0), ([33, 61], 11, 2), ([60, 61], 11, 4), ([62, 61], 11, 6), ([60], 11, 3), ([62], 11, 5), ([61], 11, 1), ([40], 5, 0), ([41], 6, 0), ([44], 7, 0), ([46], 8, 0)]
theorem marks_data : (Rows.laid_edict_lex_marks : DataW Unit) = .agg (marksM.map markD) := rfl
def mark3 (m : List UInt8 × Int × Int) : List Value := [.string ⟨m.1.toArray⟩, .int .i64 m.2.1, .int .i64 m.2.2]
theorem marksL_eq : marksL = marksM.flatMap mark3 := rfl

theorem flat3_at (ms : List (List UInt8 × Int × Int)) (cs : List Value) (hl : cs.length = ms.length * 3) (h : ∀ i m, ms[i]? = some m → (cs.drop (i * 3)).take 3 = mark3 m) : cs = ms.flatMap mark3 := by
  induction ms generalizing cs with
  | nil => exact List.length_eq_zero_iff.1 (by simpa using hl)
  | cons m r ih =>
    rw [List.flatMap_cons]
    have h0 := h 0 m rfl
    simp only [Nat.zero_mul, List.drop_zero] at h0
    have h1 := ih (cs.drop 3) (by simp [hl]; omega) (fun i m' hm => by
      have := h (i + 1) m' hm
      rw [List.drop_drop]
      rw [show (i + 1) * 3 = 3 + i * 3 by omega] at this
      exact this)
    rw [← h0, ← h1, List.take_append_drop]

theorem laid_lexM {W : World} {l : List (String × DataW Unit)} (h : laidMet Tryd.prog l W) (m1 : ("strconv.ErrRange", Rows.laid_strconv_ErrRange) ∈ l) (m2 : ("strconv.ErrSyntax", Rows.laid_strconv_ErrSyntax) ∈ l) (m3 : ("edict/lex.marks", Rows.laid_edict_lex_marks) ∈ l) : LexLaid W := by
  have r1 := Lib.laidMet.reads h m1
  have r2 := Lib.laidMet.reads h m2
  have r3 := Lib.laidMet.reads h m3
  refine ⟨?_, ?_, ?_⟩
  · obtain ⟨g, t, cs, fuel, p, hg, ht, hv, hd⟩ := r2
    obtain rfl := Option.some.inj (gSyn.symm.trans hg)
    obtain rfl := Option.some.inj (tSyn.symm.trans ht)
    obtain ⟨t, y, hcs⟩ := iface_cells hd
    refine ⟨t, y, ?_⟩
    have := World.var?_cell hg hv 0
    rw [Array.eq_one_of_toList hcs] at this
    simpa using this
  · obtain ⟨g, t, cs, fuel, p, hg, ht, hv, hd⟩ := r1
    obtain rfl := Option.some.inj (gRng.symm.trans hg)
    obtain rfl := Option.some.inj (tRng.symm.trans ht)
    obtain ⟨t, y, hcs⟩ := iface_cells hd
    refine ⟨t, y, ?_⟩
    have := World.var?_cell hg hv 0
    rw [Array.eq_one_of_toList hcs] at this
    simpa using this
  · obtain ⟨g, t, cs, fuel, p, hg, ht, hv, hd⟩ := r3
    obtain rfl := Option.some.inj (gMarks.symm.trans hg)
    obtain rfl := Option.some.inj (tMarks.symm.trans ht)
    obtain ⟨xs, m, rfl, hx, hlen, hn, hel⟩ := DataW.trod_array Tryd.underlying64 hd
    have c61 : Tryd.prog.cellsOf 64 = 33 := by kernel_rfl
    have c60 : Tryd.prog.cellsOf 63 = 3 := by kernel_rfl
    rw [c61] at hlen
    rw [marks_data] at hx
    simp only [Prod.mk.injEq, DataW.agg.injEq] at hx
    have hcs : cs.toList = marksL := by
      rw [marksL_eq]
      refine flat3_at marksM cs.toList (by rw [hlen]; rfl) (fun i mm hm => ?_)
      have hi : i < 11 := (List.getElem?_eq_some_iff.1 hm).1
      have he := hel i hi
      rw [c60] at he
      have hxi : (xs.map (·.1))[i]? = some (markD mm) := by rw [← hx.1, List.getElem?_map, hm]; rfl
      rw [List.getElem?_map] at hxi
      obtain ⟨x, hx1, hx2⟩ := Option.map_eq_some_iff.1 hxi
      rw [hx1] at he
      obtain ⟨d, ps⟩ := x
      simp only at hx2
      subst hx2
      exact struct_cells he
    intro i v hv'
    have := World.var?_cell hg hv i
    rw [← hcs] at hv'
    rw [this]
    simpa using hv'

theorem laid_lex {W : World} (h : laidMetH Tryd.prog lexLaid W) : LexLaid W := by
  rw [MakeChecks.laidMetH_plain _ _ _ (by kernel_rfl)] at h
  exact laid_lexM h (.tail _ (.tail _ (.tail _ (.head _)))) (.tail _ (.tail _ (.tail _ (.tail _ (.head _))))) (.tail _ (.tail _ (.tail _ (.tail _ (.tail _ (.head _))))))
end Go.Proofs.YtplldgkdjainlaaDoor

namespace Go.Proofs.YtplldgkdjainlaaDoor
set_option linter.unusedSimpArgs false
set_option linter.unusedVariables false
open Go.RowKit

def topLaidL : List (String × DataW Unit) := [("math/bits.deBruijn32tab", Rows.laid_math_bits_deBruijn32tab), ("math/bits.deBruijn64tab", Rows.laid_math_bits_deBruijn64tab), ("internal/strconv.uint64pow10", Rows.laid_internal_strconv_uint64pow10), ("strconv.ErrRange", Rows.laid_strconv_ErrRange), ("strconv.ErrSyntax", Rows.laid_strconv_ErrSyntax), ("edict/lex.marks", Rows.laid_edict_lex_marks), ("edict/edicttop.marks", Rows.laid_edict_edicttop_marks), ("edict/edicttop.ops", Rows.laid_edict_edicttop_ops)]

theorem gTopM : Tryd.prog.globalNamed "edict/edicttop.marks" = some 1 := by kernel_rfl
theorem gTopO : Tryd.prog.globalNamed "edict/edicttop.ops" = some 0 := by kernel_rfl
theorem tTopM : (Tryd.prog.globals[1]?).map (·.type) = some 52 := by kernel_rfl
theorem tTopO : (Tryd.prog.globals[0]?).map (·.type) = some 51 := by kernel_rfl

def spellsM : List (List UInt8) := [[], [], [], [], [], [40], [41], [44], [46], [58, 45], [110, 111, 116], []]
def spellsO : List (List UInt8) := [[], [61], [33, 61], [60], [60, 61], [62], [62, 61]]
def strV (b : List UInt8) : Value := .string ⟨b.toArray⟩
def strD (b : List UInt8) : DataW Unit := .lit (.string b)

/-- An array of strings that reads as these texts holds them, cell for cell. -/
theorem strs_cells {n : Nat} {ty : TypeId} {W : World} {base fuel : Nat} {sp : Nat → Bool} {cs : List Value} {p : List MemPlace} {bs : List (List UInt8)} (hu : Tryd.prog.underlying ty = some (.array n 9)) (hn : bs.length = n) (hc : Tryd.prog.cellsOf ty = n)
    (h : DataW.trod (fun _ => ()) Tryd.prog W base sp false fuel ty cs = some ((.agg (bs.map strD) : DataW Unit), p)) : cs = bs.map strV := by
  obtain ⟨xs, m, rfl, hx, hlen, hxn, hel⟩ := DataW.trod_array hu h
  have c9 : Tryd.prog.cellsOf 9 = 1 := by kernel_rfl
  rw [c9] at hel
  rw [hc] at hlen
  simp only [Prod.mk.injEq, DataW.agg.injEq] at hx
  apply List.ext_getElem?
  intro i
  by_cases hi : i < n
  · have he := hel i hi
    rw [Nat.mul_one] at he
    have hxi : (xs.map (·.1))[i]? = (bs.map strD)[i]? := by rw [← hx.1]
    obtain ⟨b, hb⟩ : ∃ b, bs[i]? = some b := ⟨_, List.getElem?_eq_getElem (by omega)⟩
    rw [List.getElem?_map, List.getElem?_map, hb] at hxi
    obtain ⟨x, hx1, hx2⟩ := Option.map_eq_some_iff.1 hxi
    rw [hx1] at he
    obtain ⟨s, a0, b0, -⟩ := DataW.trod_string Tryd.underlying9 he
    rw [b0] at hx2
    simp only [strD, DataW.lit.injEq, Lit.string.injEq] at hx2
    have hci : cs[i]? = some (.string s) := by
      have : ((cs.drop i).take 1)[0]? = some (.string s) := by rw [a0]; rfl
      rw [List.getElem?_take_of_lt (by omega), List.getElem?_drop] at this
      exact this
    rw [hci, List.getElem?_map, hb]
    show _ = some (Value.string ⟨b.toArray⟩)
    rw [← hx2]
  · rw [List.getElem?_eq_none (by omega), List.getElem?_eq_none (by rw [List.length_map]; omega)]

theorem laid_top {W : World} (h : laidMetH Tryd.prog topLaidL W) : LexLaid W ∧ TopLaid W := by
  rw [MakeChecks.laidMetH_plain _ _ _ (by kernel_rfl)] at h
  refine ⟨laid_lexM h (.tail _ (.tail _ (.tail _ (.head _)))) (.tail _ (.tail _ (.tail _ (.tail _ (.head _))))) (.tail _ (.tail _ (.tail _ (.tail _ (.tail _ (.head _)))))), ?_, ?_⟩
  · obtain ⟨g, t, cs, fuel, p, hg, ht, hv, hd⟩ := Lib.laidMet.reads h (show ("edict/edicttop.marks", Rows.laid_edict_edicttop_marks) ∈ topLaidL from .tail _ (.tail _ (.tail _ (.tail _ (.tail _ (.tail _ (.head _)))))))
    obtain rfl := Option.some.inj (gTopM.symm.trans hg)
    obtain rfl := Option.some.inj (tTopM.symm.trans ht)
    have hcs : cs.toList = topMarks := strs_cells (bs := spellsM) Tryd.underlying52 rfl (by kernel_rfl) hd
    intro i v hv'
    have := World.var?_cell hg hv i
    rw [← hcs] at hv'
    rw [this]
    simpa using hv'
  · obtain ⟨g, t, cs, fuel, p, hg, ht, hv, hd⟩ := Lib.laidMet.reads h (show ("edict/edicttop.ops", Rows.laid_edict_edicttop_ops) ∈ topLaidL from .tail _ (.tail _ (.tail _ (.tail _ (.tail _ (.tail _ (.tail _ (.head _))))))))
    obtain rfl := Option.some.inj (gTopO.symm.trans hg)
    obtain rfl := Option.some.inj (tTopO.symm.trans ht)
    have hcs : cs.toList = topOps := strs_cells (bs := spellsO) Tryd.underlying51 rfl (by kernel_rfl) hd
    intro i v hv'
    have := World.var?_cell hg hv i
    rw [← hcs] at hv'
    rw [this]
    simpa using hv'
end Go.Proofs.YtplldgkdjainlaaDoor

namespace Go.Proofs.YtplldgkdjainlaaDoor
set_option linter.unusedSimpArgs false
set_option linter.unusedVariables false
open Go.RowKit

/-- What scanned answers where it gives no token. -/
def NoToks (s : ByteArray) : Prop := ∀ W, LexLaid W → TopLaid W → Calls Tryd.prog 5 #[.string s] W fun e w' => (∃ ao cap c F, e = .returned (.tuple #[.slice ao 0 cap, .agg #[.int .i64 c, .int .i64 0, .int .i64 F], .bool true]) ∧ (c == 0) = false) ∧ Below W.heap.size W w'

set_option maxRecDepth 100000 in
set_option maxHeartbeats 1000000 in
theorem topTokens_none (s : ByteArray) (w : World) (hN : NoToks s) (hl : LexLaid w) (ht : TopLaid w) :
    Calls Tryd.prog 3 #[.string s] w fun e w' => e = .returned (.bool true) ∧ Below w.heap.size w w' := by
  have HS := hide (scan_any headT w hl (by decide))
  have HH := hide headT_scan
  have HN := hide hN
  have HL := hide hl
  have HT := hide ht
  clear hN hl ht
  generalize scanX headT = R at *
  obtain ⟨L0, c0, f0⟩ := R
  obtain ⟨e1, e2, e3⟩ := HH.out
  dsimp only at e1 e2 e3
  subst e2 e3
  clear HH
  change Hid (Calls _ _ _ _ fun e w' => ∃ v, e = .returned (.tuple #[v, faultVal 10 35]) ∧ w'.ownsRow _ 32 6 v L0.length (L0.flatMap cells6) ∧ Below _ _ w') at HS
  rw [e1] at HS
  unfold faultVal at HS
  clear e1
  go_enter Tryd.func3, Tryd.ntmps3
  go_wp2_with (first
    | (go_at_call 4; refine HS.out.mono ?_; rintro e w1 ⟨v, rfl, hown, hb1⟩; obtain ⟨ao, cap, rfl, -, -, -⟩ := own_shape6 hown; have HB1 := hide hb1; clear hown hb1 HS)
    | (go_at_call 5; obtain ⟨Y, hY⟩ : ∃ Y, Y = w1.alloc (.cells #[.int .i64 10, .int .i64 0, .int .i64 35] 25) := ⟨_, rfl⟩; have hbY : Below w1.heap.size w1 Y := (by rw [hY]; exact (Below.refl _ _).alloc (Nat.le_refl _) _); have HFY : Hid (Y.heap[w1.heap.size]? = some (.cells #[.int .i64 10, .int .i64 0, .int .i64 35] 25 (0, 0))) := (by show _ = _; rw [hY]; exact heap_alloc_new w1 _); have HBY := hide (HB1.out.trans (hbY.mono HB1.out.size)); have HOld : Hid (w.heap.size ≤ w1.heap.size) := HB1.out.size; rw [← hY]; clear hY hbY; refine (HN.out Y (HL.out.kept HBY.out) (HT.out.kept HBY.out)).mono ?_; rintro e w2 ⟨⟨ao2, cap2, c, F, rfl, hc⟩, hb2⟩; have e0 := hc; clear hc; have HF2 := hide ((hb2.block _ (Array.getElem?_eq_some_iff.1 HFY.out).1).trans HFY.out); have HB2 := hide (HBY.out.trans (hb2.mono HBY.out.size)); have HYs : Hid (w1.heap.size < Y.heap.size) := (Array.getElem?_eq_some_iff.1 HFY.out).1; clear hb2; obtain ⟨x0, x1, x2, y0, y1, y2⟩ := flt_cells HF2.out))
  have HFZ := hide (flt_put HF2.out (.int .i64 c) (.int .i64 0) (.int .i64 F))
  have HBZ : Hid (Below w.heap.size w (((w2.setCell ⟨w1.heap.size, 0, none⟩ (.int .i64 c)).setCell ⟨w1.heap.size, 1, none⟩ (.int .i64 0)).setCell ⟨w1.heap.size, 2, none⟩ (.int .i64 F))) := ((HB2.out.setCell (p := ⟨w1.heap.size, 0, none⟩) HOld.out _).setCell (p := ⟨w1.heap.size, 1, none⟩) HOld.out _).setCell (p := ⟨w1.heap.size, 2, none⟩) HOld.out _
  generalize (((w2.setCell ⟨w1.heap.size, 0, none⟩ (.int .i64 c)).setCell ⟨w1.heap.size, 1, none⟩ (.int .i64 0)).setCell ⟨w1.heap.size, 2, none⟩ (.int .i64 F)) = Z at *
  clear x0 x1 x2 y0 y1 y2
  obtain ⟨z0, z1, z2, -, -, -⟩ := flt_cells HFZ.out
  go_loopw [6] (fun i wr => i = .int .i64 1 ∧ wr = Z) (fun _ _ => 0)
  case atStart => exact ⟨rfl, rfl⟩
  case round =>
    obtain ⟨rfl, rfl⟩ := hrel
    have hi : ¬ (1 : Int) < 0 := by omega
    go_wp2
    go_ret
    exact ⟨rfl, HBZ.out⟩

theorem alone_two {s : ByteArray} {o : Nat} {t : Tok} (hs : s.size ≤ 65536) (ho : o ≤ s.size) (h : nextX s o = .tok t) (hk : t.k ≠ 0) (W : World) (hW : LexLaid W) :
    Calls Tryd.prog 4 #[.string (s.extract t.off t.en)] W fun e w' => ∃ v, e = .returned (.tuple #[v, .agg #[.int .i64 0, .int .i64 0, .int .i64 0]]) ∧ Below W.heap.size W w' ∧ w'.ownsRow W.heap.size 32 6 v ([⟨t.k, t.t, t.n, t.op, 0, t.en - t.off⟩, endTok (t.en - t.off)] : List Tok).length (([⟨t.k, t.t, t.n, t.op, 0, t.en - t.off⟩, endTok (t.en - t.off)] : List Tok).flatMap cells6) := by
  obtain ⟨_, _, _, h4⟩ := next_tok ho h
  obtain ⟨_, h5, h6⟩ := h4.resolve_left (fun h => hk h.1)
  have hz : (s.extract t.off t.en).size = t.en - t.off := by rw [ByteArray.size_extract]; omega
  have hscan := alone_scan hs ho h hk
  refine (scan_any (s.extract t.off t.en) W hW (by omega)).mono ?_
  rintro e w' ⟨v, he, hown, hbl⟩
  rw [hscan] at he hown
  exact ⟨v, he, hbl, hown⟩


set_option maxRecDepth 100000 in
set_option maxHeartbeats 4000000 in
theorem topTokens_some (s : ByteArray) (w : World) (hs : s.size ≤ 65536) (hL : 0 < (scanX s).1.length) (hl : LexLaid w) (ht : TopLaid w) :
    Calls Tryd.prog 3 #[.string s] w fun e w' => e = .returned (.bool true) ∧ Below w.heap.size w w' := by
  have HS := hide (scan_any headT w hl (by decide))
  have HH := hide headT_scan
  have HSc : Hid (∀ W, LexLaid W → TopLaid W → Calls Tryd.prog 5 #[.string s] W fun e w' => ∃ v, e = .returned (.tuple #[v, faultVal (scanX s).2.1 (scanX s).2.2, .bool true]) ∧ w'.ownsRow W.heap.size 32 6 v (scanX s).1.length ((scanX s).1.flatMap cells6) ∧ Below W.heap.size W w') := fun W a b => scanned_short s W hs a b
  have HTk := hide (scan_toks s hs)
  have HLn := hide hL
  have HL := hide hl
  have HT := hide ht
  clear hl ht hL
  generalize scanX headT = R at *
  obtain ⟨L0, c0, f0⟩ := R
  obtain ⟨e1, e2, e3⟩ := HH.out
  dsimp only at e1 e2 e3
  subst e2 e3
  clear HH
  change Hid (Calls _ _ _ _ fun e w' => ∃ v, e = .returned (.tuple #[v, faultVal 10 35]) ∧ w'.ownsRow _ 32 6 v L0.length (L0.flatMap cells6) ∧ Below _ _ w') at HS
  rw [e1] at HS
  unfold faultVal at HS
  clear e1
  generalize scanX s = R2 at *
  obtain ⟨L, c, f⟩ := R2
  change Hid (∀ W, LexLaid W → TopLaid W → Calls _ _ _ W fun e w' => ∃ v, e = .returned (.tuple #[v, faultVal c f, .bool true]) ∧ w'.ownsRow _ 32 6 v L.length (L.flatMap cells6) ∧ Below _ _ w') at HSc
  change Hid (Toks s 0 L c f) at HTk
  change Hid (0 < L.length) at HLn
  unfold faultVal at HSc
  obtain ⟨F, hF⟩ : ∃ F : Int, F = (f : Int) := ⟨_, rfl⟩
  rw [← hF] at HSc
  clear hF
  have hln := toks_len HTk.out
  obtain ⟨n, hn⟩ : ∃ n, n = L.length := ⟨_, rfl⟩
  have HNn := hide hn
  have hn1 : n ≤ 65537 := by omega
  have hn0 : 0 < n := by have := HLn.out; omega
  rw [← hn] at HSc
  clear hn hln
  go_enter Tryd.func3, Tryd.ntmps3
  go_wp2_with (first
    | (go_at_call 4; refine HS.out.mono ?_; rintro e w1 ⟨v, rfl, hown, hb1⟩; obtain ⟨ao, cap, rfl, -, -, -⟩ := own_shape6 hown; have HB1 := hide hb1; clear hown hb1 HS)
    | (go_at_call 5; obtain ⟨Y, hY⟩ : ∃ Y, Y = w1.alloc (.cells #[.int .i64 10, .int .i64 0, .int .i64 35] 25) := ⟨_, rfl⟩; have hbY : Below w1.heap.size w1 Y := (by rw [hY]; exact (Below.refl _ _).alloc (Nat.le_refl _) _); have HFY : Hid (Y.heap[w1.heap.size]? = some (.cells #[.int .i64 10, .int .i64 0, .int .i64 35] 25 (0, 0))) := (by show _ = _; rw [hY]; exact heap_alloc_new w1 _); have HBY := hide (HB1.out.trans (hbY.mono HB1.out.size)); have HOld : Hid (w.heap.size ≤ w1.heap.size) := HB1.out.size; rw [← hY]; clear hY hbY; have HYs : Hid (w1.heap.size < Y.heap.size) := (Array.getElem?_eq_some_iff.1 HFY.out).1; refine (HSc.out Y (HL.out.kept HBY.out) (HT.out.kept HBY.out)).mono ?_; rintro e w2 ⟨v, rfl, hown, hb2⟩; have hz := own_put3 hown HYs.out (.int .i64 c) (.int .i64 0) (.int .i64 F); obtain ⟨g2, cap2, hv2, -, -, hrow⟩ := own_toks (L := L) (HNn.out ▸ hz) HLn.out; rw [← HNn.out] at hv2; subst hv2; have HRow := hide hrow; clear hown hz hrow; have HF2 := hide ((hb2.block _ (Array.getElem?_eq_some_iff.1 HFY.out).1).trans HFY.out); have HB2 := hide (HBY.out.trans (hb2.mono HBY.out.size)); clear hb2; obtain ⟨x0, x1, x2, y0, y1, y2⟩ := flt_cells HF2.out))
  have HFZ := hide (flt_put HF2.out (.int .i64 c) (.int .i64 0) (.int .i64 F))
  have HBZ : Hid (Below w.heap.size w (((w2.setCell ⟨w1.heap.size, 0, none⟩ (.int .i64 c)).setCell ⟨w1.heap.size, 1, none⟩ (.int .i64 0)).setCell ⟨w1.heap.size, 2, none⟩ (.int .i64 F))) := ((HB2.out.setCell (p := ⟨w1.heap.size, 0, none⟩) HOld.out _).setCell (p := ⟨w1.heap.size, 1, none⟩) HOld.out _).setCell (p := ⟨w1.heap.size, 2, none⟩) HOld.out _
  generalize (((w2.setCell ⟨w1.heap.size, 0, none⟩ (.int .i64 c)).setCell ⟨w1.heap.size, 1, none⟩ (.int .i64 0)).setCell ⟨w1.heap.size, 2, none⟩ (.int .i64 F)) = Z at *
  clear x0 x1 x2 y0 y1 y2
  go_loopw [6] (fun i wr => ∃ k : Nat, k + 1 ≤ n ∧ i = .int .i64 ((k : Int) + 1) ∧ Hid (Below Z.heap.size Z wr)) (fun i _ => n + 1 - (intOf i).toNat)
  case atStart => exact ⟨0, by omega, by go_num, Below.refl _ _⟩
  case round =>
    obtain ⟨k, hk, rfl, HB⟩ := hrel
    by_cases hlt : k + 1 < n
    · have hi : (k : Int) + 1 < (n : Int) := by omega
      obtain ⟨t', ht'⟩ : ∃ t, L[k]? = some t := ⟨_, List.getElem?_eq_getElem (by have := HNn.out; omega)⟩
      obtain ⟨t, ht⟩ : ∃ t, L[k + 1]? = some t := ⟨_, List.getElem?_eq_getElem (by have := HNn.out; omega)⟩
      obtain ⟨hx, hle⟩ := toks_at HTk.out (k + 1) t ht
      rw [endOf_take L k t' ht'] at hx hle
      obtain ⟨hgap, hoff, hge, hcase⟩ := next_tok hle hx
      have hbl := blank_gap s _ hs hle hgap
      rw [← hoff] at hbl
      have hoz : t.off ≤ s.size := by omega
      have HBk := hide (fun W => blank_any s (t'.en : Int) (t.off : Int) W (by omega) (by omega) (by omega))
      rw [hbl] at HBk
      obtain ⟨-, -, -, -, -, c5⟩ := (HRow.out k t' ht').kept HB.out
      obtain ⟨-, -, -, -, d4, -⟩ := (HRow.out (k + 1) t ht).kept HB.out
      clear ht ht' hx hle hgap hoff hge hcase hbl hoz
      go_wp2
      have hk0 : (0 : Int) ≤ (k : Int) := by omega
      have hkn : (k : Int) < (n : Int) := by omega
      have hk3 : (0 : Int) ≤ (k : Int) + 1 := by omega
      have wk : IntKind.i64.wrap ((k : Int) + 1 - 1) = (k : Int) := by rw [IntKind.wrap_i64] <;> omega
      have wk2 : (k : Int) + 1 - 1 = (k : Int) := by omega
      refine wp_region_over (fun W => W = wr) (by kernel_rfl) (by kernel_rfl) rfl ?_
      rintro W rfl
      have v5 := over_cell c5
      have v4 := over_cell d4
      repeat (go_big_quiet_step (first | (go_at_call 6; exact calls_over_same (HBk.out _))))
      refine wpQuiet_nil ?_
      rintro _ ⟨z, rfl⟩
      have HB3 := hide (HB.out.trans ((over_below W z).mono HB.out.size))
      clear c5 d4 v5 v4 wk wk2
      go_wp2
      go_roundw
      case rel => exact ⟨k + 1, by omega, by go_num, HB3⟩
      case measure => simp [intOf]; omega
    · have hi : ¬ (k : Int) + 1 < (n : Int) := by omega
      obtain ⟨z0, z1, z2, -, -, -⟩ := flt_cells (HFZ.out)
      have z0' := kept_cell HB.out z0
      by_cases hc : c = 0
      · subst hc
        clear z1 z2
        go_wp2
        clear hi
        go_loopw [7] (fun i wv => ∃ k : Nat, k < n ∧ i = .int .i64 k ∧ Hid (Below Z.heap.size Z wv)) (fun i _ => n - (intOf i).toNat)
        case atStart => exact ⟨0, by omega, rfl, HB⟩
        case round =>
          clear HB hk hlt z0 z0'
          obtain ⟨k, hk, rfl, HB⟩ := hrel
          by_cases hlt : k + 1 < n
          · have hi : (k : Int) + 1 < (n : Int) := by omega
            obtain ⟨t, ht⟩ : ∃ t, L[k]? = some t := ⟨_, List.getElem?_eq_getElem (by have := HNn.out; omega)⟩
            have htk : t.k ≠ 0 := fun h => by have := toks_k0 HTk.out k t ht h; have := HNn.out; omega
            obtain ⟨hx, hle⟩ := toks_at HTk.out k t ht
            obtain ⟨-, -, -, hcase⟩ := next_tok hle hx
            obtain ⟨-, h5, h6⟩ := hcase.resolve_left (fun h => htk h.1)
            have HS1 := hide (fun W hW => alone_two hs hle hx htk W hW)
            have HTA := hide ((HRow.out k t ht).kept HB.out)
            obtain ⟨c0, c1, c2, c3, c4, c5⟩ := HTA.out
            have g4 : (t.off : Int) ≤ (t.en : Int) := by omega
            have g5 : (t.en : Int) ≤ (s.size : Int) := by omega
            have hk0 : (0 : Int) ≤ (k : Int) := by omega
            have hkn : (k : Int) < (n : Int) := by omega
            clear ht hx hle hcase htk h5 h6
            have HBw := hide (HBZ.out.trans (HB.out.mono HBZ.out.size))
            have HSx : Hid (∀ V : World, Below wr.heap.size wr V → V.cell? ⟨g2, k * 6 + 4, none⟩ = some (.int .i64 (t.off : Int)) ∧ V.cell? ⟨g2, k * 6 + 5, none⟩ = some (.int .i64 (t.en : Int))) := fun V hV => ⟨kept_cell hV c4, kept_cell hV c5⟩
            clear c0 c1 c2 c3 c4 c5
            go_wp2
            obtain ⟨hs0, hs1⟩ := HSx.out wr (Below.refl _ _)
            obtain ⟨M, hM⟩ : ∃ M : List Tok, M = [⟨t.k, t.t, t.n, t.op, 0, t.en - t.off⟩, endTok (t.en - t.off)] := ⟨_, rfl⟩
            rw [← hM] at HS1
            have HM := hide hM
            clear hM
            go_cut [8, 9] (fun ov gv wx => ∃ G base, gv = .pointer (some ⟨G, 0, none⟩) ∧ Hid (wx.heap[G]? = some (.cells #[.int .i64 0, .int .i64 0, .int .i64 0] 25 (0, 0))) ∧ Hid (wx.ownsRow base 32 6 ov M.length (M.flatMap cells6)) ∧ Hid (Below wr.heap.size wr wx))
            case first =>
              go_region_held3 (fun V => V.cell? ⟨g2, k * 6 + 4, none⟩ = some (.int .i64 (t.off : Int)) ∧ V.cell? ⟨g2, k * 6 + 5, none⟩ = some (.int .i64 (t.en : Int)))
                (first
                  | exact HSx.out _ (Below.refl _ _)
                  | exact HSx.out _ ((Below.refl _ wr).drew)
                  | exact HSx.out _ (((Below.refl _ wr).drew).alloc (Nat.le_refl _) _)
                  | exact HSx.out _ ((Below.refl _ wr).alloc (Nat.le_refl _) _)
                  | exact HSx.out _ (((Below.refl _ wr).alloc (Nat.le_refl _) _).drew)
                  | exact HSx.out _ HB3.out
                  | exact HSx.out _ HB3.out.drew
                  | exact HSx.out _ (HB3.out.alloc HB3.out.size _)
                  | exact HSx.out _ (((HB3.out.setCell (Nat.le_refl _) _).setCell (Nat.le_refl _) _).setCell (Nat.le_refl _) _))
                (first
                  | (go_at_call 4; refine (HS1.out wr.drew (HL.out.kept HBw.out.drew)).mono ?_; rintro e w3 ⟨v, rfl, hb3, hrow⟩; have HB3 : Hid (Below wr.heap.size wr w3) := (Below.refl _ wr).drew.trans (hb3.mono (by simp)); have HRw := hide hrow; clear hb3 hrow)
                  | (go_at_call 4; refine (HS1.out (wr.alloc (.cells #[.int .i64 0, .int .i64 0, .int .i64 0] 25)).drew (HL.out.kept (HBw.out.alloc HBw.out.size _).drew)).mono ?_; rintro e w3 ⟨v, rfl, hb3, hrow⟩; have HB3 : Hid (Below wr.heap.size wr w3) := ((Below.refl _ wr).alloc (Nat.le_refl _) _).drew.trans (hb3.mono (by simp)); have HG3 : Hid (w3.heap[wr.heap.size]? = some (.cells #[.int .i64 0, .int .i64 0, .int .i64 0] 25 (0, 0))) := (hb3.block wr.heap.size (by simp)).trans (heap_alloc_new wr _); have HRw := hide hrow; have HSz : Hid (wr.heap.size < (wr.alloc (.cells #[.int .i64 0, .int .i64 0, .int .i64 0] 25)).drew.heap.size) := (by show _ < _; simp); obtain ⟨m0, m1, m2, m3, m4, m5⟩ := flt_cells HG3.out; clear hb3 hrow))
              all_goals (go_wp2; go_meet)
              all_goals first
                | exact ⟨_, _, rfl, heap_alloc_new w3 _, World.ownsRow.alloc HRw.out _, HB3.out.alloc HB3.out.size _⟩
                | exact ⟨_, _, rfl, flt_put HG3.out _ _ _, own_put3 HRw.out HSz.out _ _ _, ((HB3.out.setCell (Nat.le_refl _) _).setCell (Nat.le_refl _) _).setCell (Nat.le_refl _) _⟩
                | trace_state
            case rest =>
              obtain ⟨G, base, rfl, HG, HRw, HBx⟩ := hcut
              clear hs0 hs1 HSx
              obtain ⟨c0, c1, c2, c3, c4, c5⟩ := HTA.out.kept HBx.out
              have hm2 : M.length = 2 := by rw [HM.out]; rfl
              obtain ⟨h2, cp2, hv2, -, -, hrow2⟩ := own_toks HRw.out (by omega)
              rw [hm2] at hv2
              subst hv2
              obtain ⟨d0, d1, d2, d3, d4, d5⟩ := hrow2 0 _ (by rw [HM.out]; rfl)
              rw [Nat.zero_mul] at d0 d1 d2 d3
              rw [Nat.zero_add] at d1 d2 d3
              obtain ⟨x0, x1, x2, -, -, -⟩ := flt_cells HG.out
              clear d4 d5 hm2 hrow2 c4 c5
              go_wp2
              refine wp_region_over (fun W => W = wc) (by kernel_rfl) (by kernel_rfl) rfl ?_
              rintro W rfl
              have v0 := over_cell c0
              have v1 := over_cell c1
              have v2 := over_cell c2
              have v3 := over_cell c3
              have y0 := over_cell d0
              have y1 := over_cell d1
              have y2 := over_cell d2
              have y3 := over_cell d3
              have z0 := over_cell x0
              repeat (go_big_quiet_step (fail))
              refine wpQuiet_nil ?_
              rintro _ ⟨z, rfl⟩
              have HB4 := hide (HB.out.trans ((HBx.out.trans ((over_below W z).mono HBx.out.size)).mono HB.out.size))
              clear v0 v1 v2 v3 y0 y1 y2 y3 z0 c0 c1 c2 c3 d0 d1 d2 d3 x0 x1 x2
              go_wp2
              go_roundw
              case rel => exact ⟨k + 1, by omega, by go_num, HB4⟩
              case measure => simp [intOf]; omega
          · have hi : ¬ (k : Int) + 1 < (n : Int) := by omega
            go_wp2
            go_ret
            exact ⟨rfl, HBZ.out.trans (HB.out.mono HBZ.out.size)⟩
      · have e0 : (c == 0) = false := by simpa using hc
        go_wp2
        go_ret
        exact ⟨rfl, HBZ.out.trans (HB.out.mono HBZ.out.size)⟩

theorem topTokens_walk (s : ByteArray) (w : World) (hs : s.size ≤ 140737488351232) (hl : LexLaid w) (ht : TopLaid w) :
    Calls Tryd.prog 3 #[.string s] w fun e w' => e = .returned (.bool true) ∧ Below w.heap.size w w' := by
  by_cases h : 65536 < s.size
  · refine topTokens_none s w (fun W a b => (scanned_long s W hs h a).mono ?_) hl ht
    rintro e w' ⟨rfl, hb⟩
    exact ⟨⟨none, 0, 1, 0, rfl, rfl⟩, hb⟩
  have h6 : s.size ≤ 65536 := by omega
  by_cases hL : 0 < (scanX s).1.length
  · exact topTokens_some s w h6 hL hl ht
  · refine topTokens_none s w (fun W a b => (scanned_short s W h6 a b).mono ?_) hl ht
    rintro e w' ⟨v, rfl, hown, hb⟩
    have hz : (scanX s).1.length = 0 := by omega
    obtain ⟨ao, cap, rfl, -, -, -⟩ := own_shape6 hown
    rcases toks_endsT (scan_toks s h6) with ⟨k, t, hk, hk2, -⟩ | ⟨-, hx, -⟩
    · omega
    · have := bad_code hx
      exact ⟨⟨ao, cap, (scanX s).2.1, ((scanX s).2.2 : Nat), by rw [hz]; rfl, by simp; omega⟩, hb⟩
end Go.Proofs.YtplldgkdjainlaaDoor
