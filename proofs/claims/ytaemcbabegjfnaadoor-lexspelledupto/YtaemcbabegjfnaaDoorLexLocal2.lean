/- Gaps and chains of tokens in a text that agrees with another one up to a place: no program in sight. -/
import Derived.Test.YtaemcbabegjfnaaDoorLexLocal
namespace Go.Proofs.YtaemcbabegjfnaaDoor
set_option linter.unusedSimpArgs false
set_option linter.unusedVariables false
open Go.RowKit

theorem blockC_pre {l l' : List UInt8} {d j m : Nat} (h : blockC d l = some j) (hj : j ≤ m) (ha : Agree l l' m) : blockC d l' = some j := by
  have h1 := blockC_take _ l d j m rfl h hj
  have h2 := blockC_append (l'.drop m) _ (l.take m) d j rfl h1
  rw [← ha.take, List.take_append_drop] at h2
  exact h2

theorem agree_cons {a : UInt8} {r l' : List UInt8} {n : Nat} (ha : Agree (a :: r) l' (n + 1)) : ∃ r', l' = a :: r' ∧ Agree r r' n := by
  have e := ha 0 (by omega)
  match l', e with
  | [], e => simp at e
  | b :: r', e =>
    have : b = a := by simpa using e
    subst this
    exact ⟨r', rfl, fun i hi => by simpa using ha (i + 1) (by omega)⟩

theorem lineC_pre : ∀ (l l' : List UInt8), lineC l < l.length → Agree l l' (lineC l + 1) → lineC l' = lineC l
  | [], _, h, _ => by simp at h
  | b :: r, l', h, ha => by
    obtain ⟨r', rfl, ha'⟩ := agree_cons ha
    unfold lineC at h ha' ⊢
    split
    · rfl
    · next hb =>
      rw [if_neg hb] at h ha'
      rw [lineC_pre r r' (by simp at h; omega) ha']

theorem item_pre {l l' : List UInt8} {k : Nat} (h : item l = .go k) (hk : k < l.length) (ha : Agree l l' (k + 1)) : item l' = .go k := by
  match l, h, hk, ha with
  | a :: r, h, hk, ha =>
    obtain ⟨r', rfl, ha'⟩ := agree_cons ha
    rw [item_cons] at h ⊢
    split
    · next hb => rw [if_pos hb] at h; exact h
    · next hb =>
      rw [if_neg hb] at h
      split
      · next h37 =>
        rw [if_pos h37] at h
        injection h with h
        subst h
        simp at hk
        rw [lineC_pre r r' hk ha']
      · next h37 =>
        rw [if_neg h37] at h
        split at h
        · next ho =>
          cases hbc : blockC 1 (r.drop 1) with
          | none => rw [hbc] at h; cases h
          | some x =>
            rw [hbc] at h
            injection h with h
            subst h
            have ho' : opens (a :: r') = true := by
              rw [← opens_take (m := 2) (Nat.le_refl _), (ha.mono (m := 2) (by omega)).take, opens_take (Nat.le_refl _)]; exact ho
            rw [if_pos ho', blockC_pre hbc (m := x + 2 - 1) (by omega) (ha'.drop 1)]
        · cases h

theorem item_start {a : UInt8} (h : Start a) (r : List UInt8) : item (a :: r) = .stop := by
  obtain ⟨h1, h2, h3⟩ := h
  rw [item_cons, if_neg (by rw [h1]; simp), if_neg h2, if_neg]
  intro ho
  match r, ho with
  | b :: r, ho =>
    have : (a == 47 && b == 42) = true := ho
    simp at this
    exact h3 this.1

theorem gap_pre : ∀ (N : Nat) (l l' : List UInt8) (n : Nat), l.length = N → gapN l = (n, true) → n < l.length → (∀ a, l[n]? = some a → Start a) → Agree l l' (n + 1) → gapN l' = (n, true) := by
  intro N
  induction N using Nat.strongRecOn with
  | ind N ih =>
    intro l l' n hl h hn hst ha
    have hzero : n = 0 → item l = .stop ∧ gapN l' = (0, true) := by
      rintro rfl
      match l, hn, hst, ha with
      | a :: r, _, hst, ha =>
        obtain ⟨r', rfl, _⟩ := agree_cons ha
        have := hst a (by simp)
        exact ⟨item_start this r, gapN_stop (item_start this r')⟩
    cases hi : item l with
    | stop =>
      rw [gapN_stop hi] at h
      cases h
      exact (hzero rfl).2
    | bad => rw [gapN_bad hi] at h; cases h
    | go k =>
      by_cases hk : 0 < k ∧ k ≤ l.length
      · rw [gapN_go hi hk.1 hk.2] at h
        have h1 : (gapN (l.drop k)).1 + k = n := congrArg Prod.fst h
        have h2 : (gapN (l.drop k)).2 = true := congrArg Prod.snd h
        have hd := ih (l.drop k).length (by simp; omega) (l.drop k) (l'.drop k) (gapN (l.drop k)).1 rfl (Prod.ext rfl h2) (by simp; omega)
          (fun a e => hst a (by rw [List.getElem?_drop] at e; rw [← e]; congr 1; omega)) ((ha.drop k).mono (by omega))
        have hlen := ha.len (by omega)
        rw [gapN_go (item_pre hi (by omega) (ha.mono (by omega))) hk.1 (by omega), hd]
        exact Prod.ext h1 rfl
      · rw [gapN, hi] at h
        simp only at h
        rw [dif_neg hk] at h
        cases h
        exact (hzero rfl).2

theorem gap_take_bad : ∀ (N : Nat) (l : List UInt8) (n : Nat), l.length = N → gapN l = (n, false) → gapN (l.take n) = (n, true) := by
  intro N
  induction N using Nat.strongRecOn with
  | ind N ih =>
    intro l n hl h
    cases hi : item l with
    | stop => rw [gapN_stop hi] at h; cases h
    | bad => rw [gapN_bad hi] at h; cases h; rw [List.take_zero]; exact gapN_stop rfl
    | go k =>
      by_cases hk : 0 < k ∧ k ≤ l.length
      · rw [gapN_go hi hk.1 hk.2] at h
        have h1 : (gapN (l.drop k)).1 + k = n := congrArg Prod.fst h
        have h2 : (gapN (l.drop k)).2 = false := congrArg Prod.snd h
        have hd := ih (l.drop k).length (by simp; omega) (l.drop k) (gapN (l.drop k)).1 rfl (Prod.ext rfl h2)
        have hle : n ≤ l.length := by
          have := gapN_len (l.drop k)
          simp at this
          omega
        rw [gapN_go (item_take hi (by omega) hk.1) hk.1 (by rw [List.length_take]; omega), List.drop_take, show n - k = (gapN (l.drop k)).1 by omega, hd]
        exact Prod.ext h1 rfl
      · rw [gapN, hi] at h
        simp only at h
        rw [dif_neg hk] at h
        cases h

theorem next_pre {s s' : ByteArray} {o o' : Nat} {t : Tok} (ho : o ≤ s.size) (h : nextX s o = .tok t) (hk : t.k ≠ 0) (ha : Agree (rest s o) (rest s' o') (t.en - o)) (hs : Safe (rest s o) (rest s' o') (t.en - o)) :
    nextX s' o' = .tok ⟨t.k, t.t, t.n, t.op, o' + (t.off - o), o' + (t.en - o)⟩ := by
  obtain ⟨h1, h2, h3, h4⟩ := next_tok ho h
  obtain ⟨_, h5, h6⟩ := h4.resolve_left (fun h => hk h.1)
  have hg : t.off = o + (gapN (rest s o)).1 := h2
  obtain ⟨n, hn⟩ : ∃ n, n = (gapN (rest s o)).1 := ⟨_, rfl⟩
  have hgn : gapN (rest s o) = (n, true) := Prod.ext hn.symm h1
  rw [← hn] at hg
  have hgw : gapW s o = (o + n, true) := by unfold gapW; rw [hgn]
  unfold nextX at h
  rw [hgw] at h
  simp only [if_true] at h
  have hA : Agree (rest s (o + n)) (rest s' (o' + n)) (t.en - (o + n)) := by
    rw [← rest_drop, ← rest_drop]
    have := ha.drop n
    rw [show t.en - o - n = t.en - (o + n) by omega] at this
    exact this
  have hS : Safe (rest s (o + n)) (rest s' (o' + n)) (t.en - (o + n)) := by
    rw [← rest_drop, ← rest_drop]
    have := hs.drop (k := n) (by omega)
    rw [show t.en - o - n = t.en - (o + n) by omega] at this
    exact this
  obtain ⟨ht, hlt, hst⟩ := tokAt_pre (by omega) h hk hA hS
  have hg' : gapN (rest s' o') = (n, true) := by
    refine gap_pre _ (rest s o) _ n rfl hgn (by rw [rest_len]; omega) (fun a e => ?_) (ha.mono (by omega))
    rw [nth_byte s o n hlt] at e
    have : s[o + n] = a := Option.some.inj e
    rw [← this]; exact hst
  unfold nextX gapW
  rw [hg']
  simp only [if_true]
  rw [ht, show o' + n + (t.en - (o + n)) = o' + (t.en - o) by omega, show o' + (t.off - o) = o' + n by omega]

theorem toks_det {s : ByteArray} {o : Nat} {L : List Tok} {c : Int} {f : Nat} (h : Toks s o L c f) : ∀ {L' c' f'}, Toks s o L' c' f' → L' = L ∧ c' = c ∧ f' = f := by
  induction h with
  | bad h1 h2 =>
    intro L' c' f' h'
    cases h' with
    | bad _ k2 => rw [h2] at k2; injection k2 with a b; exact ⟨rfl, a.symm, b.symm⟩
    | last _ k2 _ => rw [h2] at k2; cases k2
    | more _ k2 _ _ => rw [h2] at k2; cases k2
  | last h1 h2 h3 =>
    intro L' c' f' h'
    cases h' with
    | bad _ k2 => rw [h2] at k2; cases k2
    | last _ k2 _ => rw [h2] at k2; injection k2 with a; subst a; exact ⟨rfl, rfl, rfl⟩
    | more _ k2 k3 _ => rw [h2] at k2; injection k2 with a; subst a; exact absurd h3 k3
  | more h1 h2 h3 h4 ih =>
    intro L' c' f' h'
    cases h' with
    | bad _ k2 => rw [h2] at k2; cases k2
    | last _ k2 k3 => rw [h2] at k2; injection k2 with a; subst a; exact absurd k3 h3
    | more _ k2 k3 k4 =>
      rw [h2] at k2
      injection k2 with a
      subst a
      obtain ⟨e1, e2, e3⟩ := ih k4
      exact ⟨by rw [e1], e2, e3⟩

theorem scan_eq {s : ByteArray} {L : List Tok} {c : Int} {f : Nat} (hs : s.size ≤ 65536) (h : Toks s 0 L c f) : scanX s = (L, c, f) := by
  obtain ⟨e1, e2, e3⟩ := toks_det h (scan_toks s hs)
  exact Prod.ext e1 (Prod.ext e2 e3)

/-- s' begins as s does, up to m; behind that stands nothing, or a blank, or what stands in s too. -/
structure Pre (s s' : ByteArray) (m : Nat) : Prop where
  le : m ≤ s.size
  le' : m ≤ s'.size
  same : ∀ i, i < m → s'.data.toList[i]? = s.data.toList[i]?
  behind : ∀ b, s'.data.toList[m]? = some b → s.data.toList[m]? = some b ∨ b = 10 ∨ b = 32

theorem Pre.agree {s s' : ByteArray} {m : Nat} (h : Pre s s' m) {o e : Nat} (he : e ≤ m) : Agree (rest s o) (rest s' o) (e - o) := fun i hi => by
  unfold rest
  rw [List.getElem?_drop, List.getElem?_drop]
  exact h.same _ (by omega)
theorem Pre.safe {s s' : ByteArray} {m : Nat} (h : Pre s s' m) {o e : Nat} (ho : o ≤ e) (he : e ≤ m) : Safe (rest s o) (rest s' o) (e - o) := fun b hb => by
  unfold rest at hb ⊢
  rw [List.getElem?_drop, show o + (e - o) = e by omega] at hb ⊢
  by_cases h1 : e = m
  · subst h1; exact h.behind b hb
  · exact .inl (by rw [← h.same e (by omega)]; exact hb)

theorem Pre.next {s s' : ByteArray} {m o : Nat} {t : Tok} (hp : Pre s s' m) (ho : o ≤ s.size) (h : nextX s o = .tok t) (hk : t.k ≠ 0) (he : t.en ≤ m) : nextX s' o = .tok t ∧ o ≤ t.off ∧ t.off < t.en := by
  obtain ⟨_, _, h3, h4⟩ := next_tok ho h
  obtain ⟨_, h5, _⟩ := h4.resolve_left (fun h => hk h.1)
  refine ⟨?_, h3, h5⟩
  rw [next_pre ho h hk (hp.agree he) (hp.safe (by omega) he), show o + (t.off - o) = t.off by omega, show o + (t.en - o) = t.en by omega]

theorem toks_more {s s' : ByteArray} (hp : Pre s s' s.size) {o : Nat} {L : List Tok} {c : Int} {f : Nat} (h : Toks s o L c f) : c = 0 → ∃ r c' f', Toks s' o (L.dropLast ++ r) c' f' := by
  induction h with
  | bad h1 h2 => intro hc; have := next_bad h2; omega
  | last h1 h2 h3 =>
    intro _
    obtain ⟨r, c, f, _, T⟩ := each_toks s' _ _ [] rfl (Nat.le_trans h1 hp.le')
    exact ⟨r, c, f, T⟩
  | more h1 h2 h3 h4 ih =>
    intro hc
    obtain ⟨r, c', f', T⟩ := ih hc
    have h0 := (toks_zero h4 hc).2.1
    refine ⟨r, c', f', ?_⟩
    rw [List.dropLast_cons_of_ne_nil (List.ne_nil_of_length_pos h0), List.cons_append]
    exact .more (Nat.le_trans h1 hp.le') (hp.next h1 h2 h3 h4.le).1 h3 T

theorem pre_append (s m : ByteArray) : Pre s (s ++ ⟨#[10]⟩ ++ m) s.size where
  le := Nat.le_refl _
  le' := by rw [ByteArray.size_append, ByteArray.size_append]; omega
  same i hi := by
    rw [ByteArray.data_append, ByteArray.data_append, Array.toList_append, Array.toList_append, List.append_assoc, List.getElem?_append_left (by simpa using hi)]
  behind b hb := by
    rw [ByteArray.data_append, ByteArray.data_append, Array.toList_append, Array.toList_append, List.append_assoc, List.getElem?_append_right (by simp)] at hb
    simp at hb
    exact .inr (.inl hb.symm)

theorem pre_extract (s : ByteArray) (m : Nat) (h : m ≤ s.size) : Pre s (s.extract 0 m) m := by
  have e : (s.extract 0 m).data.toList = s.data.toList.take m := by
    rw [ByteArray.data_extract, Array.toList_extract, List.extract_eq_take_drop, List.drop_zero, Nat.sub_zero]
  have hz : (s.extract 0 m).size = m := by rw [ByteArray.size_extract]; omega
  exact ⟨h, by omega, fun i hi => by rw [e, List.getElem?_take_of_lt hi], fun b hb => by rw [e, List.getElem?_take_eq_none (Nat.le_refl _)] at hb; cases hb⟩

theorem toks_ends {s : ByteArray} {o : Nat} {L : List Tok} {c : Int} {f : Nat} (h : Toks s o L c f) : o ≤ endOf o L := by
  induction h with
  | bad _ _ => exact Nat.le_refl _
  | last h1 h2 h3 =>
    rename_i o t
    have := next_tok h1 h2
    show o ≤ t.en
    omega
  | more h1 h2 h3 h4 ih =>
    rename_i o t r c f
    obtain ⟨_, _, a, b⟩ := next_tok h1 h2
    show o ≤ endOf t.en r
    omega

theorem rest_cut (s : ByteArray) (o m : Nat) : rest (s.extract 0 m) o = (rest s o).take (m - o) := by
  unfold rest
  rw [ByteArray.data_extract, Array.toList_extract, List.extract_eq_take_drop, List.drop_zero, Nat.sub_zero, List.drop_take]

theorem next_last (s : ByteArray) (o : Nat) (ho : o ≤ s.size) (h : gapW s o = (s.size, true)) : nextX s o = .tok (endTok s.size) := by
  unfold nextX
  rw [h]
  simp only [if_true]
  unfold tokAt
  rw [dif_neg (by omega)]
  rfl

theorem gap_cut (s : ByteArray) (o : Nat) (ho : o ≤ s.size) : gapW (s.extract 0 (gapW s o).1) o = ((gapW s o).1, true) := by
  have e : (gapW s o).1 = o + (gapN (rest s o)).1 := rfl
  unfold gapW at e ⊢
  simp only at e ⊢
  rw [rest_cut, show o + (gapN (rest s o)).1 - o = (gapN (rest s o)).1 by omega]
  have : gapN ((rest s o).take (gapN (rest s o)).1) = ((gapN (rest s o)).1, true) := by
    cases hb : (gapN (rest s o)).2 with
    | true => exact gap_take _ (rest s o) _ rfl (Prod.ext rfl hb)
    | false => exact gap_take_bad _ (rest s o) _ rfl (Prod.ext rfl hb)
  rw [this]

/-- Cut off ahead of its fault a text has the same tokens, and then its end. -/
theorem toks_first {s : ByteArray} {o : Nat} {L : List Tok} {c : Int} {f : Nat} (h : Toks s o L c f) : c ≠ 0 → Toks (s.extract 0 (gapW s (endOf o L)).1) o (L ++ [endTok (gapW s (endOf o L)).1]) 0 0 := by
  induction h with
  | bad h1 h2 =>
    rename_i o c f
    intro _
    have hg := gapW_le s o h1
    have hz : (s.extract 0 (gapW s o).1).size = (gapW s o).1 := by rw [ByteArray.size_extract]; omega
    have hc := gap_cut s o h1
    show Toks (s.extract 0 (gapW s o).1) o [endTok (gapW s o).1] 0 0
    have := next_last (s.extract 0 (gapW s o).1) o (by omega) (by rw [hz]; exact hc)
    rw [hz] at this
    exact .last (by omega) this rfl
  | last h1 h2 h3 => intro hc; exact absurd rfl hc
  | more h1 h2 h3 h4 ih =>
    rename_i o t r c f
    intro hc
    have T := ih hc
    have hb := toks_bad h4 hc
    have hg := gapW_le s _ hb.2.1
    have he := toks_ends h4
    have hp := pre_extract s (gapW s (endOf t.en r)).1 hg.2
    have hn := hp.next h1 h2 h3 (by omega)
    refine .more ?_ hn.1 h3 T
    have := hp.le'
    show o ≤ (s.extract 0 (gapW s (endOf t.en r)).1).size
    omega

theorem textF_cut {s : ByteArray} {g f : Nat} (hf : f ≤ s.size) : ∀ (N j : Nat) (vs : List Int), s.size - (g + j) = N → textF s g (g + j) vs = .bad 12 f → textF (s.extract 0 f) g (g + j) vs = .bad 11 g ∧ g + j ≤ f ∧ f < s.size := by
  have hp := pre_extract s f hf
  have hz : (s.extract 0 f).size = f := by rw [ByteArray.size_extract]; omega
  intro N
  induction N using Nat.strongRecOn with
  | ind N ih =>
    intro j vs hN h
    rw [textF] at h
    split at h
    · next hlt =>
      split at h
      · injection h with h _; cases h
      · next h32 =>
        split at h
        · cases h
        · next h34 =>
          split at h
          · next h92 =>
            split at h
            · injection h with _ h
              refine ⟨?_, by omega, by omega⟩
              rw [textF, dif_neg (by omega)]
            · next hn0 =>
              split at h
              · injection h with h _; cases h
              · next h255 =>
                obtain ⟨r1, r2, r3⟩ := ih (s.size - (g + (j + (escX (s.extract (g + j) s.size)).2.toNat))) (by omega) (j + (escX (s.extract (g + j) s.size)).2.toNat) _ rfl (by rw [← Nat.add_assoc]; exact h)
                have ha : Agree (rest s g) (rest (s.extract 0 f) g) (f - g) := hp.agree (Nat.le_refl _)
                obtain ⟨hlt', hb⟩ := byte_pre ha (j := j) (by omega) hlt
                refine ⟨?_, by omega, r3⟩
                rw [textF, dif_pos hlt', hb, if_neg h32, if_neg h34, if_pos h92]
                have hesc : escX ((s.extract 0 f).extract (g + j) (s.extract 0 f).size) = escX (s.extract (g + j) s.size) := by
                  refine escX_pre (fun e => hn0 (by rw [e]; rfl)) ?_
                  rw [extract_rest, extract_rest, ← rest_drop, ← rest_drop]
                  exact (ha.drop j).mono (by omega)
                rw [hesc, dif_neg hn0, if_neg h255, Nat.add_assoc]
                exact r1
          · next h92 =>
            split at h
            · injection h with h _; cases h
            · next h255 =>
              obtain ⟨r1, r2, r3⟩ := ih (s.size - (g + (j + 1))) (by omega) (j + 1) _ rfl (by rw [← Nat.add_assoc]; exact h)
              have ha : Agree (rest s g) (rest (s.extract 0 f) g) (f - g) := hp.agree (Nat.le_refl _)
              obtain ⟨hlt', hb⟩ := byte_pre ha (j := j) (by omega) hlt
              refine ⟨?_, by omega, r3⟩
              rw [textF, dif_pos hlt', hb, if_neg h32, if_neg h34, if_neg h92, if_neg h255, Nat.add_assoc]
              exact r1
    · injection h with h _; cases h

theorem tokAt_cut {s : ByteArray} {g f : Nat} (h : tokAt s g = .bad 12 f) : tokAt (s.extract 0 f) g = .bad 11 g ∧ g < f ∧ ∃ hlt : g < s.size, Start s[g] := by
  have hbd := tokAt_bad h
  have hlt : g < s.size := hbd.1
  have hn256 := s[g].toNat_lt
  unfold tokAt at h
  rw [dif_pos hlt] at h
  split at h
  · unfold wordX at h
    simp only at h
    repeat' split at h
    all_goals first | (injection h with h1 h2; cases h1; done) | (cases h; done)
  · next hw =>
    split at h
    · unfold intX at h
      split at h
      · cases h
      · injection h with h _; cases h
    · split at h
      · next h34 =>
        obtain ⟨r1, r2, r3⟩ := textF_cut (g := g) (by omega) _ 1 [] rfl h
        have hp := pre_extract s f (by omega)
        have ha : Agree (rest s g) (rest (s.extract 0 f) g) (f - g) := hp.agree (Nat.le_refl _)
        obtain ⟨hlt', hb⟩ := byte_pre ha (j := 0) (by omega) hlt
        simp only [Nat.add_zero] at hlt' hb
        refine ⟨?_, by omega, hlt, start_of (start_beg ⟨_, hn256⟩ (.inr (.inr h34)))⟩
        unfold tokAt
        rw [dif_pos hlt', hb, if_neg hw, beg_rest, if_neg, if_pos h34]
        · exact r1
        · unfold begL
          rw [first_byte _ g hlt', hb]
          simp only [Option.getD_some]
          rw [h34]
          simp [bDig]
      · unfold punctX at h
        cases hq : punctL marksT (rest s g) with
        | none => rw [hq] at h; injection h with h _; cases h
        | some x => obtain ⟨n, k, op⟩ := x; rw [hq] at h; cases h

theorem next_cut {s : ByteArray} {o f : Nat} (ho : o ≤ s.size) (h : nextX s o = .bad 12 f) : nextX (s.extract 0 f) o = .bad 11 (gapW s o).1 ∧ (gapW s o).1 < f ∧ f < s.size := by
  have hb := next_bad h
  obtain ⟨h1, _, _, _, h5, _⟩ := hb.resolve_left (fun h => by omega)
  obtain ⟨n, hn⟩ : ∃ n, n = (gapN (rest s o)).1 := ⟨_, rfl⟩
  have hgn : gapN (rest s o) = (n, true) := Prod.ext hn.symm h1
  have hgw : gapW s o = (o + n, true) := by unfold gapW; rw [hgn]
  unfold nextX at h
  rw [hgw] at h ⊢
  simp only [if_true] at h
  obtain ⟨r1, r2, hlt, hst⟩ := tokAt_cut h
  have hp := pre_extract s f (by omega)
  have ha : Agree (rest s o) (rest (s.extract 0 f) o) (f - o) := hp.agree (Nat.le_refl _)
  have hg' : gapN (rest (s.extract 0 f) o) = (n, true) := by
    refine gap_pre _ (rest s o) _ n rfl hgn (by rw [rest_len]; omega) (fun a e => ?_) (ha.mono (by omega))
    rw [nth_byte s o n hlt] at e
    have : s[o + n] = a := Option.some.inj e
    rw [← this]; exact hst
  refine ⟨?_, r2, h5⟩
  unfold nextX gapW
  rw [hg']
  simp only [if_true]
  exact r1

/-- Cut off at an escape that is none a text has the same tokens, and a text that is not closed. -/
theorem toks_escape {s : ByteArray} {o : Nat} {L : List Tok} {c : Int} {f : Nat} (h : Toks s o L c f) : c = 12 → Toks (s.extract 0 f) o L 11 (gapW s (endOf o L)).1 ∧ (gapW s (endOf o L)).1 < f ∧ f < s.size := by
  induction h with
  | bad h1 h2 =>
    rename_i o c f
    rintro rfl
    obtain ⟨r1, r2, r3⟩ := next_cut h1 h2
    have hg := gapW_le s o h1
    have hz : (s.extract 0 f).size = f := by rw [ByteArray.size_extract]; omega
    exact ⟨.bad (by omega) r1, r2, r3⟩
  | last h1 h2 h3 => intro hc; cases hc
  | more h1 h2 h3 h4 ih =>
    rename_i o t r c f
    intro hc
    obtain ⟨T, r2, r3⟩ := ih hc
    have hb := toks_bad h4 (by omega)
    have hg := gapW_le s _ hb.2.1
    have he := toks_ends h4
    have hp := pre_extract s f (by omega)
    have hn := hp.next h1 h2 h3 (by omega)
    have hz := hp.le'
    exact ⟨.more (by omega) hn.1 h3 T, r2, r3⟩

/-- The fault's place, but for escapes, is where the gap ends. -/
theorem toks_place {s : ByteArray} {o : Nat} {L : List Tok} {c : Int} {f : Nat} (h : Toks s o L c f) (hc : c ≠ 0) : f < s.size ∧ (c ≠ 12 → f = (gapW s (endOf o L)).1) := by
  obtain ⟨h1, h2, _⟩ := toks_bad h hc
  rcases next_bad h1 with ⟨a, b, d⟩ | ⟨a, _, _, _, d, e⟩
  · have := gap_bad_lt s _ h2 a
    exact ⟨by omega, fun _ => d⟩
  · exact ⟨d, e⟩

/-- A token's spelling, alone, is that token. -/
theorem alone_scan {s : ByteArray} {o : Nat} {t : Tok} (hs : s.size ≤ 65536) (ho : o ≤ s.size) (h : nextX s o = .tok t) (hk : t.k ≠ 0) :
    scanX (s.extract t.off t.en) = ([⟨t.k, t.t, t.n, t.op, 0, t.en - t.off⟩, endTok (t.en - t.off)], 0, 0) := by
  obtain ⟨h1, h2, h3, h4⟩ := next_tok ho h
  obtain ⟨_, h5, h6⟩ := h4.resolve_left (fun h => hk h.1)
  have hg : nextX s o = tokAt s t.off := by unfold nextX; rw [h1, ← h2]; rfl
  rw [hg] at h
  have hz : (s.extract t.off t.en).size = t.en - t.off := by rw [ByteArray.size_extract]; omega
  have hr : rest (s.extract t.off t.en) 0 = (rest s t.off).take (t.en - t.off) := by
    have := extract_list s t.off (t.en - t.off)
    rw [show t.off + (t.en - t.off) = t.en by omega] at this
    unfold rest at this ⊢
    rw [List.drop_zero]; exact this
  have ha : Agree (rest s t.off) (rest (s.extract t.off t.en) 0) (t.en - t.off) := fun i hi => by rw [hr, List.getElem?_take_of_lt hi]
  have hsf : Safe (rest s t.off) (rest (s.extract t.off t.en) 0) (t.en - t.off) := fun b hb => by rw [hr, List.getElem?_take_eq_none (Nat.le_refl _)] at hb; cases hb
  obtain ⟨r1, hlt, hst⟩ := tokAt_pre (by omega) h hk ha hsf
  rw [Nat.zero_add] at r1
  generalize hS : s.extract t.off t.en = S at *
  have hg0 : gapW S 0 = (0, true) := by
    obtain ⟨hlt', hb⟩ := byte_pre ha (j := 0) (by omega) hlt
    simp only [Nat.add_zero] at hlt' hb
    unfold gapW
    rw [rest_cons S 0 hlt', hb, gapN_stop (item_start hst _)]
    rfl
  have n0 : nextX S 0 = .tok ⟨t.k, t.t, t.n, t.op, 0, t.en - t.off⟩ := by
    unfold nextX
    rw [hg0]
    simp only [if_true]
    exact r1
  have n1 : nextX S (t.en - t.off) = .tok (endTok (t.en - t.off)) := by
    have := next_last S (t.en - t.off) (by omega) (by rw [hz]; exact gapW_end S _ (by omega))
    rw [hz] at this
    exact this
  exact scan_eq (by omega) (.more (Nat.zero_le _) n0 hk (.last (by show t.en - t.off ≤ _; omega) n1 rfl))

end Go.Proofs.YtaemcbabegjfnaaDoor
