/- A store that holds the rows C, in order: what is kept from call to call; bring said of it. -/
import Derived.Test.YtcofoddjcgmmkaaProg
import Derived.Test.YtcofoddjcgmmkaaStoreBring
import Derived.Test.YtcofoddjcgmmkaaStoreCells
import Derived.Test.YtcofoddjcgmmkaaStoreMay
import Derived.Test.YtcofoddjcgmmkaaStoreNew
namespace Go.Proofs.Ytcofoddjcgmmkaa
set_option linter.unusedSimpArgs false
set_option linter.unusedVariables false
open Go.RowKit Go.Maps

/-- Tags on blocks that are there alone. -/
def Own.trim (own : Own) (n : Nat) : Own := fun k => if k < n then own k else none
def Own.lim (own : Own) (n : Nat) : Prop := ∀ k, own k ≠ none → k < n
theorem Own.trim_lim (own : Own) (n : Nat) : (own.trim n).lim n := fun k hk => by
  unfold Own.trim at hk
  by_cases h : k < n
  · exact h
  · rw [if_neg h] at hk; exact absurd rfl hk
theorem Turn.trimmed {A : Tag → Prop} {own own' : Own} {w w' : World} (h : Turn A own own' w w') : Turn A own (own'.trim w'.heap.size) w w' :=
  ⟨h.only, fun k hk => by unfold Own.trim; rw [if_pos (Nat.lt_of_lt_of_le hk h.only.size)]; exact h.ext k hk⟩
theorem Raw.trimmed {w : World} {own : Own} {p : Nat} {L : Loc} {S : Sto} (h : Raw w own p L S) : Raw w (own.trim w.heap.size) p L S :=
  h.keep (A := fun _ => False) ⟨Only.refl _ _, fun k hk => by unfold Own.trim; rw [if_pos hk]⟩ (fun _ => id)

/-- The arity of a row's predicate. -/
def arOf (ar : List Int) (c : List Int) : Nat := (ar.getD (c.getD 0 0).toNat 0).toNat

noncomputable def stepS (ar : List Int) (st : Nat × (Lit → List Int) × (Lit → List Int)) (c : List Int) : Nat × (Lit → List Int) × (Lit → List Int) :=
  (st.1 + 1, setL st.2.1 (.int .i64 (c.getD 0 0)) (st.2.1 (.int .i64 (c.getD 0 0)) ++ [(st.1 : Int)]), whF st.2.2 c st.1 (c.getD 0 0) (arOf ar c))
/-- How many rows there are; which ones a predicate has; which ones hold what where. -/
noncomputable def index (ar : List Int) (C : List (List Int)) : Nat × (Lit → List Int) × (Lit → List Int) := C.foldl (stepS ar) (0, fun _ => [], fun _ => [])

theorem index_snoc (ar : List Int) (C : List (List Int)) (c : List Int) : index ar (C ++ [c]) = stepS ar (index ar C) c := by simp [index, List.foldl_append]

theorem snoc_ind {α : Type} {P : List α → Prop} (h0 : P []) (h1 : ∀ l a, P l → P (l ++ [a])) (l : List α) : P l := by
  have h : ∀ l : List α, P l.reverse := fun l => by
    induction l with
    | nil => exact h0
    | cons a r ih => rw [List.reverse_cons]; exact h1 _ _ ih
  have := h l.reverse
  rwa [List.reverse_reverse] at this

theorem index_fst (ar : List Int) (C : List (List Int)) : (index ar C).1 = C.length := by
  refine snoc_ind (P := fun C => (index ar C).1 = C.length) rfl (fun C c ih => ?_) C
  rw [index_snoc]; simp [stepS, ih]

theorem index_len (ar : List Int) (C : List (List Int)) (h : ∀ c ∈ C, arOf ar c ≤ 8) : (∀ l, ((index ar C).2.1 l).length ≤ C.length) ∧ ∀ l, ((index ar C).2.2 l).length ≤ 8 * C.length := by
  revert h
  refine snoc_ind (P := fun C => (∀ c ∈ C, arOf ar c ≤ 8) → (∀ l, ((index ar C).2.1 l).length ≤ C.length) ∧ ∀ l, ((index ar C).2.2 l).length ≤ 8 * C.length) (fun _ => ⟨fun l => by simp [index], fun l => by simp [index]⟩) (fun C c ih h => ?_) C
  obtain ⟨h1, h2⟩ := ih (fun c hc => h c (by simp [hc]))
  rw [index_snoc]
  simp only [stepS, List.length_append, List.length_singleton]
  refine ⟨fun l => ?_, fun l => ?_⟩
  · by_cases e : l = .int .i64 (c.getD 0 0)
    · subst e
      rw [setL_same, List.length_append, List.length_singleton]
      have := h1 (.int .i64 (c.getD 0 0))
      omega
    · rw [setL_other _ _ e]
      have := h1 l
      omega
  · have h3 := whF_len (c := c) (n := ((index ar C).1 : Int)) (q := c.getD 0 0) h2 (arOf ar c) l
    have h4 := h c (by simp)
    omega

/-- A row of a store. -/
def RowOk (ar : List Int) (c : List Int) : Prop := ∃ q l, c = cellsP q l ∧ mayP ar q l = true ∧ I64 q ∧ (∀ x ∈ l, I64 x)

theorem mayP_spec {ar : List Int} {q : Int} {l : List Int} (h : mayP ar q l = true) : ∃ k : Nat, q = k ∧ ar[k]? = some (l.length : Int) ∧ l.any badId = false := by
  simp only [mayP, Bool.and_eq_true, decide_eq_true_eq, Bool.not_eq_true'] at h
  obtain ⟨h1, h2, h3, h4⟩ := h
  exact ⟨q.toNat, by omega, h3, h4⟩

/-- A mark: the first n births lie below b, the others don't. -/
structure Mk where
  n : Nat
  b : Int
def mk0 : Mk := ⟨0, 0⟩
/-- Births rise, and lie below what is to come; they keep to the mark. -/
structure Rises (mk : Mk) (bs : List Int) (born : Int) : Prop where
  up : bs.Pairwise (· < ·)
  lt : ∀ x ∈ bs, 0 ≤ x ∧ x < born
  n : mk.n ≤ bs.length
  b : mk.b ≤ born
  old : ∀ x ∈ bs.take mk.n, x < mk.b
  young : ∀ x ∈ bs.drop mk.n, mk.b ≤ x
theorem Rises.nil : Rises mk0 [] 0 := ⟨List.Pairwise.nil, by simp, by simp [mk0], by simp [mk0], by simp, by simp⟩
theorem Rises.push {mk : Mk} {bs : List Int} {born : Int} (h : Rises mk bs born) (h0 : 0 ≤ born) : Rises mk (bs ++ [born]) (born + 1) where
  up := by
    rw [List.pairwise_append]
    exact ⟨h.up, by simp, fun a ha b hb => by simp only [List.mem_singleton] at hb; subst hb; exact (h.lt a ha).2⟩
  lt := fun x hx => by
    rcases List.mem_append.1 hx with h1 | h1
    · have := h.lt x h1; omega
    · simp only [List.mem_singleton] at h1; omega
  n := by have := h.n; rw [List.length_append]; omega
  b := by have := h.b; omega
  old := fun x hx => by rw [List.take_append_of_le_length h.n] at hx; exact h.old x hx
  young := fun x hx => by
    rw [List.drop_append_of_le_length h.n] at hx
    rcases List.mem_append.1 hx with h1 | h1
    · exact h.young x h1
    · simp only [List.mem_singleton] at h1
      have := h.b
      omega
theorem Rises.base {mk : Mk} {bs : List Int} {born : Int} (h : Rises mk bs born) (h0 : 0 ≤ born) : Rises mk0 bs born := ⟨h.up, h.lt, by simp [mk0], h0, by simp [mk0], fun x hx => (h.lt x (by simpa [mk0] using hx)).1⟩
theorem Rises.take {bs : List Int} {born : Int} (h : Rises mk0 bs born) (h0 : 0 ≤ born) (n : Nat) : Rises mk0 (bs.take n) born :=
  ⟨h.up.sublist (List.take_sublist _ _), fun x hx => h.lt x (List.mem_of_mem_take hx), by simp [mk0], h0, by simp [mk0], fun x hx => (h.lt x (List.mem_of_mem_take (List.mem_of_mem_drop hx))).1⟩
theorem Rises.mark {mk : Mk} {bs : List Int} {born : Int} (h : Rises mk bs born) : Rises ⟨bs.length, born⟩ bs born :=
  ⟨h.up, h.lt, Nat.le_refl _, Int.le_refl _, fun x hx => (h.lt x (List.mem_of_mem_take hx)).2, by simp⟩
variable {mk : Mk}

structure Sane (mk : Mk) (ar : List Int) (C : List (List Int)) (M : Nat) (L : Loc) (S : Sto) : Prop where
  eAr : S.ar = ar
  eC : S.C = C
  arI : ∀ x ∈ ar, 0 ≤ x ∧ x ≤ 8
  arL : ar.length ≤ 128
  ok : ∀ c ∈ C, RowOk ar c
  nd : C.Nodup
  eN : S.N = keyAt litI C
  eO : S.O = (index ar C).2.1
  eW : S.W = (index ar C).2.2
  bs : S.bs.length = C.length
  ks : S.ks.length = C.length
  born : 0 ≤ S.born ∧ S.born ≤ M
  num : C.length ≤ M ∧ L.n1 ≤ M ∧ L.n2 ≤ M ∧ L.n3 ≤ M
  rise : Rises mk S.bs S.born

theorem RowOk.len {ar c : List Int} (h : RowOk ar c) (hI : ∀ x ∈ ar, 0 ≤ x ∧ x ≤ 8) : c.length = 9 ∧ (∀ x ∈ c, I64 x) ∧ ∃ k na : Nat, c[0]? = some (k : Int) ∧ ar[k]? = some (na : Int) ∧ na ≤ 8 ∧ arOf ar c = na ∧ c.getD 0 0 = k := by
  obtain ⟨q, l, rfl, hm, hq, hl⟩ := h
  obtain ⟨k, rfl, ha, _⟩ := mayP_spec hm
  have h8 := hI _ (List.mem_of_getElem? ha)
  refine ⟨cellsP_len (by omega), ?_, k, l.length, rfl, ha, by omega, ?_, rfl⟩
  · intro x hx
    simp only [cellsP, List.mem_cons, List.mem_append, List.mem_replicate] at hx
    rcases hx with rfl | hx | ⟨_, rfl⟩
    · exact hq
    · exact hl x hx
    · exact ⟨by omega, by omega⟩
  · simp [arOf, cellsP, List.getD, ha]

/-- A store at p that holds the rows C. -/
def St (mk : Mk) (w : World) (p : Nat) (own : Own) (ar : List Int) (C : List (List Int)) (M : Nat) : Prop := ∃ L S, Raw w own p L S ∧ Sane mk ar C M L S ∧ own.lim w.heap.size

section
variable {w w' : World} {own : Own} (hk : ∀ k t, own k = some t → w'.heap[k]? = w.heap[k]?)
include hk
theorem RowIs.same {tag : Tag} {e : TypeId} {size : Nat} {v : Value} {n : Nat} {xs : List Value} (h : RowIs w own tag e size v n xs) : RowIs w' own tag e size v n xs := by
  obtain ⟨⟨h1, h2⟩, h3⟩ := h
  rcases h2 with ⟨rfl, h0⟩ | ⟨g, cap, cur, rfl, hb, hh, rest⟩
  · exact ⟨⟨h1, .inl ⟨rfl, h0⟩⟩, h3⟩
  · exact ⟨⟨h1, .inr ⟨g, cap, cur, rfl, hb, by rw [hk g _ (h3 g rfl)]; exact hh, rest⟩⟩, h3⟩
theorem LMap.same {tk ty : TypeId} {P : Program} {tm : Tag} {tl : Lit → Tag} {m n : Nat} {L : Lit → List Int} (h : LMap P tk ty w own tm tl m n L) : LMap P tk ty w' own tm tl m n L := by
  obtain ⟨h1, V, hV, hR⟩ := h
  refine ⟨h1, V, hV.same (hk m _ h1), fun l => ?_⟩
  rcases hR l with h2 | ⟨v, h2, h3, h4⟩
  · exact .inl h2
  · exact .inr ⟨v, h2, h3, h4.same hk⟩
theorem boxAt.same {b : Nat} {cs : List Value} (h : boxAt w own b cs) : boxAt w' own b cs := by
  obtain ⟨h1, t, h2⟩ := h
  exact ⟨h1, t, by rw [hk b _ h1]; exact h2⟩
theorem Raw.same {p : Nat} {L : Loc} {S : Sto} (h : Raw w own p L S) : Raw w' own p L S where
  me := by rw [hk p _ h.tme]; exact h.me
  tme := h.tme
  ar := by
    obtain ⟨ao, cap, h1, h2⟩ := h.ar
    refine ⟨ao, cap, h1, ?_⟩
    rcases h2 with h2 | ⟨b, off, h3, h4, h5⟩
    · exact .inl h2
    · exact .inr ⟨b, off, h3, h4, fun i a hi => by rw [World.cell?_of_block (w := w) (hk b _ h4)]; exact h5 i a hi⟩
  rows := h.rows.same hk
  births := h.births.same hk
  backs := h.backs.same hk
  bk := fun i v hv => by
    obtain ⟨c, h1, b2, b5, b3, b4, q, h2, h3, h4, h5, h6, h7⟩ := h.bk i v hv
    exact ⟨c, h1, b2, b5, b3, b4, q, h2, h3, h4.same hk, h5.same hk, h6.same hk, h7.same hk⟩
  tnums := h.tnums
  nums := h.nums.same (hk _ _ h.tnums)
  of := h.of.same hk
  wh := h.wh.same hk
end

/-- Whatever is done to blocks that are not the store's leaves the store as it is. -/
theorem St.keep {w w' : World} {p : Nat} {own : Own} {ar : List Int} {C : List (List Int)} {M : Nat} (h : St mk w p own ar C M) (ho : Only (fun k => own k = none) w w') : St mk w' p own ar C M := by
  obtain ⟨L, S, hR, hS, hl⟩ := h
  exact ⟨L, S, hR.same (fun k t hk => ho.block k (hl k (by rw [hk]; simp)) (by rw [hk]; simp)), hS, fun k hk => Nat.lt_of_lt_of_le (hl k hk) ho.size⟩
theorem St.below {w w' : World} {p : Nat} {own : Own} {ar : List Int} {C : List (List Int)} {M : Nat} (h : St mk w p own ar C M) (hb : Below w.heap.size w w') : St mk w' p own ar C M := h.keep (Only.of_below hb _)
theorem St.mono {w : World} {p : Nat} {own : Own} {ar : List Int} {C : List (List Int)} {M M' : Nat} (h : St mk w p own ar C M) (hM : M ≤ M') : St mk w p own ar C M' := by
  obtain ⟨L, S, hR, hS, hl⟩ := h
  have := hS.num
  have := hS.born
  exact ⟨L, S, hR, { hS with born := by omega, num := by omega }, hl⟩

/-- A new store, said of its rows. -/
theorem Fresh.st {w w' : World} {v : Value} {l : List Int} (h : Fresh w w' v l) (hl : l.length ≤ 128) (hb : l.any badAr = false) : ∃ p own, v = .pointer (some ⟨p, 0, none⟩) ∧ St mk0 w' p own l [] 0 ∧ (∀ k, own k ≠ none → w.heap.size ≤ k) ∧ Below w.heap.size w w' := by
  obtain ⟨p, own, L, rfl, hR, e1, e2, e3, hk, hB⟩ := h
  refine ⟨p, own.trim w'.heap.size, rfl, ⟨L, _, hR.trimmed, ⟨rfl, rfl, fun x hx => ?_, hl, by simp, by simp, ?_, rfl, rfl, rfl, rfl, by simp, by simp [e1, e2, e3], Rises.nil⟩, Own.trim_lim _ _⟩, fun k hk' => hk k (fun e => hk' ?_), hB⟩
  · have h1 : badAr x = false := by
      have := List.any_eq_false.1 hb x hx
      simpa using this
    simp only [badAr, Bool.or_eq_false_iff, decide_eq_false_iff_not] at h1
    omega
  · funext a i
    simp [keyAt]
  · unfold Own.trim
    split
    · exact e
    · rfl

/-- bring, said of the rows. -/
theorem bring_st {w : World} {p : Nat} {own : Own} {ar : List Int} {C : List (List Int)} {M : Nat} (h : St mk w p own ar C M) (hM : M < 549755813888) {c : List Int} (hc : RowOk ar c) (hn : c ∉ C) :
    Calls Try.prog 28 #[.pointer (some ⟨p, 0, none⟩), .agg (ints c).toArray] w fun e w' => e = .returned (.tuple #[]) ∧ ∃ own', St mk w' p own' ar (C ++ [c]) (M + 8) ∧ Turn (fun _ => True) own own' w w' := by
  obtain ⟨L, S, hR, hS, hlim⟩ := h
  obtain ⟨h9, hI, k, na, h0, ha, h8, harO, hg0⟩ := hc.len hS.arI
  have hnum := hS.num
  have hborn := hS.born
  have hlen := index_len ar C (fun c hc => by obtain ⟨_, _, k, na, _, _, h8, e, _⟩ := (hS.ok c hc).len hS.arI; omega)
  refine (bring_any hR h9 hI h0 (n := C.length) (by rw [hS.eC]) (by omega) hS.bs hS.ks (by omega) (by omega) ⟨by rw [hS.eN, hS.eC], fun c' hc' e => ?_⟩ ⟨by rw [hS.eO]; exact hlen.1, by rw [hS.eW]; exact hlen.2⟩ (na := na) ⟨by rw [hS.eAr]; exact ha, h8⟩).mono ?_
  · rw [hS.eC] at hc'
    obtain ⟨h9', hI', _⟩ := (hS.ok c' hc').len hS.arI
    exact hn (litI_inj9 h9' h9 hI' hI e ▸ hc')
  · rintro e w' ⟨rfl, own', L', ks', hR', hk', e1, e2, e3, hT⟩
    refine ⟨rfl, own'.trim w'.heap.size, ⟨L', _, hR'.trimmed, ?_, Own.trim_lim _ _⟩, hT.trimmed⟩
    refine ⟨hS.eAr, by rw [hS.eC], hS.arI, hS.arL, ?_, ?_, by rw [hS.eC], ?_, ?_, by simp [hS.bs], by simp [hk'], ?_, ?_, hS.rise.push hborn.1⟩
    · intro c' hc'
      rcases List.mem_append.1 hc' with h | h
      · exact hS.ok c' h
      · simp only [List.mem_singleton] at h; subst h; exact hc
    · rw [List.nodup_append]
      refine ⟨hS.nd, by simp, fun a ha b hb e => ?_⟩
      simp only [List.mem_singleton] at hb
      subst hb; subst e
      exact hn ha
    · rw [index_snoc]
      simp only [stepS, index_fst, hg0, hS.eO]
    · rw [index_snoc]
      simp only [stepS, index_fst, hg0, hS.eW, harO]
    · simp only
      omega
    · simp only [List.length_append, List.length_singleton]
      omega

/-- The mark of what there is by now; and none. -/
theorem St.mark {w : World} {p : Nat} {own : Own} {ar : List Int} {C : List (List Int)} {M : Nat} (h : St mk w p own ar C M) : ∃ b : Int, w.cell? ⟨p, 4, none⟩ = some (.int .i64 b) ∧ 0 ≤ b ∧ St ⟨C.length, b⟩ w p own ar C M := by
  obtain ⟨L, S, hR, hS, hl⟩ := h
  refine ⟨S.born, hR.c4, hS.born.1, L, S, hR, ?_, hl⟩
  have := hS.rise.mark
  rw [hS.bs] at this
  exact { hS with rise := this }
theorem St.base {w : World} {p : Nat} {own : Own} {ar : List Int} {C : List (List Int)} {M : Nat} (h : St mk w p own ar C M) : St mk0 w p own ar C M := by
  obtain ⟨L, S, hR, hS, hl⟩ := h
  exact ⟨L, S, hR, { hS with rise := hS.rise.base hS.born.1 }, hl⟩
end Go.Proofs.Ytcofoddjcgmmkaa
