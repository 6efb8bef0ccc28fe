/- Walks by way of the first k predicates; a table of them that is filled up; the table in memory. -/
import Derived.Test.YtjifhmlfnnagcaaAloneInts
import Derived.Test.YtjifhmlfnnagcaaWalkLeave
import Derived.Test.YtjifhmlfnnagcaaGraphNew2
namespace Go.Proofs.Ytjifhmlfnnagcaa
set_option linter.unusedSimpArgs false
set_option linter.unusedVariables false
open Go.RowKit Go.Maps

/-- A walk of one edge or more from i to j, all between below k. -/
inductive Wk (E : Nat → Nat → Prop) (k : Nat) : Nat → Nat → Prop
  | edge {i j : Nat} : E i j → Wk E k i j
  | comp {i m j : Nat} : Wk E k i m → m < k → Wk E k m j → Wk E k i j

theorem Wk.split {E : Nat → Nat → Prop} {k i j : Nat} (h : Wk E (k + 1) i j) : Wk E k i j ∨ (Wk E k i k ∧ Wk E k k j) := by
  induction h with
  | edge e => exact .inl (.edge e)
  | @comp i m j _ hm _ ih1 ih2 =>
    rcases Nat.lt_or_ge m k with hlt | hge
    · rcases ih1 with a | ⟨a, b⟩ <;> rcases ih2 with c | ⟨c, d⟩
      · exact .inl (.comp a hlt c)
      · exact .inr ⟨.comp a hlt c, d⟩
      · exact .inr ⟨a, .comp b hlt c⟩
      · exact .inr ⟨a, d⟩
    · obtain rfl : m = k := by omega
      rcases ih1 with a | ⟨a, _⟩ <;> rcases ih2 with c | ⟨_, d⟩
      · exact .inr ⟨a, c⟩
      · exact .inr ⟨a, d⟩
      · exact .inr ⟨a, c⟩
      · exact .inr ⟨a, d⟩
theorem Wk.reach {n : Nat} {T : Nat → Nat → Bool} {i j : Nat} (h : Wk (Ed n T) n i j) : Reach (Ed n T) i j := by
  induction h with
  | edge e => exact .one e
  | comp _ _ _ a b => exact a.trans b
theorem reach_wk {n : Nat} {T : Nat → Nat → Bool} {i j : Nat} (h : Reach (Ed n T) i j) : i = j ∨ Wk (Ed n T) n i j := by
  induction h with
  | refl => exact .inl rfl
  | tail _ e ih =>
    rcases ih with rfl | ih
    · exact .inr (.edge e)
    · exact .inr (.comp ih e.1 (.edge e))

/-- The table says no more than there is. -/
def Snd (n : Nat) (T f : Nat → Nat → Bool) : Prop := ∀ i j, f i j = true → Wk (Ed n T) n i j
/-- It says all walks by way of those below k; of rows below i those by way of k too; of row i the columns below j. -/
def Cmp3 (n : Nat) (T f : Nat → Nat → Bool) (k i j : Nat) : Prop :=
  ∀ a b, a < n → b < n → (Wk (Ed n T) k a b → f a b = true) ∧ (a < i ∨ (a = i ∧ b < j) → Wk (Ed n T) (k + 1) a b → f a b = true)
def updTb (f : Nat → Nat → Bool) (i j : Nat) : Nat → Nat → Bool := fun a b => if a = i ∧ b = j then true else f a b

theorem updTb_mono {f : Nat → Nat → Bool} {i j a b : Nat} (h : f a b = true) : updTb f i j a b = true := by
  unfold updTb; split
  · rfl
  · exact h
theorem updTb_at (f : Nat → Nat → Bool) (i j : Nat) : updTb f i j i j = true := by simp [updTb]
theorem Snd.upd {n : Nat} {T f : Nat → Nat → Bool} (h : Snd n T f) {i j : Nat} (hw : Wk (Ed n T) n i j) : Snd n T (updTb f i j) := fun a b e => by
  unfold updTb at e
  split at e
  · next hc => obtain ⟨rfl, rfl⟩ := hc; exact hw
  · exact h a b e
theorem Cmp3.upd {n : Nat} {T f : Nat → Nat → Bool} {k i j : Nat} (h : Cmp3 n T f k i j) (a b : Nat) : Cmp3 n T (updTb f a b) k i j := fun c d hc hd => ⟨fun e => updTb_mono ((h c d hc hd).1 e), fun e1 e2 => updTb_mono ((h c d hc hd).2 e1 e2)⟩
/-- One column further. -/
theorem Cmp3.col {n : Nat} {T f : Nat → Nat → Bool} {k i j : Nat} (h : Cmp3 n T f k i j) (hk : k < n) (hj : j < n) (hs : f k j = true → f i j = true) : Cmp3 n T f k i (j + 1) := fun a b ha hb => ⟨(h a b ha hb).1, fun e w => by
  rcases e with e | ⟨rfl, e⟩
  · exact (h a b ha hb).2 (.inl e) w
  · rcases Nat.lt_or_ge b j with hlt | hge
    · exact (h a b ha hb).2 (.inr ⟨rfl, hlt⟩) w
    · obtain rfl : b = j := by omega
      rcases w.split with w1 | ⟨_, w2⟩
      · exact (h a b ha hb).1 w1
      · exact hs ((h k b hk hb).1 w2)⟩
/-- A row at whose place k nothing stands. -/
theorem Cmp3.skip {n : Nat} {T f : Nat → Nat → Bool} {k i : Nat} (h : Cmp3 n T f k i 0) (hk : k < n) (hi : i < n) (hf : f i k = false) : Cmp3 n T f k (i + 1) 0 := fun a b ha hb => ⟨(h a b ha hb).1, fun e w => by
  rcases e with e | ⟨_, e⟩
  · rcases Nat.lt_or_ge a i with hlt | hge
    · exact (h a b ha hb).2 (.inl hlt) w
    · obtain rfl : a = i := by omega
      rcases w.split with w1 | ⟨w1, _⟩
      · exact (h a b ha hb).1 w1
      · have := (h a k ha hk).1 w1
        rw [hf] at this; cases this
  · omega⟩
theorem Cmp3.row {n : Nat} {T f : Nat → Nat → Bool} {k i : Nat} (h : Cmp3 n T f k i n) : Cmp3 n T f k (i + 1) 0 := fun a b ha hb => ⟨(h a b ha hb).1, fun e w => by
  rcases e with e | ⟨_, e⟩
  · rcases Nat.lt_or_ge a i with hlt | hge
    · exact (h a b ha hb).2 (.inl hlt) w
    · exact (h a b ha hb).2 (.inr ⟨by omega, hb⟩) w
  · omega⟩
theorem Cmp3.next {n : Nat} {T f : Nat → Nat → Bool} {k : Nat} (h : Cmp3 n T f k n 0) : Cmp3 n T f (k + 1) 0 0 := fun a b ha hb => ⟨fun w => (h a b ha hb).2 (.inl ha) w, fun e => by omega⟩
theorem tab_done {n : Nat} {T f : Nat → Nat → Bool} (hs : Snd n T f) (hc : Cmp3 n T f n 0 0) {i j : Nat} (hi : i < n) (hj : j < n) : f i j = true ↔ Wk (Ed n T) n i j := ⟨hs i j, (hc i j hi hj).1⟩
theorem lnkT_take {es : List Edg} {k : Nat} {x : Edg} (hx : es[k]? = some x) (u v : Nat) : lnkT (es.take (k + 1)) u v = (lnkT (es.take k) u v || isE u v x) := by
  unfold lnkT
  rw [take_snoc8 hx, List.any_append]
  simp
theorem wk_zero {E : Nat → Nat → Prop} {i j : Nat} (h : Wk E 0 i j) : E i j := by
  cases h with
  | edge e => exact e
  | comp _ hm _ => omega

/-- A row's slice. -/
def slN (n g : Nat) : Value := .slice (some ⟨g, 0, none⟩) n n
/-- A table of n rows of n answers: the outer list one's own, the rows in blocks gs. -/
structure TabAt (base : Nat) (w : World) (tv : Value) (n : Nat) (gs : List Nat) (f : Nat → Nat → Bool) : Prop where
  grow : Grow elSl 43 base w tv (gs.map (slN n))
  nd : gs.Nodup
  row : ∀ (k g : Nat), gs[k]? = some g → w.rowIs g 4 n (fun j => .bool (f k j)) ∧ base ≤ g ∧ tv.ownBlock ≠ some g

theorem TabAt.kept {base : Nat} {w w' : World} {tv : Value} {n : Nat} {gs : List Nat} {f : Nat → Nat → Bool} (h : TabAt base w tv n gs f) (hb : Below w.heap.size w w') : TabAt base w' tv n gs f :=
  ⟨h.grow.kept hb, h.nd, fun k g hk => by obtain ⟨h1, h2⟩ := h.row k g hk; exact ⟨h1.of_block (hb.block _ h1.lt), h2⟩⟩
theorem TabAt.drew {base : Nat} {w : World} {tv : Value} {n : Nat} {gs : List Nat} {f : Nat → Nat → Bool} (h : TabAt base w tv n gs f) : TabAt base w.drew tv n gs f := h.kept (Below.refl _ _).drew
theorem TabAt.congr {base : Nat} {w : World} {tv : Value} {n : Nat} {gs : List Nat} {f f' : Nat → Nat → Bool} (h : TabAt base w tv n gs f) (e : ∀ i j, i < gs.length → j < n → f i j = f' i j) : TabAt base w tv n gs f' :=
  ⟨h.grow, h.nd, fun k g hk => by obtain ⟨h1, h2⟩ := h.row k g hk; exact ⟨h1.congr fun j hj => by rw [e k j (List.getElem?_eq_some_iff.1 hk).1 hj], h2⟩⟩
theorem heap_set_ne (w : World) {g b : Nat} (j : Nat) (v : Value) (h : b ≠ g) : (w.setCell ⟨g, j, none⟩ v).heap[b]? = w.heap[b]? := by
  simp [World.setCell, Array.getElem?_modify, Ne.symm h]
theorem grown_set (w : World) (g j : Nat) (v : Value) : w.grownBy (w.setCell ⟨g, j, none⟩ v) (some g) :=
  ⟨rfl, rfl, rfl, by simp [World.setCell], fun k _ hne => heap_set_ne w j v fun e => hne (by rw [e])⟩
theorem TabAt.set {base : Nat} {w : World} {tv : Value} {n : Nat} {gs : List Nat} {f : Nat → Nat → Bool} (h : TabAt base w tv n gs f) {i g : Nat} (hi : gs[i]? = some g) (j : Nat) : TabAt base (w.setCell ⟨g, j, none⟩ (.bool true)) tv n gs (updTb f i j) := by
  refine ⟨growI_other (fun x hx _ _ => h.grow.2 x hx) h.grow (grown_set w g j _) (.inr (h.row i g hi).2.2), h.nd, fun k g' hk => ?_⟩
  obtain ⟨h1, h2, h3⟩ := h.row k g' hk
  by_cases e : k = i
  · subst e
    rw [hi] at hk
    cases hk
    refine ⟨(h1.set j (.bool true)).congr fun c _ => ?_, h2, h3⟩
    unfold updTb
    by_cases e2 : c = j
    · rw [if_pos e2, if_pos ⟨rfl, e2⟩]
    · rw [if_neg e2, if_neg fun hc => e2 hc.2]
  · have hne : g' ≠ g := fun e3 => by
      subst e3
      have hk1 := (List.getElem?_eq_some_iff.1 hk)
      have hi1 := (List.getElem?_eq_some_iff.1 hi)
      obtain ⟨hk2, hk3⟩ := hk1
      obtain ⟨hi2, hi3⟩ := hi1
      have hp := List.pairwise_iff_getElem.1 h.nd
      rcases Nat.lt_or_gt_of_ne e with hlt | hlt
      · exact hp k i hk2 hi2 hlt (hk3.trans hi3.symm)
      · exact hp i k hi2 hk2 hlt (hi3.trans hk3.symm)
    refine ⟨(h1.of_block (heap_set_ne w j _ hne)).congr fun c _ => ?_, h2, h3⟩
    unfold updTb
    rw [if_neg fun hc => e hc.1]
/-- Where its rows stand. -/
theorem TabAt.outer {base : Nat} {w : World} {tv : Value} {n : Nat} {gs : List Nat} {f : Nat → Nat → Bool} (h : TabAt base w tv n gs f) (hp : 0 < gs.length) : ∃ gt cap, tv = .slice (some ⟨gt, 0, none⟩) gs.length cap ∧ ∀ (k g : Nat), gs[k]? = some g → w.cell? ⟨gt, k, none⟩ = some (slN n g) := by
  obtain ⟨gt, cap, hv, -, -⟩ := h.grow.1.form (by rw [List.length_map]; exact hp)
  rw [List.length_map] at hv
  have hg := h.grow
  rw [hv] at hg
  exact ⟨gt, cap, hv, fun k g hk => sl_at hg (by rw [List.getElem?_map, hk]; rfl)⟩
theorem TabAt.push {base : Nat} {w w' : World} {tv tv' : Value} {n : Nat} {gs : List Nat} {f : Nat → Nat → Bool} {g : Nat} (h : TabAt base w tv n gs f) (hg : w.grownBy w' tv.ownBlock) (hG : Grow elSl 43 base w' tv' (gs.map (slN n) ++ [slN n g])) (hat : tv'.ownBlock = tv.ownBlock ∨ ∀ k, tv'.ownBlock = some k → w.heap.size ≤ k)
    (hr : w.rowIs g 4 n (fun j => .bool (f gs.length j))) (hb : base ≤ g) (hne : tv.ownBlock ≠ some g) (hnew : g ∉ gs) : TabAt base w' tv' n (gs ++ [g]) f := by
  have key : ∀ (k x : Nat), w.rowIs x 4 n (fun j => .bool (f k j)) → base ≤ x → tv.ownBlock ≠ some x → w'.rowIs x 4 n (fun j => .bool (f k j)) ∧ base ≤ x ∧ tv'.ownBlock ≠ some x := fun k x h1 h2 h3 => by
    refine ⟨h1.of_block (hg.block x h1.lt fun e => h3 e.symm), h2, fun e => ?_⟩
    rcases hat with h4 | h4
    · exact h3 (by rw [← h4]; exact e)
    · have := h4 x e; have := h1.lt; omega
  refine ⟨by rw [List.map_append]; exact hG, List.nodup_append.2 ⟨h.nd, by simp, fun a ha b hb e => ?_⟩, fun k x hk => ?_⟩
  · simp only [List.mem_singleton] at hb
    subst hb
    subst e
    exact hnew ha
  · rcases Nat.lt_or_ge k gs.length with hlt | hge
    · rw [List.getElem?_append_left hlt] at hk
      obtain ⟨h1, h2, h3⟩ := h.row k x hk
      exact key k x h1 h2 h3
    · rw [List.getElem?_append_right hge] at hk
      rcases Nat.eq_zero_or_pos (k - gs.length) with h0 | h0
      · rw [h0] at hk
        obtain rfl : g = x := Option.some.inj hk
        obtain rfl : k = gs.length := by omega
        exact key _ g hr hb hne
      · rw [List.getElem?_eq_none (by simp; omega)] at hk; cases hk
theorem TabAt.lt {base : Nat} {w : World} {tv : Value} {n : Nat} {gs : List Nat} {f : Nat → Nat → Bool} (h : TabAt base w tv n gs f) {g : Nat} (hg : g ∈ gs) : g < w.heap.size := by
  obtain ⟨k, hk⟩ := List.getElem?_of_mem hg
  exact (h.row k g hk).1.lt
end Go.Proofs.Ytjifhmlfnnagcaa
