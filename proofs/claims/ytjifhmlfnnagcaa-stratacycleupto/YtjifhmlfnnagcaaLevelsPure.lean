/- The least levels, said over predicates alone. -/
import Derived.Test.YtjifhmlfnnagcaaApartPure
namespace Go.Proofs.Ytjifhmlfnnagcaa
set_option linter.unusedSimpArgs false
set_option linter.unusedVariables false
open Go.RowKit Go.Maps

/-- The level that the links from below k into q ask for. -/
def askV (T N : Nat → Nat → Bool) (X : Nat → Int) (q : Nat) : Nat → Int
  | 0 => 0
  | k + 1 => if N k q then max (askV T N X q k) (X k + 1) else if T k q then max (askV T N X q k) (X k) else askV T N X q k

theorem askV_nonneg (T N : Nat → Nat → Bool) (X : Nat → Int) (q : Nat) : ∀ k, 0 ≤ askV T N X q k
  | 0 => by simp [askV]
  | k + 1 => by
    have := askV_nonneg T N X q k
    unfold askV
    split
    · omega
    · split <;> omega
theorem askV_le {T N : Nat → Nat → Bool} {X : Nat → Int} {q : Nat} {b : Int} (hb : 0 ≤ b) : ∀ k, (∀ u, u < k → N u q = true → X u + 1 ≤ b) → (∀ u, u < k → T u q = true → X u ≤ b) → askV T N X q k ≤ b
  | 0, _, _ => by simpa [askV] using hb
  | k + 1, h1, h2 => by
    have ih := askV_le hb k (fun u hu => h1 u (by omega)) (fun u hu => h2 u (by omega))
    unfold askV
    split
    · rename_i h; have := h1 k (by omega) h; omega
    · split
      · rename_i h; have := h2 k (by omega) h; omega
      · exact ih
theorem le_askV {T N : Nat → Nat → Bool} {X : Nat → Int} {q u : Nat} : ∀ {k}, u < k → (N u q = true → X u + 1 ≤ askV T N X q k) ∧ (T u q = true → X u ≤ askV T N X q k)
  | 0, h => by omega
  | k + 1, h => by
    rcases Nat.lt_or_ge u k with hl | hl
    · obtain ⟨h1, h2⟩ := le_askV (T := T) (N := N) (X := X) (q := q) hl
      have hs : askV T N X q k ≤ askV T N X q (k + 1) := by
        conv => rhs; unfold askV
        split
        · omega
        · split <;> omega
      exact ⟨fun hh => Int.le_trans (h1 hh) hs, fun hh => Int.le_trans (h2 hh) hs⟩
    · obtain rfl : u = k := by omega
      unfold askV
      constructor
      · intro hh; rw [if_pos hh]; omega
      · intro hh
        split <;> omega

/-- A level mapping: what every link asks. -/
structure Sol (n : Nat) (T N : Nat → Nat → Bool) (f : Nat → Int) : Prop where
  nn : ∀ u, u < n → 0 ≤ f u
  le : ∀ u v, u < n → v < n → T u v = true → f u ≤ f v
  lt : ∀ u v, u < n → v < n → N u v = true → f u + 1 ≤ f v
/-- The least one. -/
structure Least (n : Nat) (T N : Nat → Nat → Bool) (X : Nat → Int) : Prop extends Sol n T N X where
  least : ∀ f, Sol n T N f → ∀ u, u < n → X u ≤ f u
theorem Least.uniq {n : Nat} {T N : Nat → Nat → Bool} {X Y : Nat → Int} (h : Least n T N X) (k : Least n T N Y) : ∀ u, u < n → X u = Y u := fun u hu => by
  have := h.least Y k.toSol u hu
  have := k.least X h.toSol u hu
  omega

theorem Sol.reach {n : Nat} {T N : Nat → Nat → Bool} {f : Nat → Int} (h : Sol n T N f) {a b : Nat} (hr : Reach (Ed n T) a b) : f a ≤ f b := by
  induction hr with
  | refl => exact Int.le_refl _
  | tail _ e ih => exact Int.le_trans ih (h.le _ _ e.1 e.2.1 e.2.2)

/-- Levels told of the components reps.take i. -/
structure LvInv (n : Nat) (T N : Nat → Nat → Bool) (H : Nat → Int) (reps : List Nat) (i : Nat) (X : Nat → Int) : Prop where
  rest : ∀ p, p < n → dn H reps i p = false → X p = 0
  nn : ∀ p, p < n → 0 ≤ X p ∧ X p ≤ i
  le : ∀ u v, u < n → v < n → dn H reps i v = true → T u v = true → dn H reps i u = true ∧ X u ≤ X v
  lt : ∀ u v, u < n → v < n → dn H reps i v = true → N u v = true → X u + 1 ≤ X v
  least : ∀ f, Sol n T N f → ∀ p, p < n → dn H reps i p = true → X p ≤ f p

theorem LvInv.start (n : Nat) (T N : Nat → Nat → Bool) (H : Nat → Int) (reps : List Nat) : LvInv n T N H reps 0 (fun _ => 0) :=
  ⟨fun _ _ _ => rfl, fun _ _ => ⟨by omega, by omega⟩, fun u v _ _ h => by unfold dn at h; simp at h, fun u v _ _ h => by unfold dn at h; simp at h, fun f _ p _ h => by unfold dn at h; simp at h⟩

theorem LvInv.next {n : Nat} {T N : Nat → Nat → Bool} {H : Nat → Int} {reps : List Nat} {i r : Nat} {X : Nat → Int} {m : Int} (h : LvInv n T N H reps i X) (hH : ∀ v, v < n → LeastOf (Ed n T) v (H v)) (hg : Greedy n T H reps) (hr : reps[i]? = some r)
    (hNT : ∀ u v, N u v = true → T u v = true) (hno : ∀ u v, u < n → v < n → N u v = true → H u ≠ H v)
    (hm0 : 0 ≤ m) (hm1 : ∀ p ∈ memL H n r, askV T N X p n ≤ m) (hm2 : m = 0 ∨ ∃ p ∈ memL H n r, askV T N X p n = m) :
    LvInv n T N H reps (i + 1) (fun p => if H p = (r : Int) then m else X p) := by
  have hp0 := fun p (hp : p < n) => (home_self hH hp).2.1
  have hsucc : ∀ p, p < n → (dn H reps (i + 1) p = true ↔ dn H reps i p = true ∨ H p = (r : Int)) := fun p hp => by
    rw [← dn_succ hp0 hr p hp]
    unfold dnL
    simp [mem_memL, hp]
  have hnot : ∀ p, p < n → H p = (r : Int) → dn H reps i p = false := fun p hp e => by
    have := dn_new (L := []) hg.nd hr e (by simp)
    unfold dnL at this
    simpa using this
  have hready := (hg.step i r hr).1
  have hin : ∀ u v, u < n → v < n → T u v = true → H v = (r : Int) → H u = (r : Int) ∨ dn H reps i u = true := fun u v hu hv ht hvr => by
    by_cases e : H u = H v
    · left; rw [e, hvr]
    · right
      have := hready u v hu hv ht e hvr
      unfold dn
      simpa using this
  have hX0 : ∀ p, p < n → H p = (r : Int) → X p = 0 := fun p hp e => h.rest p hp (hnot p hp e)
  refine ⟨fun p hp hd => ?_, fun p hp => ?_, fun u v hu hv hd ht => ?_, fun u v hu hv hd ht => ?_, fun f hf p hp hd => ?_⟩
  · have h1 : ¬ (dn H reps i p = true ∨ H p = (r : Int)) := fun hc => by rw [(hsucc p hp).2 hc] at hd; cases hd
    have h2 : H p ≠ (r : Int) := fun e => h1 (.inr e)
    show (if H p = (r : Int) then m else X p) = 0
    rw [if_neg h2]
    refine h.rest p hp ?_
    cases hh : dn H reps i p with
    | false => rfl
    | true => exact absurd (.inl hh) h1
  · show 0 ≤ (if H p = (r : Int) then m else X p) ∧ (if H p = (r : Int) then m else X p) ≤ ((i + 1 : Nat) : Int)
    split
    · refine ⟨hm0, ?_⟩
      rcases hm2 with e | ⟨q, hq, e⟩
      · omega
      · rw [← e]
        refine askV_le (by omega) n (fun u hu hn => ?_) (fun u hu ht => ?_)
        · have := (h.nn u hu).2; omega
        · have := (h.nn u hu).2; omega
    · have := h.nn p hp; omega
  · show dn H reps (i + 1) u = true ∧ (if H u = (r : Int) then m else X u) ≤ (if H v = (r : Int) then m else X v)
    rcases (hsucc v hv).1 hd with hdv | hvr
    · obtain ⟨h1, h2⟩ := h.le u v hu hv hdv ht
      have hv2 : H v ≠ (r : Int) := fun e => by rw [hnot v hv e] at hdv; cases hdv
      have hu2 : H u ≠ (r : Int) := fun e => by rw [hnot u hu e] at h1; cases h1
      rw [if_neg hv2, if_neg hu2]
      exact ⟨(hsucc u hu).2 (.inl h1), h2⟩
    · rw [if_pos hvr]
      rcases hin u v hu hv ht hvr with hur | hdu
      · rw [if_pos hur]; exact ⟨(hsucc u hu).2 (.inr hur), Int.le_refl _⟩
      · have hu2 : H u ≠ (r : Int) := fun e => by rw [hnot u hu e] at hdu; cases hdu
        rw [if_neg hu2]
        refine ⟨(hsucc u hu).2 (.inl hdu), Int.le_trans ((le_askV (T := T) (N := N) (X := X) (q := v) hu).2 ht) (hm1 v (mem_memL.2 ⟨hv, hvr⟩))⟩
  · show (if H u = (r : Int) then m else X u) + 1 ≤ (if H v = (r : Int) then m else X v)
    rcases (hsucc v hv).1 hd with hdv | hvr
    · obtain ⟨h1, -⟩ := h.le u v hu hv hdv (hNT u v ht)
      have hv2 : H v ≠ (r : Int) := fun e => by rw [hnot v hv e] at hdv; cases hdv
      have hu2 : H u ≠ (r : Int) := fun e => by rw [hnot u hu e] at h1; cases h1
      rw [if_neg hv2, if_neg hu2]
      exact h.lt u v hu hv hdv ht
    · have hu2 : H u ≠ (r : Int) := fun e => hno u v hu hv ht (by rw [e, hvr])
      rw [if_pos hvr, if_neg hu2]
      exact Int.le_trans ((le_askV (T := T) (N := N) (X := X) (q := v) hu).1 ht) (hm1 v (mem_memL.2 ⟨hv, hvr⟩))
  · show (if H p = (r : Int) then m else X p) ≤ f p
    rcases (hsucc p hp).1 hd with hdp | hpr
    · have hp2 : H p ≠ (r : Int) := fun e => by rw [hnot p hp e] at hdp; cases hdp
      rw [if_neg hp2]
      exact h.least f hf p hp hdp
    · rw [if_pos hpr]
      rcases hm2 with e | ⟨q, hq, e⟩
      · rw [e]; exact hf.nn p hp
      · obtain ⟨hqn, hqr⟩ := mem_memL.1 hq
        have hmut : Mut (Ed n T) q p := (least_eq (hH q hqn) (hH p hp)).1 (by rw [hqr, hpr])
        refine Int.le_trans ?_ (hf.reach hmut.1)
        rw [← e]
        refine askV_le (hf.nn q hqn) n (fun u hu hn => ?_) (fun u hu ht => ?_)
        · have hur : H u ≠ (r : Int) := fun e => hno u q hu hqn hn (by rw [e, hqr])
          have hdu := (hin u q hu hqn (hNT u q hn) hqr).resolve_left hur
          have h1 := h.least f hf u hu hdu
          have h2 := hf.lt u q hu hqn hn
          omega
        · rcases hin u q hu hqn ht hqr with hur | hdu
          · rw [hX0 u hu hur]; exact hf.nn q hqn
          · have h1 := h.least f hf u hu hdu
            have h2 := hf.le u q hu hqn ht
            omega

theorem LvInv.done {n : Nat} {T N : Nat → Nat → Bool} {H : Nat → Int} {reps : List Nat} {X : Nat → Int} (h : LvInv n T N H reps reps.length X) (hall : ∀ p, p < n → dn H reps reps.length p = true) : Least n T N X :=
  ⟨⟨fun u hu => (h.nn u hu).1, fun u v hu hv ht => (h.le u v hu hv (hall v hv) ht).2, fun u v hu hv hn => h.lt u v hu hv (hall v hv) hn⟩, fun f hf u hu => h.least f hf u hu (hall u hu)⟩
end Go.Proofs.Ytjifhmlfnnagcaa
