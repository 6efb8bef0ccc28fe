/- A walk through a graph that finds its strongly connected components, each as soon as all of it has been left: what holds of it from step to step, and that what it answers at its end are the components. Nothing here speaks of memory. -/
import Derived.WalkKit
namespace Go.Proofs.Ytjifhmlfnnagcaa
set_option linter.unusedSimpArgs false
set_option linter.unusedVariables false

inductive Reach (E : Nat → Nat → Prop) : Nat → Nat → Prop
  | refl (a : Nat) : Reach E a a
  | tail {a b c : Nat} : Reach E a b → E b c → Reach E a c
theorem Reach.one {E : Nat → Nat → Prop} {a b : Nat} (h : E a b) : Reach E a b := .tail (.refl a) h
theorem Reach.trans {E : Nat → Nat → Prop} {a b c : Nat} (h : Reach E a b) (k : Reach E b c) : Reach E a c := by
  induction k with
  | refl => exact h
  | tail _ e ih => exact .tail ih e
theorem Reach.closed {E : Nat → Nat → Prop} {S : Nat → Prop} (hS : ∀ a b, S a → E a b → S b) {a b : Nat} (h : Reach E a b) (ha : S a) : S b := by
  induction h with
  | refl => exact ha
  | tail _ e ih => exact hS _ _ ih e
/-- In one component. -/
def Mut (E : Nat → Nat → Prop) (a b : Nat) : Prop := Reach E a b ∧ Reach E b a
theorem Mut.refl {E : Nat → Nat → Prop} (a : Nat) : Mut E a a := ⟨.refl a, .refl a⟩
theorem Mut.symm {E : Nat → Nat → Prop} {a b : Nat} (h : Mut E a b) : Mut E b a := ⟨h.2, h.1⟩
theorem Mut.trans {E : Nat → Nat → Prop} {a b c : Nat} (h : Mut E a b) (k : Mut E b c) : Mut E a c := ⟨h.1.trans k.1, k.2.trans h.2⟩

def updI (f : Nat → Int) (i : Nat) (x : Int) : Nat → Int := fun j => if j = i then x else f j
theorem updI_at (f : Nat → Int) (i : Nat) (x : Int) : updI f i x i = x := by simp [updI]
theorem updI_ne (f : Nat → Int) {i j : Nat} (x : Int) (h : j ≠ i) : updI f i x j = f j := by simp [updI, h]

/-- The walk's state. -/
structure Tj where
  path : List Nat
  opn : List Nat
  place : Nat → Int
  low : Nat → Int
  home : Nat → Int

/-- The least of its component. -/
def LeastOf (E : Nat → Nat → Prop) (v : Nat) (x : Int) : Prop := ∃ m : Nat, x = m ∧ Mut E v m ∧ ∀ u, Mut E v u → m ≤ u

structure TInv (n : Nat) (E : Nat → Nat → Prop) (s : Tj) : Prop where
  at_ : ∀ (i v : Nat), s.opn[i]? = some v → s.place v = i ∧ s.home v < 0 ∧ v < n
  met : ∀ v, v < n → 0 ≤ s.place v → v ∈ s.opn ∨ 0 ≤ s.home v
  set : ∀ v, v < n → 0 ≤ s.home v → 0 ≤ s.place v
  sub : ∀ v ∈ s.path, v ∈ s.opn
  up : s.path.Pairwise fun a b => s.place a < s.place b
  par : ∀ v ∈ s.opn, 0 < s.place v → ∃ u ∈ s.opn, E u v ∧ s.place u < s.place v ∧ (∀ g ∈ s.path, s.place g < s.place v → s.place g ≤ s.place u) ∧ (u ∈ s.path ∨ (v ∉ s.path ∧ s.low u ≤ s.low v))
  root : ∀ v, s.opn[0]? = some v → v ∈ s.path
  back : ∀ v ∈ s.opn, v ∉ s.path → 0 ≤ s.low v ∧ s.low v < s.place v ∧ ∃ u ∈ s.opn, s.place u = s.low v ∧ Reach E v u
  done : ∀ v ∈ s.opn, v ∉ s.path → ∀ u, E v u → 0 ≤ s.place u ∧ (s.home u < 0 → s.low v ≤ s.place u)
  gray : ∀ v ∈ s.path, s.low v = s.place v
  clos : ∀ v u, v < n → 0 ≤ s.home v → E v u → 0 ≤ s.home u
  least : ∀ v, v < n → 0 ≤ s.home v → LeastOf E v (s.home v)
  len : s.opn.length ≤ n
  lens : s.path.length ≤ n
  pl : ∀ v, v < n → s.place v < n ∧ -1 ≤ s.place v
  lo : ∀ v, v < n → s.low v ≤ n ∧ -1 ≤ s.low v
  ho : ∀ v, v < n → s.home v < n ∧ -1 ≤ s.home v

theorem TInv.mem {n : Nat} {E : Nat → Nat → Prop} {s : Tj} (h : TInv n E s) {v : Nat} (hv : v ∈ s.opn) : 0 ≤ s.place v ∧ s.home v < 0 ∧ v < n ∧ s.opn[(s.place v).toNat]? = some v := by
  obtain ⟨i, hi⟩ := List.mem_iff_getElem?.1 hv
  obtain ⟨h1, h2, h3⟩ := h.at_ i v hi
  refine ⟨by omega, h2, h3, ?_⟩
  rw [h1, Int.toNat_natCast]; exact hi
theorem TInv.inj {n : Nat} {E : Nat → Nat → Prop} {s : Tj} (h : TInv n E s) {u v : Nat} (hu : u ∈ s.opn) (hv : v ∈ s.opn) (e : s.place u = s.place v) : u = v := by
  have h1 := (h.mem hu).2.2.2
  have h2 := (h.mem hv).2.2.2
  rw [e, h2] at h1
  exact (Option.some.inj h1).symm
theorem TInv.nodup {n : Nat} {E : Nat → Nat → Prop} {s : Tj} (h : TInv n E s) : s.opn.Nodup := by
  refine List.pairwise_iff_getElem.2 fun i j hi hj hij e => ?_
  have h1 := (h.at_ i _ (List.getElem?_eq_getElem hi)).1
  have h2 := (h.at_ j _ (List.getElem?_eq_getElem hj)).1
  rw [e] at h1
  omega

/-- The beginning. -/
theorem TInv.start (n : Nat) (E : Nat → Nat → Prop) (low : Nat → Int) (hl : ∀ v, v < n → low v ≤ n ∧ -1 ≤ low v) : TInv n E ⟨[], [], fun _ => -1, low, fun _ => -1⟩ where
  at_ := by simp
  met := by intro v _ h; simp at h
  set := by intro v _ h; simp at h
  sub := by simp
  up := by simp
  par := by simp
  root := by simp
  back := by simp
  done := by simp
  gray := by simp
  clos := by intro v u _ h; simp at h
  least := by intro v _ h; simp at h
  len := by simp
  lens := by simp
  pl := by intro v hv; dsimp only; omega
  lo := hl
  ho := by intro v hv; dsimp only; omega

def Tj.enter (s : Tj) (p : Nat) : Tj := { s with place := updI s.place p s.opn.length, low := updI s.low p s.opn.length, opn := s.opn ++ [p], path := s.path ++ [p] }

theorem nodup_len {n : Nat} {l : List Nat} (h : l.Nodup) (hl : ∀ v ∈ l, v < n) : l.length ≤ n := by
  have := h.length_le_of_subset (l₂ := List.range n) (fun v hv => List.mem_range.2 (hl v hv))
  rwa [List.length_range] at this

theorem TInv.room {n : Nat} {E : Nat → Nat → Prop} {s : Tj} (h : TInv n E s) {p : Nat} (hp : p < n) (hw : s.place p < 0) : s.opn.length < n := by
  have h1 : (p :: s.opn).Nodup := by
    rw [List.nodup_cons]
    exact ⟨fun hm => by have := (h.mem hm).1; omega, h.nodup⟩
  have := nodup_len h1 (n := n) (fun v hv => by
    rcases List.mem_cons.1 hv with rfl | h2
    · exact hp
    · exact (h.mem h2).2.2.1)
  simp only [List.length_cons] at this
  omega

theorem path_last {P : List Nat} {f : Nat → Int} {t g : Nat} (h : (P ++ [t]).Pairwise fun a b => f a < f b) (hg : g ∈ P ++ [t]) : f g ≤ f t := by
  rcases List.mem_append.1 hg with h1 | h1
  · have := (List.pairwise_append.1 h).2.2 g h1 t (by simp)
    omega
  · simp only [List.mem_singleton] at h1; rw [h1]; exact Int.le_refl _
theorem up_nodup {P : List Nat} {f : Nat → Int} (h : P.Pairwise fun a b => f a < f b) : P.Nodup :=
  List.Pairwise.imp (fun hab e => by rw [e] at hab; omega) h

theorem TInv.enter {n : Nat} {E : Nat → Nat → Prop} {s : Tj} (h : TInv n E s) {p : Nat} (hp : p < n) (hw : s.place p < 0) (hpath : s.path = [] ∨ ∃ P t, s.path = P ++ [t] ∧ E t p) : TInv n E (s.enter p) := by
  have hne : ∀ v ∈ s.opn, v ≠ p := fun v hv e => by rw [e] at hv; have := (h.mem hv).1; omega
  have hpn : p ∉ s.opn := fun hm => hne p hm rfl
  have hroom := h.room hp hw
  have hpl : ∀ v ∈ s.opn, updI s.place p s.opn.length v = s.place v := fun v hv => updI_ne _ _ (hne v hv)
  have hlo : ∀ v ∈ s.opn, updI s.low p s.opn.length v = s.low v := fun v hv => updI_ne _ _ (hne v hv)
  have hlt : ∀ v ∈ s.opn, s.place v < s.opn.length := fun v hv => by
    obtain ⟨h1, _, _, h4⟩ := h.mem hv
    have := (List.getElem?_eq_some_iff.1 h4).1
    omega
  have hmem : ∀ v, v ∈ s.opn ++ [p] → v ∈ s.opn ∨ v = p := fun v hv => by simpa using hv
  have hmemp : ∀ v, v ∈ s.path ++ [p] → v ∈ s.path ∨ v = p := fun v hv => by simpa using hv
  have hhp : s.home p < 0 := by
    rcases Int.lt_or_le (s.home p) 0 with h1 | h1
    · exact h1
    · have := h.set p hp h1; omega
  refine ⟨?_, ?_, ?_, ?_, ?_, ?_, ?_, ?_, ?_, ?_, h.clos, h.least, ?_, ?_, ?_, ?_, h.ho⟩
  · intro i v hi
    unfold Tj.enter at hi ⊢
    dsimp only at hi ⊢
    rcases Nat.lt_or_ge i s.opn.length with hl | hl
    · rw [List.getElem?_append_left hl] at hi
      rw [hpl v (List.mem_of_getElem? hi)]
      exact h.at_ i v hi
    · rw [List.getElem?_append_right hl] at hi
      have h0 : i - s.opn.length = 0 := by
        have := (List.getElem?_eq_some_iff.1 hi).1
        simp at this; omega
      rw [h0] at hi
      simp only [List.getElem?_cons_zero, Option.some.injEq] at hi
      subst hi
      exact ⟨by rw [updI_at]; omega, hhp, hp⟩
  · intro v hv h0
    unfold Tj.enter at h0 ⊢
    dsimp only at h0 ⊢
    by_cases e : v = p
    · left; simp [e]
    · rw [updI_ne _ _ e] at h0
      rcases h.met v hv h0 with h1 | h1
      · left; simp [h1]
      · right; exact h1
  · intro v hv h0
    unfold Tj.enter at h0 ⊢
    dsimp only at h0 ⊢
    by_cases e : v = p
    · rw [e, updI_at]; omega
    · rw [updI_ne _ _ e]; exact h.set v hv h0
  · intro v hv
    unfold Tj.enter at hv ⊢
    dsimp only at hv ⊢
    rcases hmemp v hv with h1 | h1
    · exact List.mem_append_left _ (h.sub v h1)
    · simp [h1]
  · unfold Tj.enter
    dsimp only
    rw [List.pairwise_append]
    refine ⟨?_, by simp, ?_⟩
    · refine h.up.imp_of_mem fun {a b} ha hb hab => ?_
      rw [hpl a (h.sub a ha), hpl b (h.sub b hb)]; exact hab
    · intro a ha b hb
      simp only [List.mem_singleton] at hb
      subst hb
      rw [hpl a (h.sub a ha), updI_at]
      exact hlt a (h.sub a ha)
  · intro v hv h0
    unfold Tj.enter at hv h0 ⊢
    dsimp only at hv h0 ⊢
    rcases hmem v hv with h1 | rfl
    · rw [hpl v h1] at h0 ⊢
      obtain ⟨u, hu, hE, hlu, hdom, hor⟩ := h.par v h1 h0
      refine ⟨u, List.mem_append_left _ hu, hE, by rw [hpl u hu]; exact hlu, fun g hg hgl => ?_, ?_⟩
      · rw [hpl u hu]
        rcases hmemp g hg with h2 | rfl
        · rw [hpl g (h.sub g h2)] at hgl ⊢; exact hdom g h2 hgl
        · rw [updI_at] at hgl
          have := hlt v h1
          omega
      · rcases hor with h2 | ⟨h2, h3⟩
        · exact .inl (List.mem_append_left _ h2)
        · refine .inr ⟨fun hm => ?_, by rw [hlo u hu, hlo v h1]; exact h3⟩
          rcases hmemp v hm with h4 | h4
          · exact h2 h4
          · exact hne v h1 h4
    · rcases hpath with hnil | ⟨P, t, hP, hE⟩
      · have : s.opn = [] := by
          cases ho : s.opn with
          | nil => rfl
          | cons a r => have := h.root a (by rw [ho]; rfl); rw [hnil] at this; cases this
        rw [updI_at, this] at h0
        simp at h0
      · have ht : t ∈ s.path := by rw [hP]; simp
        have hto := h.sub t ht
        refine ⟨t, List.mem_append_left _ hto, hE, by rw [hpl t hto, updI_at]; exact hlt t hto, fun g hg hgl => ?_, .inl (List.mem_append_left _ ht)⟩
        rcases hmemp g hg with h2 | rfl
        · rw [hpl g (h.sub g h2), hpl t hto]
          have hu := h.up
          rw [hP] at hu h2
          exact path_last hu h2
        · omega
  · intro v hv
    unfold Tj.enter at hv ⊢
    dsimp only at hv ⊢
    cases ho : s.opn with
    | nil => rw [ho] at hv; simp at hv; simp [hv]
    | cons a r =>
      rw [ho] at hv
      simp only [List.cons_append, List.getElem?_cons_zero, Option.some.injEq] at hv
      subst hv
      exact List.mem_append_left _ (h.root a (by rw [ho]; rfl))
  · intro v hv hn
    unfold Tj.enter at hv hn ⊢
    dsimp only at hv hn ⊢
    rcases hmem v hv with h1 | rfl
    · have hn1 : v ∉ s.path := fun hm => hn (List.mem_append_left _ hm)
      obtain ⟨g1, g2, u, hu, g3, g4⟩ := h.back v h1 hn1
      rw [hlo v h1, hpl v h1]
      exact ⟨g1, g2, u, List.mem_append_left _ hu, by rw [hpl u hu]; exact g3, g4⟩
    · exact absurd (by simp) hn
  · intro v hv hn u hE
    unfold Tj.enter at hv hn ⊢
    dsimp only at hv hn ⊢
    rcases hmem v hv with h1 | rfl
    · have hn1 : v ∉ s.path := fun hm => hn (List.mem_append_left _ hm)
      obtain ⟨g1, g2⟩ := h.done v h1 hn1 u hE
      have hup : u ≠ p := fun e => by rw [e] at g1; omega
      rw [updI_ne _ _ hup, hlo v h1]
      exact ⟨g1, g2⟩
    · exact absurd (by simp) hn
  · intro v hv
    unfold Tj.enter at hv ⊢
    dsimp only at hv ⊢
    rcases hmemp v hv with h1 | rfl
    · rw [hlo v (h.sub v h1), hpl v (h.sub v h1)]; exact h.gray v h1
    · rw [updI_at, updI_at]
  · unfold Tj.enter
    simp; omega
  · unfold Tj.enter
    dsimp only
    have h1 : (s.path ++ [p]).Nodup := by
      rw [List.nodup_append]
      refine ⟨up_nodup h.up, by simp, fun a ha b hb e => ?_⟩
      simp only [List.mem_singleton] at hb
      rw [e, hb] at ha
      exact hpn (h.sub p ha)
    exact nodup_len h1 (fun v hv => by
      rcases hmemp v hv with h2 | rfl
      · exact (h.mem (h.sub v h2)).2.2.1
      · exact hp)
  · intro v hv
    unfold Tj.enter
    dsimp only
    by_cases e : v = p
    · rw [e, updI_at]; omega
    · rw [updI_ne _ _ e]; exact h.pl v hv
  · intro v hv
    unfold Tj.enter
    dsimp only
    by_cases e : v = p
    · rw [e, updI_at]; omega
    · rw [updI_ne _ _ e]; exact h.lo v hv
end Go.Proofs.Ytjifhmlfnnagcaa
