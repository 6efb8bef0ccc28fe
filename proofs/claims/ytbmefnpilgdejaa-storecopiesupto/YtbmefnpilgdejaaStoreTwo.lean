/- Two stores and lists of rows beside them, from call to call. -/
import Derived.Test.YtbmefnpilgdejaaStoreCopy
namespace Go.Proofs.Ytbmefnpilgdejaa
set_option linter.unusedSimpArgs false
set_option linter.unusedVariables false
open Go.RowKit Go.Maps

theorem FreeRows.weaken {w : World} {own own' : Own} {ao : Option Addr} {len : Nat} {R : List Rw} (h : FreeRows w own ao len R) (ho : ∀ k, own k = none → own' k = none) : FreeRows w own' ao len R := by
  obtain ⟨h1, h2, h3, h4⟩ := h
  refine ⟨h1, h2, h3, fun hp => ?_⟩
  obtain ⟨b, off, rfl, hn, hc⟩ := h4 hp
  refine ⟨b, off, rfl, ho b hn, fun i r hr => ?_⟩
  obtain ⟨x0, a, c, x1, hi, hf⟩ := hc i r hr
  exact ⟨x0, a, c, x1, hi, fun hp a ha => ho _ (hf hp a ha)⟩

def Own.or (o1 o2 : Own) : Own := fun k => if o1 k = none then o2 k else o1 k
theorem Own.or_none {o1 o2 : Own} {k : Nat} : (o1.or o2) k = none ↔ o1 k = none ∧ o2 k = none := by
  unfold Own.or
  by_cases h : o1 k = none
  · rw [if_pos h]; exact ⟨fun h2 => ⟨h, h2⟩, fun h2 => h2.2⟩
  · rw [if_neg h]; exact ⟨fun h2 => absurd h2 h, fun h2 => absurd h2.1 h⟩

/-- What is done to the first store leaves what is the second's and what is nobody's. -/
theorem Turn.or {A : Tag → Prop} {o1 o1' o2 : Own} {w w' : World} (h : Turn A o1 o1' w w') : Turn (fun _ => True) (o1.or o2) (o1'.or o2) w w' := by
  refine ⟨h.only.mono (fun k _ ⟨t, h1, _⟩ => ⟨t, by unfold Own.or; rw [if_neg (by rw [h1]; simp)]; exact h1, trivial⟩), fun k hk => ?_⟩
  unfold Own.or
  rw [h.ext k hk]

/-- Two stores, made behind w1, at p and p2, that hold K and K2. -/
def TwoAt (w1 wl : World) (p p2 : Nat) (ar : List Int) (L : List (Option Addr × List Rw)) (K : List Rw) (M : Nat) (K2 : List Rw) (M2 : Nat) : Prop :=
  ∃ o1 o2, Keeps wl p o1 ar K M ∧ Keeps wl p2 o2 ar K2 M2 ∧ TagsFrom o1 w1.heap.size ∧ TagsFrom o2 w1.heap.size ∧ (∀ k, o1 k ≠ none → o2 k = none) ∧ Below w1.heap.size w1 wl ∧ ∀ x ∈ L, FreeRows wl (o1.or o2) x.1 x.2.length x.2

section
variable {w1 wl : World} {p p2 : Nat} {ar : List Int} {L : List (Option Addr × List Rw)} {K K2 : List Rw} {M M2 : Nat}
theorem TwoAt.bel (h : TwoAt w1 wl p p2 ar L K M K2 M2) : Below w1.heap.size w1 wl := by obtain ⟨_, _, _, _, _, _, _, hB, _⟩ := h; exact hB
theorem TwoAt.below {w' : World} (h : TwoAt w1 wl p p2 ar L K M K2 M2) (hb : Below wl.heap.size wl w') : TwoAt w1 w' p p2 ar L K M K2 M2 := by
  obtain ⟨o1, o2, h1, h2, t1, t2, hd, hB, hF⟩ := h
  exact ⟨o1, o2, h1.below hb, h2.below hb, t1, t2, hd, hB.trans (hb.mono hB.size), fun x hx => (hF x hx).below hb⟩
theorem TwoAt.swap (h : TwoAt w1 wl p p2 ar L K M K2 M2) : TwoAt w1 wl p2 p ar L K2 M2 K M := by
  obtain ⟨o1, o2, h1, h2, t1, t2, hd, hB, hF⟩ := h
  refine ⟨o2, o1, h2, h1, t2, t1, fun k hk => ?_, hB, fun x hx => (hF x hx).weaken (fun k hk => Own.or_none.2 (And.symm (Own.or_none.1 hk)))⟩
  cases ho : o1 k with
  | none => rfl
  | some t => exact absurd (hd k (by rw [ho]; simp)) hk

/-- A step of the first store. -/
theorem TwoAt.step {w' : World} {A : Tag → Prop} {o1 o1' o2 : Own} (h2 : Keeps wl p2 o2 ar K2 M2) (t1 : TagsFrom o1 w1.heap.size) (t2 : TagsFrom o2 w1.heap.size) (hd : ∀ k, o1 k ≠ none → o2 k = none) (hB : Below w1.heap.size w1 wl) (hF : ∀ x ∈ L, FreeRows wl (o1.or o2) x.1 x.2.length x.2)
    (hT : Turn A o1 o1' wl w') (h1 : Keeps w' p o1' ar K M) : TwoAt w1 w' p p2 ar L K M K2 M2 := by
  obtain ⟨g1, g2⟩ := hT.from t1 hB.size
  refine ⟨o1', o2, h1, ⟨h2.1.keep (hT.only.mono (fun k _ ⟨t, e, _⟩ => hd k (by rw [e]; simp))), h2.2⟩, g1, t2, fun k hk => ?_, hB.trans g2, fun x hx => (hF x hx).turn hT.or⟩
  rcases Nat.lt_or_ge k wl.heap.size with hlt | hge
  · exact hd k (by rw [← hT.ext k hlt]; exact hk)
  · cases ho : o2 k with
    | none => rfl
    | some t => exact absurd (h2.1.lim k (by rw [ho]; simp)) (by omega)

theorem TwoAt.add (h : TwoAt w1 wl p p2 ar L K M K2 M2) (a : Option Addr) {R : List Rw} (hx : (a, R) ∈ L) (hm : mayR ar R = true) {n c : Nat} (hn : R.length = n) (hM : M + 8 * n < 549755813888) :
    Calls Try.prog 11 #[.pointer (some ⟨p, 0, none⟩), .slice a n c] wl fun e w' => e = .returned (.tuple #[.int .i64 ((joinP K R).length - K.length : Nat), .int .i64 0]) ∧ TwoAt w1 w' p p2 ar L (joinP K R) (M + 8 * n) K2 M2 := by
  subst hn
  obtain ⟨o1, o2, h1, h2, t1, t2, hd, hB, hF⟩ := h
  obtain ⟨hj, hjm⟩ := add_join ar K R h1.2 hm
  have := add_ok (cap := c) h1.1 ((hF _ hx).weaken (fun k hk => (Own.or_none.1 hk).1)) hm hM
  rw [hj, List.length_map, List.length_map] at this
  refine this.mono ?_
  rintro e w' ⟨rfl, own', s', t'⟩
  exact ⟨rfl, TwoAt.step h2 t1 t2 hd hB hF t' ⟨s', hjm⟩⟩

theorem TwoAt.holds (h : TwoAt w1 wl p p2 ar L K M K2 M2) (hM : M < 549755813888) (a : Option Addr) (hx : (a, K) ∈ L) {n c : Nat} (hn : K.length = n) {pr : Nat} (hpr : pr < 1000000) :
    Calls Try.prog 12 #[.pointer (some ⟨p, 0, none⟩), .int .i64 (pr : Int), .slice a n c] wl fun e w' => e = .returned (.bool true) ∧ TwoAt w1 w' p p2 ar L K M K2 M2 := by
  subst hn
  have h' := h
  obtain ⟨o1, o2, h1, h2, t1, t2, hd, hB, hF⟩ := h
  refine (holds_st (wc := c) h1 hM ((hF _ hx).weaken (fun k hk => (Own.or_none.1 hk).1)) hpr).mono ?_
  rintro e w' ⟨rfl, hb⟩
  exact ⟨rfl, h'.below hb⟩

theorem TwoAt.holdsNil (h : TwoAt w1 wl p p2 ar L [] M K2 M2) (hM : M < 549755813888) {pr : Nat} (hpr : pr < 1000000) :
    Calls Try.prog 12 #[.pointer (some ⟨p, 0, none⟩), .int .i64 (pr : Int), .slice none 0 0] wl fun e w' => e = .returned (.bool true) ∧ TwoAt w1 w' p p2 ar L [] M K2 M2 := by
  have h' := h
  obtain ⟨o1, o2, h1, h2, t1, t2, hd, hB, hF⟩ := h
  refine (holds_st (wc := 0) h1 hM (free_nil wl o1) hpr).mono ?_
  rintro e w' ⟨rfl, hb⟩
  exact ⟨rfl, h'.below hb⟩

theorem TwoAt.undo (h : TwoAt w1 wl p p2 ar L K M K2 M2) {n : Nat} (hn : n ≤ K.length) (hM : M + 8 * K.length < 68719476736) :
    Calls Try.prog 15 #[.pointer (some ⟨p, 0, none⟩), .int .i64 (n : Int)] wl fun e w' => e = .returned (.int .i64 0) ∧ TwoAt w1 w' p p2 ar L (K.take n) (M + 8 * K.length) K2 M2 := by
  obtain ⟨o1, o2, h1, h2, t1, t2, hd, hB, hF⟩ := h
  have := undo_ok (n := n) h1.1 (by rw [List.length_map]; exact hn) (by rw [List.length_map]; exact hM)
  rw [List.length_map] at this
  refine this.mono ?_
  rintro e w' ⟨rfl, s', t'⟩
  exact ⟨rfl, TwoAt.step h2 t1 t2 hd hB hF t' (Keeps.undo h1.2 s')⟩

theorem BackAt.copy (h : BackAt w1 wl p ar L K M) (hM : M < 68719476736) (har : ar ≠ []) (hbad : ar.any badAr = false) :
    Calls Try.prog 17 #[.pointer (some ⟨p, 0, none⟩)] wl fun e w' => ∃ p2, e = .returned (.pointer (some ⟨p2, 0, none⟩)) ∧ TwoAt w1 w' p p2 ar L K M K (8 * K.length) := by
  obtain ⟨own, hK, hT, hB, hF⟩ := h
  refine (copy_st hK.1 hM har hbad).mono ?_
  rintro e w' ⟨p2, rfl, own2, s2, t2, b2⟩
  rw [List.length_map] at s2
  have hd : ∀ k, own k ≠ none → own2 k = none := fun k hk => by
    cases ho : own2 k with
    | none => rfl
    | some t =>
      have h1 := t2 k (by rw [ho]; simp)
      have h2 := hK.1.lim k hk
      omega
  refine ⟨p2, rfl, own, own2, hK.below b2, ⟨s2, hK.2⟩, hT, fun k hk => ?_, hd, hB.trans (b2.mono hB.size), fun x hx => ?_⟩
  · have h1 := t2 k hk
    have := hB.size
    omega
  · obtain ⟨q1, q2, q3, q4⟩ := (hF x hx).below b2
    have hlow : ∀ b, b < wl.heap.size → own2 b = none := fun b hb => by
      cases ho : own2 b with
      | none => rfl
      | some t => exact absurd (t2 b (by rw [ho]; simp)) (by omega)
    obtain ⟨_, _, _, r4⟩ := hF x hx
    refine ⟨q1, q2, q3, fun hp => ?_⟩
    obtain ⟨b, off, e, hn, hc⟩ := r4 hp
    obtain ⟨r0, hr0⟩ : ∃ r, x.2[0]? = some r := ⟨_, List.getElem?_eq_getElem hp⟩
    have hbl : b < wl.heap.size := lt_of_cell (hc 0 r0 hr0).1
    refine ⟨b, off, e, Own.or_none.2 ⟨hn, hlow b hbl⟩, fun i r hr => ?_⟩
    obtain ⟨x0, a, c, x1, hi, hf⟩ := hc i r hr
    refine ⟨kept_cell b2 x0, a, c, kept_cell b2 x1, hi.kept b2, fun hp2 a' ha' => Own.or_none.2 ⟨hf hp2 a' ha', hlow _ ?_⟩⟩
    obtain ⟨b', o', e', hcell⟩ := hi.2.2.2 hp2
    rw [e'] at ha'
    cases ha'
    obtain ⟨y0, hy0⟩ : ∃ y, r.2[0]? = some y := ⟨_, List.getElem?_eq_getElem hp2⟩
    exact lt_of_cell (hcell 0 y0 hy0)
end
end Go.Proofs.Ytbmefnpilgdejaa
