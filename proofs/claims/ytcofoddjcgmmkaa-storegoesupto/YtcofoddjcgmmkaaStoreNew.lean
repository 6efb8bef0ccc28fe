/- What empty and New make. -/
import Derived.Test.YtcofoddjcgmmkaaProg
import Derived.Test.YtcofoddjcgmmkaaStoreAsk
namespace Go.Proofs.Ytcofoddjcgmmkaa
set_option linter.unusedSimpArgs false
set_option linter.unusedVariables false
open Go.RowKit Go.Maps

abbrev mapO : Obj := .map #[] 0
abbrev W3 (w : World) : World := ((w.alloc mapO).alloc mapO).alloc mapO
abbrev stoO (v : Value) (a b c : Nat) : Obj := .cells #[v, .slice none 0 0, .slice none 0 0, .slice none 0 0, .int .i64 0, .map (some a), .map (some b), .map (some c)] T8
abbrev S0 (l : List Int) : Sto := { ar := l, C := [], bs := [], ks := [], born := 0, N := fun _ _ => False, O := fun _ => [], W := fun _ => [] }

theorem raw_new (w : World) {ao : Option Addr} {len cap : Nat} {l : List Int} (h : IsInts w ao len l) (b0 : Nat) (hb : b0 ≤ w.heap.size) (hg : 0 < len → ∃ g, ao = some ⟨g, 0, none⟩ ∧ b0 ≤ g) :
    ∃ own L, Raw ((W3 w).alloc (stoO (.slice ao len cap) w.heap.size (w.heap.size + 1) (w.heap.size + 2))) own (w.heap.size + 3) L (S0 l) ∧ L.n1 = 0 ∧ L.n2 = 0 ∧ L.n3 = 0 ∧ ∀ k, own k ≠ none → b0 ≤ k := by
  obtain ⟨hl, hlen, hI, hrow⟩ := h
  -- the tag of the arities' block
  let f : Own := fun k => if (∃ a, ao = some a ∧ a.block = k) ∧ b0 ≤ k ∧ k < w.heap.size then some .ar else none
  let own : Own := ((((f.at w.heap.size .nums).at (w.heap.size + 1) .ofm).at (w.heap.size + 2) .whm).at (w.heap.size + 3) .me)
  have hB0 : Below w.heap.size w ((W3 w).alloc (stoO (.slice ao len cap) w.heap.size (w.heap.size + 1) (w.heap.size + 2))) :=
    ((((Below.refl _ w).alloc (Nat.le_refl _) _).alloc (by simp) _).alloc (by simp <;> omega) _).alloc (by simp <;> omega) _
  have o0 : own w.heap.size = some .nums := by simp [own, Own.at]
  have o1 : own (w.heap.size + 1) = some .ofm := by simp [own, Own.at]
  have o2 : own (w.heap.size + 2) = some .whm := by simp [own, Own.at]
  have o3 : own (w.heap.size + 3) = some .me := by simp [own, Own.at]
  have s1 : (w.alloc mapO).heap.size = w.heap.size + 1 := by simp
  have s2 : ((w.alloc mapO).alloc mapO).heap.size = w.heap.size + 2 := by simp
  have s3 : (W3 w).heap.size = w.heap.size + 3 := by simp
  have B1 : Below (w.alloc mapO).heap.size (w.alloc mapO) ((W3 w).alloc (stoO (.slice ao len cap) w.heap.size (w.heap.size + 1) (w.heap.size + 2))) := (((Below.refl _ _).alloc (Nat.le_refl _) _).alloc (by simp) _).alloc (by simp) _
  have B2 : Below ((w.alloc mapO).alloc mapO).heap.size ((w.alloc mapO).alloc mapO) ((W3 w).alloc (stoO (.slice ao len cap) w.heap.size (w.heap.size + 1) (w.heap.size + 2))) := ((Below.refl _ _).alloc (Nat.le_refl _) _).alloc (by simp) _
  have B3 : Below (W3 w).heap.size (W3 w) ((W3 w).alloc (stoO (.slice ao len cap) w.heap.size (w.heap.size + 1) (w.heap.size + 2))) := (Below.refl _ _).alloc (Nat.le_refl _) _
  refine ⟨own, { va := .slice ao len cap, vr := .slice none 0 0, vb := .slice none 0 0, vk := .slice none 0 0, m1 := w.heap.size, m2 := w.heap.size + 1, m3 := w.heap.size + 2, n1 := 0, n2 := 0, n3 := 0 }, ⟨?_, o3, ?_, RowIs.nil _ _ _ _ _, RowIs.nil _ _ _ _ _, RowIs.nil _ _ _ _ _, ?_, o0, ?_, ?_, ?_⟩, rfl, rfl, rfl, ?_⟩
  · have := heap_alloc_new (W3 w) (stoO (.slice ao len cap) w.heap.size (w.heap.size + 1) (w.heap.size + 2))
    rw [s3] at this
    exact this
  · refine ⟨ao, cap, by rw [hl], ?_⟩
    cases l with
    | nil => exact .inl rfl
    | cons a r =>
      have hpos : 0 < len := by rw [← hl]; simp
      obtain ⟨b, off, e, hc⟩ := hrow hpos
      obtain ⟨g, e2, hg2⟩ := hg hpos
      have hlt : b < w.heap.size := lt_of_cell (hc 0 a rfl)
      rw [e] at e2
      simp only [Option.some.injEq, Addr.mk.injEq, and_true] at e2
      obtain ⟨rfl, rfl⟩ := e2
      refine .inr ⟨b, 0, e, ?_, fun i x hi => kept_cell hB0 (hc i x hi)⟩
      have hf : f b = some .ar := by
        simp only [f]
        rw [if_pos ⟨⟨_, e, rfl⟩, hg2, hlt⟩]
      simp only [own]
      rw [Own.at_other _ _ (by omega), Own.at_other _ _ (by omega), Own.at_other _ _ (by omega), Own.at_other _ _ (by omega)]
      exact hf
  · intro i v hv
    simp at hv
  · exact (MapIs.made Try.prog 56 3 w (fun _ _ => False) (fun _ _ h => h)).same (B1.block _ (by rw [s1]; omega))
  · have := LMap.made Try.prog 3 3 (w.alloc mapO) own .ofm .ofl (by rw [s1]; exact o1)
    rw [s1] at this
    exact this.keep (A := fun _ => False) (Turn.below B2) id (fun _ => id)
  · have := LMap.made Try.prog 78 3 ((w.alloc mapO).alloc mapO) own .whm .whl (by rw [s2]; exact o2)
    rw [s2] at this
    exact this.keep (A := fun _ => False) (Turn.below B3) id (fun _ => id)
  · intro k hk
    by_cases e0 : k = w.heap.size
    · omega
    by_cases e1 : k = w.heap.size + 1
    · omega
    by_cases e2 : k = w.heap.size + 2
    · omega
    by_cases e3 : k = w.heap.size + 3
    · omega
    simp only [own] at hk
    rw [Own.at_other _ _ e3, Own.at_other _ _ e2, Own.at_other _ _ e1, Own.at_other _ _ e0] at hk
    simp only [f] at hk
    by_cases hc : (∃ a, ao = some a ∧ a.block = k) ∧ b0 ≤ k ∧ k < w.heap.size
    · exact hc.2.1
    · rw [if_neg hc] at hk; exact absurd rfl hk

/-- A new store. -/
def Fresh (w w' : World) (v : Value) (l : List Int) : Prop :=
  ∃ p own L, v = .pointer (some ⟨p, 0, none⟩) ∧ Raw w' own p L (S0 l) ∧ L.n1 = 0 ∧ L.n2 = 0 ∧ L.n3 = 0 ∧ (∀ k, own k ≠ none → w.heap.size ≤ k) ∧ Below w.heap.size w w'

theorem empty_any {w : World} {ao : Option Addr} {len cap : Nat} {l : List Int} (h : IsInts w ao len l) (hn : ao = none → len = 0 ∧ cap = 0) :
    Calls Try.prog 41 #[.slice ao len cap] w fun e w' => ∃ v, e = .returned v ∧ Fresh w w' v l := by
  have HC := hide (clone_any h hn)
  have hmm := @run_makeMap Try.prog
  clear h hn
  go_enter Try.func41, Try.ntmps41
  go_wp2_with (go_at_call 38; refine HC.out.mono ?_; rintro e w2 ⟨ao2, cap2, rfl, q1, q2, q3⟩; have Q1 := hide (And.intro q1 (And.intro q2 q3)); clear q1 q2 q3)
  go_ret
  obtain ⟨own, L, hR, e1, e2, e3, hk⟩ := raw_new w2 (cap := cap2) Q1.out.1 w.heap.size Q1.out.2.1.size Q1.out.2.2
  have hs := Q1.out.2.1.size
  refine ⟨_, rfl, w2.heap.size + 3, own, L, ?_, hR, e1, e2, e3, hk, ?_⟩
  · simp
  · exact (((Q1.out.2.1.alloc hs _).alloc (by simp <;> omega) _).alloc (by simp <;> omega) _).alloc (by simp <;> omega) _

/-- New, where the arities may be. -/
theorem new_ok {w : World} {ao : Option Addr} {len cap : Nat} {l : List Int} (h : IsInts w ao len l) (hn : ao = none → len = 0 ∧ cap = 0) (hl : len ≤ 128) (hb : l.any badAr = false) :
    Calls Try.prog 20 #[.slice ao len cap] w fun e w' => ∃ v, e = .returned (.tuple #[v, .int .i64 0]) ∧ Fresh w w' v l := by
  have HE := hide (empty_any h hn)
  have hc := contains_ar (cap := cap) h
  rw [hb] at hc
  have HC := hide hc
  have h1 : ¬ (128 : Int) < (len : Int) := by omega
  clear h hn hc hb
  go_enter Try.func20, Try.ntmps20
  go_wp2_with
    (first
      | (go_at_call 39; refine HC.out.mono ?_; rintro e w2 ⟨rfl, hw⟩; have hw := hw.symm; subst hw)
      | (go_at_call 41; refine HE.out.mono ?_; rintro e w2 ⟨v, rfl, q⟩; have Q1 := hide q; clear q))
  go_ret2
  exact ⟨v, rfl, Q1.out⟩

/-- New, where they may not. -/
theorem new_bad {w : World} {ao : Option Addr} {len cap : Nat} {l : List Int} (h : IsInts w ao len l) (hb : 128 < len ∨ l.any badAr = true) :
    Calls Try.prog 20 #[.slice ao len cap] w fun e w' => e = .returned (.tuple #[.pointer none, .int .i64 2]) ∧ w' = w := by
  have hc := contains_ar (cap := cap) h
  by_cases hl : 128 < len
  · have h1 : (128 : Int) < (len : Int) := by omega
    clear hc h hb
    go_enter Try.func20, Try.ntmps20
    go_wp2
    go_ret2
    exact ⟨rfl, rfl⟩
  · have h1 : ¬ (128 : Int) < (len : Int) := by omega
    rw [hb.resolve_left hl] at hc
    have HC := hide hc
    clear hc h hb
    go_enter Try.func20, Try.ntmps20
    go_wp2_with (go_at_call 39; refine HC.out.mono ?_; rintro e w2 ⟨rfl, hw⟩; have hw := hw.symm; subst hw)
    go_ret2
    exact ⟨rfl, rfl⟩
end Go.Proofs.Ytcofoddjcgmmkaa
