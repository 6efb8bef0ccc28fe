/- The walk's step back in memory. -/
import Derived.Test.YtjifhmlfnnagcaaWalkSettle
namespace Go.Proofs.Ytjifhmlfnnagcaa
set_option linter.unusedSimpArgs false
set_option linter.unusedVariables false
open Go.RowKit Go.Maps

/-- The edges among n predicates. -/
def Ed (n : Nat) (T : Nat → Nat → Bool) (u v : Nat) : Prop := u < n ∧ v < n ∧ T u v = true

set_option maxHeartbeats 1000000 in
theorem leave_any {base : Nat} {w : World} {p n gl c : Nat} {s : Tj} {po oo : Option Addr} {pc oc gp gw gh : Nat} {T N : Nat → Nat → Bool} {F : Nat → Nat → Int} (h : WalkAt base w p n gl c s po pc oo oc gp gw gh) (hl : LinksAt w gl n T N F) (hgl : gl < base) (hn : n ≤ 128) (ht : TInv n (Ed n T) s) {P : List Nat} {a : Nat} (hP : s.path = P ++ [a]) (hmet : ∀ q, Ed n T a q → 0 ≤ s.place q) (hb : base ≤ w.heap.size) :
    Calls Try.prog 46 #[.pointer (some ⟨p, 0, none⟩)] w fun e w' => e = .returned (.tuple #[]) ∧ ∃ s' po' pc' oo' oc', WalkAt base w' p n gl c s' po' pc' oo' oc' gp gw gh ∧ TInv n (Ed n T) s' ∧ s'.path = P ∧ (∀ v, s'.place v = s.place v) ∧ Below base w w' := by
  obtain ⟨c0, c1, c2, c3, c4, c5, c6⟩ := h.fields
  obtain ⟨hap, hao, hPl, haP⟩ := ht.last hP
  have hlen : s.path.length = P.length + 1 := by rw [hP]; simp
  have hat : s.path[P.length]? = some a := by rw [hP]; simp
  have han : a < n := (ht.mem hao).2.2.1
  obtain ⟨g, rfl, z1⟩ := h.pathAt hat
  have hpl := ht.lens
  rw [hlen] at c2
  have hcap : P.length + 1 ≤ pc := by
    obtain ⟨ao, cap, e, h1, _⟩ := own_shape6 h.path
    cases e
    omega
  have f2 := h.frozen 2
  have l1 : (P.length : Int) < (P.length : Int) + 1 := by omega
  have HH := hide h
  have HL := hide hl
  have HT := hide ht
  have HP := hide hP
  have HMt := hide hmet
  have HPl := hide hPl
  have HW0 : Hid (WalkAt base (w.setCell ⟨p, 2, none⟩ (.slice (some ⟨g, 0, none⟩) P.length pc)) p n gl c { s with path := P } (some ⟨g, 0, none⟩) pc oo oc gp gw gh) := by
    have h1 := h.cutPath (k := P.length) (by omega)
    rw [hP, List.take_left' rfl] at h1
    exact h1
  have HB0 : Hid (Below base w (w.setCell ⟨p, 2, none⟩ (.slice (some ⟨g, 0, none⟩) P.length pc))) := (Below.refl _ _).setCell (by have := h.bs; dsimp only; omega) _
  clear h hl ht hP hmet hPl
  go_enter Try.func46, Try.ntmps46
  go_wp2
  have HW0' : Hid (WalkAt base (w.setCell ⟨p, 2, none⟩ (.slice (some ⟨g, 0, none⟩) P.length pc)) p n gl c { s with path := P, low := updI s.low a (s.place a) } (some ⟨g, 0, none⟩) pc oo oc gp gw gh) :=
    HW0.out.congr rfl rfl (fun _ _ => rfl) (fun i _ => by
      dsimp only
      by_cases e : i = a
      · rw [e, updI_at]; exact HT.out.gray a hap
      · rw [updI_ne _ _ e]) (fun _ _ => rfl)
  clear HW0 c0 c1 c2 c3 c4 c5 c6 z1 f2
  have hSw : base ≤ w.heap.size := hb
  go_loopw [4, 32] (fun _ i wl => ∃ (t : Nat) (ℓ : Int), t ≤ n ∧ i = .int .i64 t ∧ Hid (WalkAt base wl p n gl c { s with path := P, low := updI s.low a ℓ } (some ⟨g, 0, none⟩) pc oo oc gp gw gh) ∧ Hid (Below base w wl) ∧ Hid (ℓ ≤ s.place a ∧ (∀ v, v < t → T a v = true → s.home v < 0 → v ≠ a → ℓ ≤ s.low v) ∧ (ℓ = s.place a ∨ ∃ v, v ≠ a ∧ Ed n T a v ∧ s.home v < 0 ∧ ℓ = s.low v))) (fun _ i _ => n - (intOf i).toNat)
  case atStart => exact ⟨0, s.place a, by omega, rfl, HW0', HB0, ⟨Int.le_refl _, fun v hv => by omega, .inl rfl⟩⟩
  case round =>
    obtain ⟨t, ℓ, htn, rfl, HW, HB, HLI⟩ := hrel
    clear HW0' HB0
    obtain ⟨d0, d1, d2, d3, d4, d5, d6⟩ := HW.out.fields
    dsimp only at d2 d3
    have hwr : base ≤ wr.heap.size := by have := HB.out.size; omega
    by_cases hlt : t < n
    · have hi : (t : Int) < (n : Int) := by omega
      have hi0 : (0 : Int) ≤ (t : Int) := by omega
      have hai : (a : Int) < (n : Int) := by omega
      have hai0 : (0 : Int) ≤ (a : Int) := by omega
      have HC := hide (leads_any (c := c) (HL.out.low HB.out hgl) hn han hlt)
      obtain ⟨b, hb'⟩ : ∃ b, T a t = b := ⟨_, rfl⟩
      rw [hb'] at HC
      have HTb := hide hb'
      clear hb'
      cases b with
      | false =>
        have HLI2 : Hid (ℓ ≤ s.place a ∧ (∀ v, v < t + 1 → T a v = true → s.home v < 0 → v ≠ a → ℓ ≤ s.low v) ∧ (ℓ = s.place a ∨ ∃ v, v ≠ a ∧ Ed n T a v ∧ s.home v < 0 ∧ ℓ = s.low v)) := by
          refine ⟨HLI.out.1, fun v hv h1 => ?_, HLI.out.2.2⟩
          rcases Nat.lt_succ_iff_lt_or_eq.1 hv with h | h
          · exact HLI.out.2.1 v h h1
          · rw [h, HTb.out] at h1; cases h1
        go_wp2_with (go_at_call 47; refine HC.out.mono ?_; rintro e w2 ⟨rfl, h2⟩; have HW2 := hide (HW.out.kept h2); have HB2 := hide (HB.out.trans (h2.mono hwr)); clear h2)
        go_roundw
        case rel => exact ⟨t + 1, ℓ, by omega, by go_num, HW2, HB2, HLI2⟩
        case measure => simp [intOf]; omega
      | true =>
        by_cases hh : s.home t < 0
        · have q1 : decide (s.home t < 0) = true := by simpa using hh
          obtain ⟨lt, hlt'⟩ : ∃ lt, updI s.low a ℓ t = lt := ⟨_, rfl⟩
          have HLt := hide hlt'
          clear hlt'
          have HHh := hide hh
          clear hh
          go_wp2_with (go_at_call 47; refine HC.out.mono ?_; rintro e w2 ⟨rfl, h2⟩; have HW2 := hide (HW.out.kept h2); have HB2 := hide (HB.out.trans (h2.mono hwr)); clear h2; clear d0 d1 d2 d3 d4 d5 d6; have d6 := HW2.out.fields.2.2.2.2.2.2; have z6 := HW2.out.home.cell hlt; dsimp only at z6)
          have d5 := HW2.out.fields.2.2.2.2.2.1
          have z5 := HW2.out.low.cell han
          have zt := HW2.out.low.cell hlt
          dsimp only at z5 zt
          rw [updI_at] at z5
          rw [HLt.out] at zt
          have f5 := HW2.out.low.frozen a
          have hd : p ≠ gw := HW2.out.dis.1.2.1
          have HS1 : (w2.drew).cell? ⟨p, 5, none⟩ = some (.slice (some ⟨gw, 0, none⟩) n n) ∧ (w2.drew).cell? ⟨gw, a, none⟩ = some (.int .i64 ℓ) ∧ (w2.drew).cell? ⟨gw, t, none⟩ = some (.int .i64 lt) := ⟨d5, z5, zt⟩
          refine wp_region_last (by kernel_rfl) (fun w' => w'.cell? ⟨p, 5, none⟩ = some (.slice (some ⟨gw, 0, none⟩) n n) ∧ w'.cell? ⟨gw, a, none⟩ = some (.int .i64 ℓ) ∧ w'.cell? ⟨gw, t, none⟩ = some (.int .i64 lt)) 21 ?_
          obtain ⟨m, hm⟩ : ∃ m, (if lt < ℓ then lt else ℓ) = m := ⟨_, rfl⟩
          have HM : Hid (m ≤ ℓ ∧ m ≤ lt ∧ (m = ℓ ∨ m = lt)) := by
            show _ ∧ _ ∧ _
            rw [← hm]
            split <;> omega
          refine wpAnyM_take (i := 0) (v := ?_) rfl (by kernel_rfl) (by kernel_rfl) (by kernel_rfl) (by kernel_rfl) (fun _ _ _ h => h) HS1 (Or.inl ⟨by rfl, ?_⟩) ?_
          rotate_left
          · (intro w hSw; (try dsimp only at hSw); go_simp; try with_reducible rfl)
          simp only [Act.put, List.setIfInBounds_toArray, List.set_cons_zero, List.set_cons_succ]
          refine wpAnyM_take (i := 1) (v := ?_) rfl (by kernel_rfl) (by kernel_rfl) (by kernel_rfl) (by kernel_rfl) (fun _ _ _ h => h) HS1 (Or.inl ⟨by rfl, ?_⟩) ?_
          rotate_left
          · (intro w hSw; (try dsimp only at hSw); go_simp; try with_reducible rfl)
          simp only [Act.put, List.setIfInBounds_toArray, List.set_cons_zero, List.set_cons_succ]
          refine wpAnyM_take (i := 2) (v := ?_) rfl (by kernel_rfl) (by kernel_rfl) (by kernel_rfl) (by kernel_rfl) (fun _ _ _ h => h) HS1 (Or.inl ⟨by rfl, ?_⟩) ?_
          rotate_left
          · (intro w hSw; (try dsimp only at hSw); go_simp; try with_reducible rfl)
          simp only [Act.put, List.setIfInBounds_toArray, List.set_cons_zero, List.set_cons_succ]
          refine wpAnyM_take (i := 3) (v := ?_) rfl (by kernel_rfl) (by kernel_rfl) (by kernel_rfl) (by kernel_rfl) (fun _ _ _ h => h) HS1 (Or.inl ⟨by rfl, ?_⟩) ?_
          rotate_left
          · (intro w hSw; (try dsimp only at hSw); go_simp; try with_reducible rfl)
          simp only [Act.put, List.setIfInBounds_toArray, List.set_cons_zero, List.set_cons_succ]
          refine wpAnyM_take (i := 4) (v := ?_) rfl (by kernel_rfl) (by kernel_rfl) (by kernel_rfl) (by kernel_rfl) (fun _ _ _ h => h) HS1 (Or.inl ⟨by rfl, ?_⟩) ?_
          rotate_left
          · (intro w hSw; (try dsimp only at hSw); go_simp; try with_reducible rfl)
          simp only [Act.put, List.setIfInBounds_toArray, List.set_cons_zero, List.set_cons_succ]
          refine wpAnyM_take (i := 5) (v := ?_) rfl (by kernel_rfl) (by kernel_rfl) (by kernel_rfl) (by kernel_rfl) (fun _ _ _ h => h) HS1 (Or.inl ⟨by rfl, ?_⟩) ?_
          rotate_left
          · (intro w hSw; (try dsimp only at hSw); go_simp; try with_reducible rfl)
          simp only [Act.put, List.setIfInBounds_toArray, List.set_cons_zero, List.set_cons_succ]
          refine wpAnyM_take (i := 6) (v := ?_) rfl (by kernel_rfl) (by kernel_rfl) (by kernel_rfl) (by kernel_rfl) (fun _ _ _ h => h) HS1 (Or.inl ⟨by rfl, ?_⟩) ?_
          rotate_left
          · (intro w hSw; (try dsimp only at hSw); go_simp; try with_reducible rfl)
          simp only [Act.put, List.setIfInBounds_toArray, List.set_cons_zero, List.set_cons_succ]
          refine wpAnyM_take (i := 7) (v := ?_) rfl (by kernel_rfl) (by kernel_rfl) (by kernel_rfl) (by kernel_rfl) (fun _ _ _ h => h) HS1 (Or.inl ⟨by rfl, ?_⟩) ?_
          rotate_left
          · (intro w hSw; (try dsimp only at hSw); go_simp; try with_reducible rfl)
          simp only [Act.put, List.setIfInBounds_toArray, List.set_cons_zero, List.set_cons_succ]
          refine wpAnyM_take (i := 8) (v := ?_) rfl (by kernel_rfl) (by kernel_rfl) (by kernel_rfl) (by kernel_rfl) (fun _ _ _ h => h) HS1 (Or.inl ⟨by rfl, ?_⟩) ?_
          rotate_left
          · (intro w hSw; (try dsimp only at hSw); go_simp; try with_reducible rfl)
          simp only [Act.put, List.setIfInBounds_toArray, List.set_cons_zero, List.set_cons_succ]
          refine wpAnyM_take (i := 9) (v := ?_) rfl (by kernel_rfl) (by kernel_rfl) (by kernel_rfl) (by kernel_rfl) (fun _ _ _ h => h) HS1 (Or.inl ⟨by rfl, ?_⟩) ?_
          rotate_left
          · (intro w hSw; (try dsimp only at hSw); go_simp; try with_reducible rfl)
          simp only [Act.put, List.setIfInBounds_toArray, List.set_cons_zero, List.set_cons_succ]
          refine wpAnyM_take (i := 10) (v := ?_) rfl (by kernel_rfl) (by kernel_rfl) (by kernel_rfl) (by kernel_rfl) (fun _ _ _ h => h) HS1 (Or.inl ⟨by rfl, ?_⟩) ?_
          rotate_left
          · (intro w hSw; (try dsimp only at hSw); go_simp; try with_reducible rfl)
          simp only [Act.put, List.setIfInBounds_toArray, List.set_cons_zero, List.set_cons_succ]
          refine wpAnyM_take (i := 11) (v := ?_) rfl (by kernel_rfl) (by kernel_rfl) (by kernel_rfl) (by kernel_rfl) (fun _ _ _ h => h) HS1 (Or.inl ⟨by rfl, ?_⟩) ?_
          rotate_left
          · (intro w hSw; (try dsimp only at hSw); go_simp; try with_reducible rfl)
          simp only [Act.put, List.setIfInBounds_toArray, List.set_cons_zero, List.set_cons_succ]
          refine wpAnyM_take (i := 12) (v := ?_) rfl (by kernel_rfl) (by kernel_rfl) (by kernel_rfl) (by kernel_rfl) (fun _ _ _ h => h) HS1 (Or.inl ⟨by rfl, ?_⟩) ?_
          rotate_left
          · (intro w hSw; (try dsimp only at hSw); go_simp; try with_reducible rfl)
          simp only [Act.put, List.setIfInBounds_toArray, List.set_cons_zero, List.set_cons_succ]
          refine wpAnyM_take (i := 13) (v := ?_) rfl (by kernel_rfl) (by kernel_rfl) (by kernel_rfl) (by kernel_rfl) (fun _ _ _ h => h) HS1 (Or.inl ⟨by rfl, ?_⟩) ?_
          rotate_left
          · (intro w hSw; (try dsimp only at hSw); go_simp; try with_reducible rfl)
          simp only [Act.put, List.setIfInBounds_toArray, List.set_cons_zero, List.set_cons_succ]
          refine wpAnyM_take (i := 14) (v := ?_) rfl (by kernel_rfl) (by kernel_rfl) (by kernel_rfl) (by kernel_rfl) (fun _ _ _ h => h) HS1 (Or.inl ⟨by rfl, ?_⟩) ?_
          rotate_left
          · (intro w hSw; (try dsimp only at hSw); go_simp; try with_reducible rfl)
          simp only [Act.put, List.setIfInBounds_toArray, List.set_cons_zero, List.set_cons_succ]
          refine wpAnyM_take (i := 15) (v := ?_) rfl (by kernel_rfl) (by kernel_rfl) (by kernel_rfl) (by kernel_rfl) (fun _ _ _ h => h) HS1 (Or.inl ⟨by rfl, ?_⟩) ?_
          rotate_left
          · (intro w hSw; (try dsimp only at hSw); go_simp; try with_reducible rfl)
          simp only [Act.put, List.setIfInBounds_toArray, List.set_cons_zero, List.set_cons_succ]
          refine wpAnyM_take (i := 16) (v := ?_) rfl (by kernel_rfl) (by kernel_rfl) (by kernel_rfl) (by kernel_rfl) (fun _ _ _ h => h) HS1 (Or.inl ⟨by rfl, ?_⟩) ?_
          rotate_left
          · (intro w hSw; (try dsimp only at hSw); go_simp; try with_reducible rfl)
          simp only [Act.put, List.setIfInBounds_toArray, List.set_cons_zero, List.set_cons_succ]
          refine wpAnyM_take (i := 17) (v := ?_) rfl (by kernel_rfl) (by kernel_rfl) (by kernel_rfl) (by kernel_rfl) (fun _ _ _ h => h) HS1 (Or.inl ⟨by rfl, ?_⟩) ?_
          rotate_left
          · (intro w hSw; (try dsimp only at hSw); go_simp; try with_reducible rfl)
          simp only [Act.put, List.setIfInBounds_toArray, List.set_cons_zero, List.set_cons_succ]
          refine wpAnyM_take (i := 18) (v := ?_) rfl (by kernel_rfl) (by kernel_rfl) (by kernel_rfl) (by kernel_rfl) (fun _ _ _ h => h) HS1 (Or.inl ⟨by rfl, ?_⟩) ?_
          rotate_left
          · (intro w hSw; (try dsimp only at hSw); go_simp; try with_reducible rfl)
          simp only [Act.put, List.setIfInBounds_toArray, List.set_cons_zero, List.set_cons_succ]
          refine wpAnyM_take (i := 19) (v := ?_) rfl (by kernel_rfl) (by kernel_rfl) (by kernel_rfl) (by kernel_rfl) (fun _ _ _ h => h) HS1 (Or.inl ⟨by rfl, ?_⟩) ?_
          rotate_left
          · (intro w hSw; (try dsimp only at hSw); go_simp; try with_reducible rfl)
          simp only [Act.put, List.setIfInBounds_toArray, List.set_cons_zero, List.set_cons_succ]
          refine wpAnyM_take (i := 20) (v := ?_) rfl (by kernel_rfl) (by kernel_rfl) (by kernel_rfl) (by kernel_rfl) (fun _ _ _ h => h) HS1 (Or.inl ⟨by rfl, ?_⟩) ?_
          rotate_left
          · (intro w hSw; (try dsimp only at hSw); go_simp; try with_reducible rfl)
          simp only [Act.put, List.setIfInBounds_toArray, List.set_cons_zero, List.set_cons_succ]
          refine wpAnyM_end (by kernel_rfl) rfl (by kernel_rfl) (fun K hK => ?_)
          go_simp
          refine hK.out _ _ ?_
          clear hK K
          have HWn : Hid (WalkAt base ((w2.drew).setCell ⟨gw, a, none⟩ (.int .i64 m)) p n gl c { s with path := P, low := updI s.low a m } (some ⟨g, 0, none⟩) pc oo oc gp gw gh) :=
            (HW2.out.drew.setLow a m).congr rfl rfl (fun _ _ => rfl) (fun i _ => by
              dsimp only
              by_cases e : i = a
              · rw [e, updI_at, updI_at]
              · rw [updI_ne _ _ e, updI_ne _ _ e, updI_ne _ _ e]) (fun _ _ => rfl)
          have HBn : Hid (Below base w ((w2.drew).setCell ⟨gw, a, none⟩ (.int .i64 m))) := HB2.out.drew.setCell (by have := HH.out.bs; dsimp only; omega) _
          have HLI2 : Hid (m ≤ s.place a ∧ (∀ v, v < t + 1 → T a v = true → s.home v < 0 → v ≠ a → m ≤ s.low v) ∧ (m = s.place a ∨ ∃ v, v ≠ a ∧ Ed n T a v ∧ s.home v < 0 ∧ m = s.low v)) := by
            obtain ⟨m1, m2, m3⟩ := HM.out
            obtain ⟨i1, i2, i3⟩ := HLI.out
            have hl := HLt.out
            refine ⟨by omega, fun v hv h1 h2 h3 => ?_, ?_⟩
            · rcases Nat.lt_succ_iff_lt_or_eq.1 hv with h | h
              · have := i2 v h h1 h2 h3; omega
              · subst h
                rw [updI_ne _ _ h3] at hl
                omega
            · rcases m3 with h | h
              · rw [h]; exact i3
              · by_cases e : t = a
                · rw [e, updI_at] at hl
                  rw [h, ← hl]; exact i3
                · rw [updI_ne _ _ e] at hl
                  exact .inr ⟨t, e, ⟨han, hlt, HTb.out⟩, HHh.out, by rw [h, ← hl]⟩
          clear HM HLt HW2 HB2 hm
          go_wp2
          go_roundw
          case rel => exact ⟨t + 1, m, by omega, by go_num, HWn, HBn, HLI2⟩
          case measure => simp [intOf]; omega
        · have q1 : decide (s.home t < 0) = false := by simpa using hh
          have HHh := hide hh
          clear hh
          have HLI2 : Hid (ℓ ≤ s.place a ∧ (∀ v, v < t + 1 → T a v = true → s.home v < 0 → v ≠ a → ℓ ≤ s.low v) ∧ (ℓ = s.place a ∨ ∃ v, v ≠ a ∧ Ed n T a v ∧ s.home v < 0 ∧ ℓ = s.low v)) := by
            refine ⟨HLI.out.1, fun v hv h1 h2 => ?_, HLI.out.2.2⟩
            rcases Nat.lt_succ_iff_lt_or_eq.1 hv with h | h
            · exact HLI.out.2.1 v h h1 h2
            · rw [h] at h2; exact absurd h2 HHh.out
          go_wp2_with (go_at_call 47; refine HC.out.mono ?_; rintro e w2 ⟨rfl, h2⟩; have HW2 := hide (HW.out.kept h2); have HB2 := hide (HB.out.trans (h2.mono hwr)); clear h2; clear d0 d1 d2 d3 d4 d5 d6; have d6 := HW2.out.fields.2.2.2.2.2.2; have z6 := HW2.out.home.cell hlt; dsimp only at z6)
          go_roundw
          case rel => exact ⟨t + 1, ℓ, by omega, by go_num, HW2, HB2, HLI2⟩
          case measure => simp [intOf]; omega
    · obtain rfl : t = n := by omega
      have hi : ¬ (t : Int) < (t : Int) := by omega
      have hai : (a : Int) < (t : Int) := by omega
      have hai0 : (0 : Int) ≤ (a : Int) := by omega
      have z4 := HW.out.place.cell han
      have z5 := HW.out.low.cell han
      dsimp only at z4 z5
      rw [updI_at] at z5
      have hpl0 := (HT.out.mem hao).1
      have HE : Hid (∀ u v, Ed t T u v → u < t ∧ v < t) := fun u v h => ⟨h.1, h.2.1⟩
      have HL2 : Hid (∀ v, Ed t T a v → s.home v < 0 → v ≠ a → ℓ ≤ s.low v) := fun v hv => HLI.out.2.1 v hv.2.1 hv.2.2
      have o4 := over_cell z4
      have o5 := over_cell z5
      have od4 := over_cell d4
      have od5 := over_cell d5
      by_cases he : ℓ = s.place a
      · have q1 : (ℓ == s.place a) = true := by simpa using he
        have HEq := hide he
        clear he
        go_wp2
        refine wp_region_over (fun W => W = wr) (by kernel_rfl) (by kernel_rfl) rfl ?_
        rintro W rfl
        repeat (go_big_quiet_step (first | fail))
        refine wpQuiet_nil ?_
        rintro _ ⟨z, rfl⟩
        have HWz := hide (HW.out.kept (over_below W z))
        have HBz := hide (HB.out.trans ((over_below W z).mono hwr))
        have d4' := od4 z
        have z4' := o4 z
        have hk4 := (HT.out.mem hao).2.2.2
        have HC := hide (settle_any (k := (s.place a).toNat) HWz.out hn (by have := HT.out.len; dsimp only; omega) (fun v hv => (HT.out.mem hv).2.2.1) (List.getElem?_eq_some_iff.1 hk4).1 (by have := HBz.out.size; omega))
        rw [Int.toNat_of_nonneg hpl0] at HC
        clear hk4
        go_wp2_with (go_at_call 49; refine HC.out.mono ?_; rintro e w3 ⟨rfl, m, hm, hw3, hb3⟩; have HM := hide hm; have HW3 := hide hw3; have HB3 := hide (HBz.out.trans hb3); clear hm hw3 hb3)
        have HTf := hide (HT.out.settle HE.out HP.out HMt.out (by rw [← HEq.out]; exact HL2.out) HM.out.1 HM.out.2)
        have HW4 := HW3.out
        rw [HEq.out] at HW4
        go_end0
        exact ⟨rfl, _, _, _, _, _, HW4, HTf.out, rfl, fun _ => rfl, HB3.out⟩
      · have q1 : (ℓ == s.place a) = false := by simpa using he
        have HNe := hide he
        clear he
        go_wp2
        refine wp_region_over (fun W => W = wr) (by kernel_rfl) (by kernel_rfl) rfl ?_
        rintro W rfl
        repeat (go_big_quiet_step (first | fail))
        refine wpQuiet_nil ?_
        rintro _ ⟨z, rfl⟩
        have HWz := hide (HW.out.kept (over_below W z))
        have HBz := hide (HB.out.trans ((over_below W z).mono hwr))
        go_wp2
        go_end0
        exact ⟨rfl, _, _, _, _, _, HWz.out, HT.out.leave HE.out HP.out HMt.out HLI.out.1 HL2.out HLI.out.2.2 HNe.out, rfl, fun _ => rfl, HBz.out⟩
end Go.Proofs.Ytjifhmlfnnagcaa
