/- (strata.graph).nearer. -/
import Derived.Test.YtmbkjgfnnpopgabGraphFar
namespace Go.Proofs.Ytmbkjgfnnpopgab
set_option linter.unusedSimpArgs false
set_option linter.unusedVariables false
open Go.RowKit Go.Maps
set_option maxRecDepth 100000

def nrP (T : Nat → Nat → Bool) (D : Nat → Int) (a v : Nat) : Prop := T a v = true ∧ D v = D a - 1
def Near (T : Nat → Nat → Bool) (F : Nat → Nat → Int) (D : Nat → Int) (a k : Nat) (m : Int) : Prop := (m = -1 ∧ ∀ v, v < k → ¬ nrP T D a v) ∨ (0 ≤ m ∧ (∃ v, v < k ∧ nrP T D a v ∧ m = F a v) ∧ ∀ v, v < k → nrP T D a v → m ≤ F a v)

theorem Near.keep {T : Nat → Nat → Bool} {F : Nat → Nat → Int} {D : Nat → Int} {a k : Nat} {m : Int} (h : Near T F D a k m) (hk : nrP T D a k → 0 ≤ m ∧ m ≤ F a k) : Near T F D a (k + 1) m := by
  rcases h with ⟨h1, h2⟩ | ⟨h1, ⟨v, hv, h2⟩, h3⟩
  · refine .inl ⟨h1, fun v hv hp => ?_⟩
    rcases Nat.lt_or_ge v k with hl | hl
    · exact h2 v hl hp
    · obtain rfl : v = k := by omega
      have := hk hp; omega
  · refine .inr ⟨h1, ⟨v, by omega, h2⟩, fun v hv hp => ?_⟩
    rcases Nat.lt_or_ge v k with hl | hl
    · exact h3 v hl hp
    · obtain rfl : v = k := by omega
      exact (hk hp).2
theorem Near.take {T : Nat → Nat → Bool} {F : Nat → Nat → Int} {D : Nat → Int} {a k : Nat} {m : Int} (h : Near T F D a k m) (hp : nrP T D a k) (hf : 0 ≤ F a k) (hm : m < 0 ∨ F a k < m) : Near T F D a (k + 1) (F a k) := by
  refine .inr ⟨hf, ⟨k, by omega, hp, rfl⟩, fun v hv hpv => ?_⟩
  rcases Nat.lt_or_ge v k with hl | hl
  · rcases h with ⟨h1, h2⟩ | ⟨h1, _, h3⟩
    · exact absurd hpv (h2 v hl)
    · have := h3 v hl hpv; omega
  · obtain rfl : v = k := by omega
    exact Int.le_refl _

set_option maxHeartbeats 1000000 in
theorem nearer_any {w : World} {gl n c a gf : Nat} {T N : Nat → Nat → Bool} {F : Nat → Nat → Int} {D : Nat → Int} (h : LinksAt w gl n T N F) (hn : n ≤ 128) (ha : a < n) (hr : w.rowIs gf 3 n (fun p => .int .i64 (D p))) (hD : ∀ p, p < n → -1 ≤ D p ∧ D p ≤ 1000000) (hF : ∀ v, v < n → T a v = true → 0 ≤ F a v) :
    Calls Try.prog 38 #[.agg #[.int .i64 (n : Int), .slice (some ⟨gl, 0, none⟩) (n * n) c], .int .i64 (a : Int), .slice (some ⟨gf, 0, none⟩) n n] w fun e w' => ∃ m : Int, e = .returned (.int .i64 m) ∧ Near T F D a n m ∧ Below w.heap.size w w' := by
  have HL := hide h
  have HR := hide hr
  have HD := hide hD
  have HF := hide hF
  have hglt := h.lt
  have hgf := hr.lt
  have hai : (a : Int) < (n : Int) := by omega
  have hai0 : (0 : Int) ≤ (a : Int) := by omega
  clear h hr hD hF
  go_enter Try.func38, Try.ntmps38
  go_wp2
  go_loopw [7, 12] (fun lv i wl => ∃ (v : Nat) (m : Int), v ≤ n ∧ i = .int .i64 v ∧ lv = .int .i64 m ∧ Hid (Near T F D a v m) ∧ Hid (wl.heap[w.heap.size]? = some (.cells #[.int .i64 (n : Int), .slice (some ⟨gl, 0, none⟩) (n * n) c] 47 (0, 0))) ∧ Hid (Below w.heap.size w wl)) (fun _ i _ => n - (intOf i).toNat)
  case atStart => exact ⟨0, -1, by omega, rfl, rfl, .inl ⟨rfl, fun v hv => by omega⟩, heap_alloc_new _ _, (Below.refl _ w).alloc (Nat.le_refl _) _⟩
  case round =>
    obtain ⟨v, m, hv, rfl, rfl, HN, HX, HB⟩ := hrel
    by_cases hlt : v < n
    · have hi : (v : Int) < (n : Int) := by omega
      have hi0 : (0 : Int) ≤ (v : Int) := by omega
      have x0 : wr.cell? ⟨w.heap.size, 0, none⟩ = some (.int .i64 (n : Int)) := by simp [World.cell?, HX.out]
      have x1 : wr.cell? ⟨w.heap.size, 1, none⟩ = some (.slice (some ⟨gl, 0, none⟩) (n * n) c) := by simp [World.cell?, HX.out]
      have HLk := hide (link_any (w := wr) (gl := gl) (c := c) hn ha hlt)
      obtain ⟨hda0, hda1⟩ := HD.out a ha
      obtain ⟨f, hf⟩ : ∃ f, F a v = f := ⟨_, rfl⟩
      obtain ⟨dv, hdv⟩ : ∃ dv, D v = dv := ⟨_, rfl⟩
      obtain ⟨da, hda⟩ : ∃ da, D a = da := ⟨_, rfl⟩
      rw [hda] at hda0 hda1
      cases hT : T a v with
      | false =>
        have HNr := hide (HN.out.keep (fun hp => by have := hp.1; rw [hT] at this; cases this))
        clear HN
        go_wp2_with (go_at_call 23; refine HLk.out.mono ?_; rintro e w1 ⟨rfl, h1⟩; have HB1 := hide (HB.out.trans (h1.mono HB.out.size)); have HX1 : Hid (w1.heap[w.heap.size]? = some (.cells #[.int .i64 (n : Int), .slice (some ⟨gl, 0, none⟩) (n * n) c] 47 (0, 0))) := (by show _ = _; rw [h1.block _ (Array.getElem?_eq_some_iff.1 HX.out).1]; exact HX.out); obtain ⟨z0, z1, z2⟩ := (HL.out.low HB1.out hglt).read ha hlt; rw [hT] at z0; rw [hf] at z2; have zv := (HR.out.of_block (HB1.out.block _ hgf)).cell hlt; have za := (HR.out.of_block (HB1.out.block _ hgf)).cell ha; rw [hdv] at zv; rw [hda] at za; clear h1 HB HX HLk x0 x1 z1)
        go_quiet (fail)
        go_wp2
        go_roundw
        case rel => exact ⟨v + 1, m, by omega, by go_num, rfl, HNr, HX1.out, ⟨HB1.out.os, HB1.out.tape, HB1.out.output, HB1.out.size, HB1.out.block⟩⟩
        case measure => simp [intOf]; omega
      | true =>
        have hf0 := HF.out v hlt hT
        rw [hf] at hf0
        by_cases heq : dv = da - 1
        · have hp : nrP T D a v := ⟨hT, by rw [hdv, hda]; exact heq⟩
          have hb1 : (dv == da - 1) = true := by simpa using heq
          by_cases hm : m < 0
          · have hb2 : decide (m < 0) = true := by simpa using hm
            have HNr := hide (HN.out.take hp (by rw [hf]; exact hf0) (.inl hm))
            rw [hf] at HNr
            clear HN hp
            go_wp2_with (go_at_call 23; refine HLk.out.mono ?_; rintro e w1 ⟨rfl, h1⟩; have HB1 := hide (HB.out.trans (h1.mono HB.out.size)); have HX1 : Hid (w1.heap[w.heap.size]? = some (.cells #[.int .i64 (n : Int), .slice (some ⟨gl, 0, none⟩) (n * n) c] 47 (0, 0))) := (by show _ = _; rw [h1.block _ (Array.getElem?_eq_some_iff.1 HX.out).1]; exact HX.out); obtain ⟨z0, z1, z2⟩ := (HL.out.low HB1.out hglt).read ha hlt; rw [hT] at z0; rw [hf] at z2; have zv := (HR.out.of_block (HB1.out.block _ hgf)).cell hlt; have za := (HR.out.of_block (HB1.out.block _ hgf)).cell ha; rw [hdv] at zv; rw [hda] at za; clear h1 HB HX HLk x0 x1 z1)
            go_quiet (fail)
            go_wp2
            go_roundw
            case rel => exact ⟨v + 1, f, by omega, by go_num, rfl, HNr, HX1.out, ⟨HB1.out.os, HB1.out.tape, HB1.out.output, HB1.out.size, HB1.out.block⟩⟩
            case measure => simp [intOf]; omega
          · have hb2 : decide (m < 0) = false := by simpa using hm
            by_cases hfm : f < m
            · have hb3 : decide (f < m) = true := by simpa using hfm
              have HNr := hide (HN.out.take hp (by rw [hf]; exact hf0) (.inr (by rw [hf]; exact hfm)))
              rw [hf] at HNr
              clear HN hp
              go_wp2_with (go_at_call 23; refine HLk.out.mono ?_; rintro e w1 ⟨rfl, h1⟩; have HB1 := hide (HB.out.trans (h1.mono HB.out.size)); have HX1 : Hid (w1.heap[w.heap.size]? = some (.cells #[.int .i64 (n : Int), .slice (some ⟨gl, 0, none⟩) (n * n) c] 47 (0, 0))) := (by show _ = _; rw [h1.block _ (Array.getElem?_eq_some_iff.1 HX.out).1]; exact HX.out); obtain ⟨z0, z1, z2⟩ := (HL.out.low HB1.out hglt).read ha hlt; rw [hT] at z0; rw [hf] at z2; have zv := (HR.out.of_block (HB1.out.block _ hgf)).cell hlt; have za := (HR.out.of_block (HB1.out.block _ hgf)).cell ha; rw [hdv] at zv; rw [hda] at za; clear h1 HB HX HLk x0 x1 z1)
              go_quiet (fail)
              go_wp2
              go_roundw
              case rel => exact ⟨v + 1, f, by omega, by go_num, rfl, HNr, HX1.out, ⟨HB1.out.os, HB1.out.tape, HB1.out.output, HB1.out.size, HB1.out.block⟩⟩
              case measure => simp [intOf]; omega
            · have hb3 : decide (f < m) = false := by simpa using hfm
              have HNr := hide (HN.out.keep (fun _ => ⟨by omega, by rw [hf]; omega⟩))
              clear HN hp
              go_wp2_with (go_at_call 23; refine HLk.out.mono ?_; rintro e w1 ⟨rfl, h1⟩; have HB1 := hide (HB.out.trans (h1.mono HB.out.size)); have HX1 : Hid (w1.heap[w.heap.size]? = some (.cells #[.int .i64 (n : Int), .slice (some ⟨gl, 0, none⟩) (n * n) c] 47 (0, 0))) := (by show _ = _; rw [h1.block _ (Array.getElem?_eq_some_iff.1 HX.out).1]; exact HX.out); obtain ⟨z0, z1, z2⟩ := (HL.out.low HB1.out hglt).read ha hlt; rw [hT] at z0; rw [hf] at z2; have zv := (HR.out.of_block (HB1.out.block _ hgf)).cell hlt; have za := (HR.out.of_block (HB1.out.block _ hgf)).cell ha; rw [hdv] at zv; rw [hda] at za; clear h1 HB HX HLk x0 x1 z1)
              go_quiet (fail)
              go_wp2
              go_roundw
              case rel => exact ⟨v + 1, m, by omega, by go_num, rfl, HNr, HX1.out, ⟨HB1.out.os, HB1.out.tape, HB1.out.output, HB1.out.size, HB1.out.block⟩⟩
              case measure => simp [intOf]; omega
        · have hb1 : (dv == da - 1) = false := by simpa using heq
          have HNr := hide (HN.out.keep (fun hp => absurd (by have := hp.2; rw [hdv, hda] at this; exact this) heq))
          clear HN
          go_wp2_with (go_at_call 23; refine HLk.out.mono ?_; rintro e w1 ⟨rfl, h1⟩; have HB1 := hide (HB.out.trans (h1.mono HB.out.size)); have HX1 : Hid (w1.heap[w.heap.size]? = some (.cells #[.int .i64 (n : Int), .slice (some ⟨gl, 0, none⟩) (n * n) c] 47 (0, 0))) := (by show _ = _; rw [h1.block _ (Array.getElem?_eq_some_iff.1 HX.out).1]; exact HX.out); obtain ⟨z0, z1, z2⟩ := (HL.out.low HB1.out hglt).read ha hlt; rw [hT] at z0; rw [hf] at z2; have zv := (HR.out.of_block (HB1.out.block _ hgf)).cell hlt; have za := (HR.out.of_block (HB1.out.block _ hgf)).cell ha; rw [hdv] at zv; rw [hda] at za; clear h1 HB HX HLk x0 x1 z1)
          go_quiet (fail)
          go_wp2
          go_roundw
          case rel => exact ⟨v + 1, m, by omega, by go_num, rfl, HNr, HX1.out, ⟨HB1.out.os, HB1.out.tape, HB1.out.output, HB1.out.size, HB1.out.block⟩⟩
          case measure => simp [intOf]; omega
    · obtain rfl : v = n := by omega
      have hi : ¬ (v : Int) < (v : Int) := by omega
      go_wp2
      go_ret
      exact ⟨m, rfl, HN.out, HB.out⟩
end Go.Proofs.Ytmbkjgfnnpopgab
