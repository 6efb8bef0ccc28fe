/- (strata.graph).asked: the level that the links into a predicate ask for. -/
import Derived.Test.YtjifhmlfnnagcaaLevelsPure
import Derived.Test.YtjifhmlfnnagcaaGraphBad
namespace Go.Proofs.Ytjifhmlfnnagcaa
set_option linter.unusedSimpArgs false
set_option linter.unusedVariables false
open Go.RowKit Go.Maps

theorem LinksAt.read {w : World} {gl n : Nat} {T N : Nat → Nat → Bool} {F : Nat → Nat → Int} (h : LinksAt w gl n T N F) {u v : Nat} (hu : u < n) (hv : v < n) : w.cell? ⟨gl, (u * n + v) * 3, none⟩ = some (.bool (T u v)) ∧ w.cell? ⟨gl, (u * n + v) * 3 + 1, none⟩ = some (.bool (N u v)) ∧ w.cell? ⟨gl, (u * n + v) * 3 + 2, none⟩ = some (.int .i64 (F u v)) := by
  obtain ⟨cur, h1, h2, h3⟩ := h
  obtain ⟨a, b, c⟩ := h3 u v hu hv
  refine ⟨?_, ?_, ?_⟩ <;> simp [World.cell?, h1] <;> assumption

set_option maxHeartbeats 1000000 in
theorem asked_any {w : World} {gl n c gx q : Nat} {T N : Nat → Nat → Bool} {F : Nat → Nat → Int} {X : Nat → Int} (h : LinksAt w gl n T N F) (hn : n ≤ 128) (hq : q < n) (hx : w.rowIs gx 3 n (fun i => .int .i64 (X i))) (hX : ∀ p, p < n → 0 ≤ X p ∧ X p ≤ 1000000) :
    Calls Try.prog 40 #[.agg #[.int .i64 (n : Int), .slice (some ⟨gl, 0, none⟩) (n * n) c], .int .i64 (q : Int), .slice (some ⟨gx, 0, none⟩) n n] w fun e w' => e = .returned (.int .i64 (askV T N X q n)) ∧ Below w.heap.size w w' := by
  have HL := hide h
  have HR := hide hx
  have HXb := hide hX
  have hglt := h.lt
  have hgx := hx.lt
  clear h hx hX
  go_enter Try.func40, Try.ntmps40
  go_wp2
  go_loopw [7, 12] (fun lv i wl => ∃ k : Nat, k ≤ n ∧ i = .int .i64 k ∧ lv = .int .i64 (askV T N X q k) ∧ Hid (wl.heap[w.heap.size]? = some (.cells #[.int .i64 (n : Int), .slice (some ⟨gl, 0, none⟩) (n * n) c] 48 (0, 0))) ∧ Hid (Below w.heap.size w wl)) (fun _ i _ => n - (intOf i).toNat)
  case atStart => exact ⟨0, by omega, rfl, rfl, heap_alloc_new _ _, (Below.refl _ w).alloc (Nat.le_refl _) _⟩
  case round =>
    obtain ⟨u, hu, rfl, rfl, HX, HB⟩ := hrel
    by_cases hlu : u < n
    · have hi : (u : Int) < (n : Int) := by omega
      have hi0 : (0 : Int) ≤ (u : Int) := by omega
      have x0 : wr.cell? ⟨w.heap.size, 0, none⟩ = some (.int .i64 (n : Int)) := by simp [World.cell?, HX.out]
      have x1 : wr.cell? ⟨w.heap.size, 1, none⟩ = some (.slice (some ⟨gl, 0, none⟩) (n * n) c) := by simp [World.cell?, HX.out]
      have HLk := hide (link_any (w := wr) (gl := gl) (c := c) hn hlu hq)
      have HAs : Hid (askV T N X q (u + 1) = if N u q then max (askV T N X q u) (X u + 1) else if T u q then max (askV T N X q u) (X u) else askV T N X q u) := rfl
      obtain ⟨hX0, hX1⟩ := HXb.out u hlu
      obtain ⟨xu, hxu⟩ : ∃ xu, X u = xu := ⟨_, rfl⟩
      obtain ⟨av, hav⟩ : ∃ av, askV T N X q u = av := ⟨_, rfl⟩
      rw [hxu] at HAs hX0 hX1
      rw [hav] at HAs ⊢
      have hxu' : (fun i => Value.int .i64 (X i)) u = .int .i64 xu := by simp [hxu]
      cases hN : N u q with
      | true =>
        rw [hN, if_pos rfl] at HAs
        have hTN : ∃ tb, T u q = tb := ⟨_, rfl⟩
        obtain ⟨tb, hT⟩ := hTN
        by_cases hm : av < xu + 1
        · go_wp2_with (go_at_call 34; refine HLk.out.mono ?_; rintro e w1 ⟨rfl, h1⟩; have HB1 := hide (HB.out.trans (h1.mono HB.out.size)); have HX1 : Hid (w1.heap[w.heap.size]? = some (.cells #[.int .i64 (n : Int), .slice (some ⟨gl, 0, none⟩) (n * n) c] 48 (0, 0))) := (by show _ = _; rw [h1.block _ (Array.getElem?_eq_some_iff.1 HX.out).1]; exact HX.out); obtain ⟨z0, z1, -⟩ := (HL.out.low HB1.out hglt).read hlu hq; rw [hT] at z0; rw [hN] at z1; have zx := (HR.out.of_block (HB1.out.block _ hgx)).cell hlu; clear h1 HB HX HLk x0 x1)
          go_roundw
          case rel => exact ⟨u + 1, by omega, by go_num, by rw [HAs.out]; simp; omega, HX1, HB1⟩
          case measure => simp [intOf]; omega
        · go_wp2_with (go_at_call 34; refine HLk.out.mono ?_; rintro e w1 ⟨rfl, h1⟩; have HB1 := hide (HB.out.trans (h1.mono HB.out.size)); have HX1 : Hid (w1.heap[w.heap.size]? = some (.cells #[.int .i64 (n : Int), .slice (some ⟨gl, 0, none⟩) (n * n) c] 48 (0, 0))) := (by show _ = _; rw [h1.block _ (Array.getElem?_eq_some_iff.1 HX.out).1]; exact HX.out); obtain ⟨z0, z1, -⟩ := (HL.out.low HB1.out hglt).read hlu hq; rw [hT] at z0; rw [hN] at z1; have zx := (HR.out.of_block (HB1.out.block _ hgx)).cell hlu; clear h1 HB HX HLk x0 x1)
          go_roundw
          case rel => exact ⟨u + 1, by omega, by go_num, by rw [HAs.out]; simp; omega, HX1, HB1⟩
          case measure => simp [intOf]; omega
      | false =>
        rw [hN, if_neg (by simp)] at HAs
        cases hT : T u q with
        | true =>
          rw [hT, if_pos rfl] at HAs
          by_cases hm : av < xu
          · go_wp2_with (go_at_call 34; refine HLk.out.mono ?_; rintro e w1 ⟨rfl, h1⟩; have HB1 := hide (HB.out.trans (h1.mono HB.out.size)); have HX1 : Hid (w1.heap[w.heap.size]? = some (.cells #[.int .i64 (n : Int), .slice (some ⟨gl, 0, none⟩) (n * n) c] 48 (0, 0))) := (by show _ = _; rw [h1.block _ (Array.getElem?_eq_some_iff.1 HX.out).1]; exact HX.out); obtain ⟨z0, z1, -⟩ := (HL.out.low HB1.out hglt).read hlu hq; rw [hT] at z0; rw [hN] at z1; have zx := (HR.out.of_block (HB1.out.block _ hgx)).cell hlu; clear h1 HB HX HLk x0 x1)
            go_roundw
            case rel => exact ⟨u + 1, by omega, by go_num, by rw [HAs.out]; simp; omega, HX1, HB1⟩
            case measure => simp [intOf]; omega
          · go_wp2_with (go_at_call 34; refine HLk.out.mono ?_; rintro e w1 ⟨rfl, h1⟩; have HB1 := hide (HB.out.trans (h1.mono HB.out.size)); have HX1 : Hid (w1.heap[w.heap.size]? = some (.cells #[.int .i64 (n : Int), .slice (some ⟨gl, 0, none⟩) (n * n) c] 48 (0, 0))) := (by show _ = _; rw [h1.block _ (Array.getElem?_eq_some_iff.1 HX.out).1]; exact HX.out); obtain ⟨z0, z1, -⟩ := (HL.out.low HB1.out hglt).read hlu hq; rw [hT] at z0; rw [hN] at z1; have zx := (HR.out.of_block (HB1.out.block _ hgx)).cell hlu; clear h1 HB HX HLk x0 x1)
            go_roundw
            case rel => exact ⟨u + 1, by omega, by go_num, by rw [HAs.out]; simp; omega, HX1, HB1⟩
            case measure => simp [intOf]; omega
        | false =>
          rw [hT, if_neg (by simp)] at HAs
          go_wp2_with (go_at_call 34; refine HLk.out.mono ?_; rintro e w1 ⟨rfl, h1⟩; have HB1 := hide (HB.out.trans (h1.mono HB.out.size)); have HX1 : Hid (w1.heap[w.heap.size]? = some (.cells #[.int .i64 (n : Int), .slice (some ⟨gl, 0, none⟩) (n * n) c] 48 (0, 0))) := (by show _ = _; rw [h1.block _ (Array.getElem?_eq_some_iff.1 HX.out).1]; exact HX.out); obtain ⟨z0, z1, -⟩ := (HL.out.low HB1.out hglt).read hlu hq; rw [hT] at z0; rw [hN] at z1; have zx := (HR.out.of_block (HB1.out.block _ hgx)).cell hlu; clear h1 HB HX HLk x0 x1)
          go_roundw
          case rel => exact ⟨u + 1, by omega, by go_num, by rw [HAs.out], HX1, HB1⟩
          case measure => simp [intOf]; omega
    · obtain rfl : u = n := by omega
      have hi : ¬ (u : Int) < (u : Int) := by omega
      go_wp2
      go_ret
      exact ⟨rfl, HB.out⟩
end Go.Proofs.Ytjifhmlfnnagcaa
