/- What stuckText of edicttop answers where no text can stand. -/
import Derived.Test.YtplldgkdjainlaaDoorProg
import Derived.Test.YtplldgkdjainlaaDoorTopStI
import Derived.Test.YtplldgkdjainlaaDoorTopEsc
namespace Go.Proofs.YtplldgkdjainlaaDoor
set_option linter.unusedSimpArgs false
set_option linter.unusedVariables false
open Go.RowKit

theorem flt_cells {V : World} {b : Nat} {u0 u1 u2 : Value} (h : V.heap[b]? = some (.cells #[u0, u1, u2] 25 (0, 0))) : V.cell? ⟨b, 0, none⟩ = some u0 ∧ V.cell? ⟨b, 1, none⟩ = some u1 ∧ V.cell? ⟨b, 2, none⟩ = some u2 ∧ V.frozen? ⟨b, 0, none⟩ = false ∧ V.frozen? ⟨b, 1, none⟩ = false ∧ V.frozen? ⟨b, 2, none⟩ = false := by
  refine ⟨?_, ?_, ?_, ?_, ?_, ?_⟩ <;> simp [World.cell?, World.frozen?, h]
theorem flt_put {V : World} {b : Nat} {u0 u1 u2 : Value} (h : V.heap[b]? = some (.cells #[u0, u1, u2] 25 (0, 0))) (x0 x1 x2 : Value) : (((V.setCell ⟨b, 0, none⟩ x0).setCell ⟨b, 1, none⟩ x1).setCell ⟨b, 2, none⟩ x2).heap[b]? = some (.cells #[x0, x1, x2] 25 (0, 0)) := by
  simp [World.setCell, Array.getElem?_modify, h]
theorem flt_bel {w V : World} (h : Below w.heap.size w V) (x0 x1 x2 : Value) : Below w.heap.size w (((V.setCell ⟨w.heap.size, 0, none⟩ x0).setCell ⟨w.heap.size, 1, none⟩ x1).setCell ⟨w.heap.size, 2, none⟩ x2) := ((h.setCell (Nat.le_refl _) _).setCell (Nat.le_refl _) _).setCell (Nat.le_refl _) _
theorem stTRes (W : World) (b : Nat) (u0 u1 u2 : Value) (tmps : Array Value) (ht : tmps[4]? = some (.pointer (some ⟨b, 0, none⟩))) (hb : W.heap[b]? = some (.cells #[u0, u1, u2] 25 (0, 0))) :
    (results Tryd.f18 tmps).run Tryd.prog W = .ok (.agg #[u0, u1, u2]) W := by
  obtain ⟨c0, c1, c2, -⟩ := flt_cells hb
  simp [results, Tryd.results18, go_sem, ht, c0, c1, c2]

set_option maxRecDepth 100000 in
set_option maxHeartbeats 4000000 in
theorem stuckText_bad (s : ByteArray) (o : Nat) (c : Int) (f : Nat) (w : World) (hs : s.size ≤ 140737488351232) (ho : o < s.size) (hx : textX s o = .bad c f) :
    Calls Tryd.prog 18 #[.string s, .int .i64 o] w fun e w' => e = .returned (.agg #[.int .i64 c, .int .i64 0, .int .i64 f]) ∧ Below w.heap.size w w' := by
  have HX0 := hide hx
  have HZ0 : Hid ((w.alloc (.cells #[.int .i64 0, .int .i64 0, .int .i64 0] 25)).heap[w.heap.size]? = some (.cells #[.int .i64 0, .int .i64 0, .int .i64 0] 25 (0, 0))) := heap_alloc_new w _
  have HBl := hide (belowA w (.cells #[.int .i64 0, .int .i64 0, .int .i64 0] 25))
  clear hx
  go_enter Tryd.func18, Tryd.ntmps18
  go_wp2
  generalize w.alloc (.cells #[.int .i64 0, .int .i64 0, .int .i64 0] 25) = W0 at *
  go_loopw [5, 6] (fun nv i wl => ∃ (j : Nat) (vs : List Int), o < j ∧ j ≤ s.size ∧ vs.length ≤ 255 ∧ nv = .int .i64 vs.length ∧ i = .int .i64 j ∧ Hid (textF s o j vs = .bad c f) ∧ Hid (wl.heap[w.heap.size]? = some (.cells #[.int .i64 0, .int .i64 0, .int .i64 0] 25 (0, 0))) ∧ Hid (Below w.heap.size w wl)) (fun _ i _ => s.size - (intOf i).toNat)
  case atStart => exact ⟨o + 1, [], by omega, by omega, by simp, rfl, by go_num, HX0, HZ0, HBl⟩
  case round =>
    clear HX0 HZ0 HBl
    obtain ⟨j, vs, hj0, hj, hvl, rfl, rfl, HX, HZ, HB⟩ := hrel
    obtain ⟨n, hn⟩ : ∃ n, n = vs.length := ⟨_, rfl⟩
    rw [← hn] at hvl ⊢
    obtain ⟨b0, b1, b2, l0, l1, l2⟩ := flt_cells HZ.out
    have hji : (0 : Int) ≤ (j : Int) := by omega
    by_cases hlt : j < s.size
    · have hi : (j : Int) < (s.size : Int) := by omega
      have hX := HX.out
      rw [textF] at hX
      rw [dif_pos hlt] at hX
      by_cases h32 : (s[j].toNat : Int) < 32
      · rw [if_pos h32] at hX
        injection hX with e1 e2
        subst e1 e2
        go_wp2
        exact bodyPost_ret (stTRes _ w.heap.size _ _ _ _ rfl (flt_put HZ.out _ _ _)) rfl ⟨rfl, flt_bel HB.out _ _ _⟩
      rw [if_neg h32] at hX
      by_cases h34 : (s[j].toNat : Int) = 34
      · rw [if_pos h34] at hX; cases hX
      rw [if_neg h34] at hX
      have f34 : ((s[j].toNat : Int) == 34) = false := by simpa using h34
      by_cases h92 : (s[j].toNat : Int) = 92
      · rw [if_pos h92] at hX
        have f92 : ((s[j].toNat : Int) == 92) = true := by simpa using h92
        have hbb := escX_bounds (s.extract j s.size)
        have HE := hide (fun W => tesc_any s j W hs hlt)
        obtain ⟨b, m, hbm⟩ : ∃ (b : Int) (m : Nat), escX (s.extract j s.size) = (b, (m : Int)) := ⟨(escX (s.extract j s.size)).1, (escX (s.extract j s.size)).2.toNat, Prod.ext rfl (by show _ = ((escX (s.extract j s.size)).2.toNat : Int); omega)⟩
        rw [escV_of hbm] at HE
        rw [hbm] at hX hbb
        simp only [Int.toNat_natCast] at hX hbb
        have hmz : j + m ≤ s.size := by have := hbb.1; rw [ByteArray.size_extract] at this; omega
        by_cases hm0 : m = 0
        · rw [dif_pos hm0] at hX
          injection hX with e1 e2
          subst e1 e2 hm0
          clear hbm hbb
          go_wp2_with (go_at_call 31; refine (HE.out _).mono ?_; rintro e w3 ⟨rfl, hb3⟩; have HZ3 := hide ((hb3.block _ (Array.getElem?_eq_some_iff.1 HZ.out).1).trans HZ.out); have HB3 := hide (HB.out.trans (hb3.mono HB.out.size)); clear hb3; obtain ⟨x0, x1, x2, y0, y1, y2⟩ := flt_cells HZ3.out)
          exact bodyPost_ret (stTRes _ w.heap.size _ _ _ _ rfl (flt_put HZ3.out _ _ _)) rfl ⟨rfl, flt_bel HB3.out _ _ _⟩
        · rw [dif_neg hm0] at hX
          have fm : ((m : Int) == 0) = false := by simp; omega
          by_cases h255 : vs.length = 255
          · rw [if_pos h255] at hX
            injection hX with e1 e2
            subst e1 e2
            have fn : ((n : Int) == 255) = true := by simp; omega
            clear hbm hbb
            go_wp2_with (go_at_call 31; refine (HE.out _).mono ?_; rintro e w3 ⟨rfl, hb3⟩; have HZ3 := hide ((hb3.block _ (Array.getElem?_eq_some_iff.1 HZ.out).1).trans HZ.out); have HB3 := hide (HB.out.trans (hb3.mono HB.out.size)); clear hb3; obtain ⟨x0, x1, x2, y0, y1, y2⟩ := flt_cells HZ3.out)
            exact bodyPost_ret (stTRes _ w.heap.size _ _ _ _ rfl (flt_put HZ3.out _ _ _)) rfl ⟨rfl, flt_bel HB3.out _ _ _⟩
          · rw [if_neg h255] at hX
            have fn : ((n : Int) == 255) = false := by simp; omega
            have HX2 := hide hX
            clear hbm hbb hX
            go_wp2_with (go_at_call 31; refine (HE.out _).mono ?_; rintro e w3 ⟨rfl, hb3⟩; have HZ3 := hide ((hb3.block _ (Array.getElem?_eq_some_iff.1 HZ.out).1).trans HZ.out); have HB3 := hide (HB.out.trans (hb3.mono HB.out.size)); clear hb3)
            go_roundw
            case rel => exact ⟨j + m, vs ++ [b], by omega, hmz, by rw [List.length_append]; simp only [List.length_cons, List.length_nil]; omega, by rw [List.length_append, ← hn]; go_num, by go_num, HX2, HZ3, HB3⟩
            case measure => simp [intOf]; omega
      · rw [if_neg h92] at hX
        have f92 : ((s[j].toNat : Int) == 92) = false := by simpa using h92
        by_cases h255 : vs.length = 255
        · rw [if_pos h255] at hX
          injection hX with e1 e2
          subst e1 e2
          have fn : ((n : Int) == 255) = true := by simp; omega
          go_wp2
          exact bodyPost_ret (stTRes _ w.heap.size _ _ _ _ rfl (flt_put HZ.out _ _ _)) rfl ⟨rfl, flt_bel HB.out _ _ _⟩
        · rw [if_neg h255] at hX
          have fn : ((n : Int) == 255) = false := by simp; omega
          have HX2 := hide hX
          clear hX
          go_wp2
          go_roundw
          case rel => exact ⟨j + 1, vs ++ [(s[j].toNat : Int)], by omega, by omega, by rw [List.length_append]; simp only [List.length_cons, List.length_nil]; omega, by rw [List.length_append, ← hn]; go_num, by go_num, HX2, HZ, HB⟩
          case measure => simp [intOf]; omega
    · have hi : ¬ (j : Int) < (s.size : Int) := by omega
      have hX := HX.out
      rw [textF] at hX
      rw [dif_neg hlt] at hX
      injection hX with e1 e2
      subst e1 e2
      go_wp2
      exact bodyPost_ret (stTRes _ w.heap.size _ _ _ _ rfl (flt_put HZ.out _ _ _)) rfl ⟨rfl, flt_bel HB.out _ _ _⟩
end Go.Proofs.YtplldgkdjainlaaDoor
