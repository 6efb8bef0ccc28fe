/- edictlaw01's made: a valid constant. -/
import Derived.Test.YtleakainhpgldaaDoorProg
import Derived.Test.YtleakainhpgldaaDoorWordNm
import Derived.Test.YtleakainhpgldaaDoorSymRead
namespace Go.Proofs.YtleakainhpgldaaDoor
set_option linter.unusedSimpArgs false
set_option linter.unusedVariables false
open Go.RowKit
attribute [local go_sem] over_cellAt over_frozenAt over_setAt

theorem over_bel {U w x : World} {B : Nat} (h : Below B U w) (hB : B ≤ w.heap.size) : Below B U (over w x) := h.trans ((over_below w x).mono hB)
theorem valid_i (n : Int) : validC ⟨1, n, ⟨#[]⟩⟩ = true := by
  show (if (1 : Int) = 1 then _ else _) = true
  rw [if_pos rfl]
  rw [ByteArray.toList_eq]
  rfl
theorem valid_n {t : ByteArray} (h : isNameL t.toList = true) : validC ⟨2, 0, t⟩ = true := by
  show (if (2 : Int) = 1 then _ else if (2 : Int) = 2 then _ else _) = true
  rw [if_neg (by decide), if_pos rfl, h]
  rfl
theorem valid_t {t : ByteArray} (h : t.size ≤ 255) : validC ⟨3, 0, t⟩ = true := by
  show (if (3 : Int) = 1 then _ else if (3 : Int) = 2 then _ else if (3 : Int) = 3 then _ else _) = true
  rw [if_neg (by decide), if_neg (by decide), if_pos rfl]
  simp; omega
theorem name_size {t : ByteArray} (h : isNameL t.toList = true) : t.size ≤ 64 := by
  unfold isNameL isWordL at h
  simp only [Bool.and_eq_true, decide_eq_true_eq] at h
  have := h.1.2.1
  rw [ByteArray.toList_eq] at this
  exact this
theorem con_ok {k n : Int} {s : ByteArray} (h1 : I64 k) (h2 : I64 n) (h3 : s.size ≤ 140737488351232) : Con.ok ⟨k, n, s⟩ := ⟨h1, h2, h3⟩

set_option maxHeartbeats 2000000 in
set_option maxRecDepth 100000 in
theorem made_ok (c : Con) (hc : c.ok) (w : World) :
    Calls Tryd.prog 10 #[c.val] w fun e w' => (∃ d : Con, e = .returned d.val ∧ d.ok ∧ validC d = true) ∧ Below w.heap.size w w' := by
  obtain ⟨k, n, s⟩ := c
  have HW := hide (fun W => word_nm s W hc.2.2)
  have hk := hc.1
  have hn := hc.2.1
  have hs := hc.2.2
  unfold Con.val
  simp only at hk hn hs
  clear hc
  have ibig : I64 1 ∧ I64 2 ∧ I64 3 ∧ I64 0 := by unfold I64; omega
  by_cases h0 : (k.tmod 3 == 0) = true
  · go_enter Tryd.func10, Tryd.ntmps10
    go_wp2
    exact bodyPost_ret (v := .agg #[.int .i64 1, .int .i64 n, .string ⟨#[]⟩]) (by simp [results, Tryd.results10, go_sem]) rfl ⟨⟨⟨1, n, ⟨#[]⟩⟩, rfl, ⟨ibig.1, hn, (show (⟨#[]⟩ : ByteArray).size ≤ 140737488351232 from by decide)⟩, valid_i n⟩, ((Below.refl _ _).alloc (Nat.le_refl _) _).alloc (by simp) _⟩
  · replace h0 : (k.tmod 3 == 0) = false := by simpa using h0
    by_cases h1 : (k.tmod 3 == 1) = true
    · go_enter Tryd.func10, Tryd.ntmps10
      go_wp2_with (go_at_call 17; refine (HW.out _).mono ?_; rintro e w1 ⟨⟨t, rfl, hnm⟩, hb1⟩; obtain ⟨x, rfl⟩ := over_of hb1)
      exact bodyPost_ret (v := .agg #[.int .i64 2, .int .i64 0, .string t]) (by simp [results, Tryd.results10, go_sem]) rfl ⟨⟨⟨2, 0, t⟩, rfl, ⟨ibig.2.1, ibig.2.2.2, (show t.size ≤ _ from by have := name_size hnm; omega)⟩, valid_n hnm⟩, over_bel (((Below.refl _ _).alloc (Nat.le_refl _) _).alloc (by simp) _) (by simp; omega)⟩
    · replace h1 : (k.tmod 3 == 1) = false := by simpa using h1
      by_cases h2 : (k.tmod 3 == -1) = true
      · go_enter Tryd.func10, Tryd.ntmps10
        go_wp2_with (go_at_call 17; refine (HW.out _).mono ?_; rintro e w1 ⟨⟨t, rfl, hnm⟩, hb1⟩; obtain ⟨x, rfl⟩ := over_of hb1)
        exact bodyPost_ret (v := .agg #[.int .i64 2, .int .i64 0, .string t]) (by simp [results, Tryd.results10, go_sem]) rfl ⟨⟨⟨2, 0, t⟩, rfl, ⟨ibig.2.1, ibig.2.2.2, (show t.size ≤ _ from by have := name_size hnm; omega)⟩, valid_n hnm⟩, over_bel (((Below.refl _ _).alloc (Nat.le_refl _) _).alloc (by simp) _) (by simp; omega)⟩
      · replace h2 : (k.tmod 3 == -1) = false := by simpa using h2
        by_cases h3 : s.size < 255
        · have h4 : (s.size : Int) < 255 := by omega
          go_enter Tryd.func10, Tryd.ntmps10
          go_wp2
          exact bodyPost_ret (v := .agg #[.int .i64 3, .int .i64 0, .string (s.extract 0 (min 255 (s.size : Int)).toNat)]) (by simp [results, Tryd.results10, go_sem]) rfl ⟨⟨⟨3, 0, (s.extract 0 (min 255 (s.size : Int)).toNat)⟩, rfl, ⟨ibig.2.2.1, ibig.2.2.2, (show (s.extract 0 (min 255 (s.size : Int)).toNat).size ≤ _ from by rw [ByteArray.size_extract]; omega)⟩, valid_t (by rw [ByteArray.size_extract]; omega)⟩, ((Below.refl _ _).alloc (Nat.le_refl _) _).alloc (by simp) _⟩
        · have h4 : ¬ (s.size : Int) < 255 := by omega
          have h5 : (255 : Int) ≤ (s.size : Int) := by omega
          go_enter Tryd.func10, Tryd.ntmps10
          go_wp2
          exact bodyPost_ret (v := .agg #[.int .i64 3, .int .i64 0, .string (s.extract 0 (min 255 (s.size : Int)).toNat)]) (by simp [results, Tryd.results10, go_sem]) rfl ⟨⟨⟨3, 0, (s.extract 0 (min 255 (s.size : Int)).toNat)⟩, rfl, ⟨ibig.2.2.1, ibig.2.2.2, (show (s.extract 0 (min 255 (s.size : Int)).toNat).size ≤ _ from by rw [ByteArray.size_extract]; omega)⟩, valid_t (by rw [ByteArray.size_extract]; omega)⟩, ((Below.refl _ _).alloc (Nat.le_refl _) _).alloc (by simp) _⟩
end Go.Proofs.YtleakainhpgldaaDoor
