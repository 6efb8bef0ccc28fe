/- The law's shapesOf: shapes with lists of their own. -/
import Derived.Test.YtpbcimpbddabeaaAlphaSame
import Derived.Test.YtpbcimpbddabeaaSpread
import Derived.Deep.RegionHeld3
namespace Go.Proofs.Ytpbcimpbddabeaa
set_option linter.unusedSimpArgs false
set_option linter.unusedVariables false
open Go.RowKit

theorem Try.infoShp : (Try.prog.info? 32).map (fun i => (i.zero, i.size, i.bytes)) = some (some (.agg #[.int .i64 0, .slice none 0 0]), 2, 32) := by kernel_rfl
theorem Try.infoInt10 : (Try.prog.info? 3).map (fun i => (i.zero, i.size, i.bytes)) = some (some (.int .i64 0), 1, 8) := by kernel_rfl
theorem take_snoc10 {α : Type} {l : List α} {k : Nat} {x : α} (hx : l[k]? = some x) : l.take (k + 1) = l.take k ++ [x] := by rw [List.take_add_one, hx]; rfl

/-- A shape whose cells were made behind a list lies elsewhere than that list. -/
theorem roe_new {w0 V V' : World} {e : TypeId} {base : Nat} {m v : Value} {L : List Roe} {l : List Int} {t : TypeId} {q : Int} (hm : Grow elRoe t base w0 m L) (hb : base ≤ w0.heap.size) (hq : I64 q) (hl : l.length < 1073741824) (h : Grow elInt e w0.heap.size V v l) (hV : Below V.heap.size V V') :
    elRoe.ok V' (fun b => base ≤ b ∧ m.ownBlock ≠ some b) ⟨q, v, l⟩ :=
  ⟨hq, (h.new hl).move fun b hlt hF => ⟨⟨Nat.le_trans hb hF, fun e => by have := own_lt6 hm.1 b e; omega⟩, hV.block b hlt⟩⟩

set_option maxHeartbeats 2000000 in
theorem shapesOf_any {w : World} {v : Value} {l : List Roe} (h : Has elRoe w v l) :
    Calls Try.prog 13 #[v] w fun e w' => ∃ v', e = .returned v' ∧ ∃ l', Grow elRoe 32 w.heap.size w' v' l' ∧ l'.map rk = l.map rk ∧ Below w.heap.size w w' := by
  obtain ⟨i0, hi0, hz0, hz1, hz2⟩ := info_parts Try.infoShp
  obtain ⟨j0, hj0, hy0, hy1, hy2⟩ := info_parts Try.infoInt10
  obtain ⟨va, vc, rfl, -, -, hlen⟩ := h.shape
  have HL := hide h
  clear h
  go_enter Try.func13, Try.ntmps13
  go_wp2
  go_loopw [3, 4] (fun m i wl => ∃ (k : Nat) (l' : List Roe), k ≤ l.length ∧ i = .int .i64 k ∧ Hid (l'.map rk = (l.take k).map rk) ∧ Hid (Grow elRoe 32 w.heap.size wl m l') ∧ Hid (Below w.heap.size w wl)) (fun _ i _ => l.length - (intOf i).toNat)
  case atStart => exact ⟨0, [], by omega, rfl, rfl, Grow.nil _ _ _ _, Below.refl _ _⟩
  case round =>
    obtain ⟨k, l', hk, rfl, HE, HG, HB⟩ := hrel
    have HLn : Hid (l'.length = k) := by
      show _ = _
      have := congrArg List.length HE.out
      simp only [List.length_map, List.length_take] at this
      omega
    obtain ⟨oa, oc, hsh, -, -⟩ := HG.out.shape
    rw [HLn.out] at hsh
    subst hsh
    by_cases hlt : k < l.length
    · have hi : (k : Int) < (l.length : Int) := by omega
      have hi0' : (0 : Int) ≤ (k : Int) := by omega
      obtain ⟨b, off, rfl, -, -, hrow⟩ := HL.out.row (by omega)
      obtain ⟨x, hx⟩ : ∃ x, l[k]? = some x := ⟨_, List.getElem?_eq_getElem hlt⟩
      have hok := elRoe_ok (HL.out.ok (List.mem_of_getElem? hx))
      obtain ⟨xa, xc, hxv, -, -, hxl⟩ := hok.2.shape
      obtain ⟨q, xv, xl⟩ := x
      dsimp only at hok hxv hxl
      have HSc : Hid (∀ V : World, Below w.heap.size w V → V.cell? ⟨b, off + k * 2, none⟩ = some (.int .i64 q) ∧ V.cell? ⟨b, off + k * 2 + 1, none⟩ = some (.slice xa xl.length xc)) := fun V hV => by
        have y0 := kept_cell hV (hrow k _ hx 0 _ rfl)
        have y1 := kept_cell hV (hrow k _ hx 1 _ rfl)
        simp only [elRoe, Nat.add_zero] at y0 y1
        rw [hxv] at y1
        exact ⟨y0, y1⟩
      have y := HSc.out _ HB.out
      have y0 := y.1
      have y1 := y.2
      have HTk := hide (take_snoc10 hx)
      have HX : Hid (∀ V : World, Below w.heap.size w V → Has elInt V (.slice xa xl.length xc) xl) := fun V hV => by rw [← hxv]; exact hok.2.kept hV
      have HQ := hide hok.1
      have HOx : Hid (∀ y ∈ xl, ∀ (V : World) G, elInt.ok V G y) := fun y hy V G => hok.2.ok hy
      clear hrow hx hok hxv y
      have HBd : Hid (Below w.heap.size w (wr.drew.alloc (.cells #[] 3))) := (HB.out.drew).alloc HB.out.size _
      have HBr : Hid (Below wr.heap.size wr (wr.drew.alloc (.cells #[] 3))) := ((Below.refl _ wr).drew).alloc (Nat.le_refl _) _
      have HGe : Hid (Grow elInt 3 wr.heap.size (wr.drew.alloc (.cells #[] 3)) (.slice (some ⟨wr.heap.size, 0, none⟩) 0 0) []) := Grow.empty elInt 3 wr.heap.size wr.drew (Nat.le_refl _)
      go_wp2
      go_region_held3 (fun V => V.cell? ⟨b, off + k * 2, none⟩ = some (.int .i64 q) ∧ V.cell? ⟨b, off + k * 2 + 1, none⟩ = some (.slice xa xl.length xc))
        (first
          | exact HSc.out _ HB.out
          | exact HSc.out _ HB.out.drew
          | exact HSc.out _ HBd.out
          | exact HSc.out _ HB2w.out
          | exact HSc.out _ HB3.out
          | exact HSc.out _ HB4.out)
        (first
          | (refine step_spread (w0 := wr) elInt (by rfl) _ _ 25 (by rfl) wr.heap.size 3 j0 _ 8 Try.underlying25 hj0 hy0 hy1 hy2 rfl (by decide) _ [] (by rfl) HGe.out (fun _ => True) _ xl.length _ xl rfl (by rfl) (HX.out _ HBd.out) HOx.out (by simpa using hxl) HBr.out (by simp; try omega) ?_; intro v2 w2 HG2 HB2 HGr2; obtain ⟨va2, vc2, hv2, -, -⟩ := HG2.out.shape; subst hv2; have HB2w : Hid (Below w.heap.size w w2) := HB.out.trans (HB2.out.mono HB.out.size); have HB3 : Hid (Below w.heap.size w (w2.alloc (.cells #[.int .i64 q, .slice va2 xl.length vc2] 32))) := HB2w.out.alloc HB2w.out.size _; have HGm : Hid (Grow elRoe 32 w.heap.size (w2.alloc (.cells #[.int .i64 q, .slice va2 xl.length vc2] 32)) (.slice oa k oc) l') := HG.out.kept (HB2.out.alloc HB2.out.size _); have HOk := hide (roe_new HG.out HB.out.size HQ.out hxl HG2.out (belo1 w2 (.cells #[.int .i64 q, .slice va2 xl.length vc2] 32))); clear HGr2)
          | (refine step_push (w0 := w) elRoe (by rfl) _ _ 39 (by rfl) w.heap.size 32 i0 _ 32 Try.underlying39 hi0 hz0 hz1 hz2 rfl (by decide) _ l' k HLn.out (by rfl) HGm.out ⟨q, .slice va2 xl.length vc2, xl⟩ w2.heap.size 1 (by rfl) (fun j u hu => new_cells (cs := #[.int .i64 q, .slice va2 xl.length vc2]) j u hu) HOk.out (by omega) HB3.out HB3.out.size ?_; intro g cap' w4 HG4 HB4 HGr4; clear HGr4))
      go_wp2
      go_roundw
      case rel => exact ⟨k + 1, _, by omega, by go_num, by show _ = _; rw [HTk.out, List.map_append, List.map_append, HE.out]; rfl, HG4, HB4⟩
      case measure => simp [intOf]; omega
    · obtain rfl : k = l.length := by omega
      have hi : ¬ (l.length : Int) < (l.length : Int) := by omega
      have HE2 := HE.out
      rw [List.take_of_length_le (Nat.le_refl _)] at HE2
      go_wp2
      go_ret
      exact ⟨_, rfl, l', HG.out, HE2, HB.out⟩
end Go.Proofs.Ytpbcimpbddabeaa
