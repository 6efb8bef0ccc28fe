/- edictlaw02.kindsOf and refused: the numbers of a text's tokens. -/
import Derived.Test.YtgbnoggapejinaaDoorProg
import Derived.Test.YtgbnoggapejinaaDoorLexSame
import Derived.Deep.RegionHeld3
import Derived.Deep.AppendLies
namespace Go.Proofs.YtgbnoggapejinaaDoor
set_option linter.unusedSimpArgs false
set_option linter.unusedVariables false
open Go.RowKit

theorem Tryd.infoInt : (Tryd.prog.info? 3).map (fun i => (i.zero, i.size, i.bytes)) = some (some (.int .i64 0), 1, 8) := by kernel_rfl

def kindV (t : Tok) : Value := .int .i64 (IntKind.i64.wrap (IntKind.i64.wrap (t.k * 10) + t.op))

theorem own_ge {w : World} {base : Nat} {e : TypeId} {size n : Nat} {v : Value} {xs : List Value} {g : Nat} (h : w.ownsRow base e size v n xs) (hg : g < base) : v.ownBlock ≠ some g := by
  rcases h.2 with ⟨h0, _⟩ | ⟨g', cap, cur, hv, hbase, _⟩
  · rw [h0]; intro h; cases h
  · rw [hv]
    intro h
    have : g' = g := by simpa [Value.ownBlock] using h
    omega

set_option maxHeartbeats 4000000 in
set_option maxRecDepth 100000 in
theorem kindsOf_any (s : ByteArray) (w : World) (hl : LexLaid w) (hs : s.size ≤ 140737488351232) (hL : (scanX s).1.length ≤ 65537) :
    Calls Tryd.prog 9 #[.string s] w fun e w' => ∃ v, e = .returned (.tuple #[v, .int .i64 (scanX s).2.1]) ∧ w'.ownsRow w.heap.size 3 1 v (scanX s).1.length ((scanX s).1.map kindV) ∧ Below w.heap.size w w' := by
  obtain ⟨i0, hi0, hz0, hz1, hz2⟩ := info_parts Tryd.infoInt
  have HS := hide (scan_any s w hl hs)
  generalize scanX s = R at *
  obtain ⟨L, c, f⟩ := R
  simp only at HS hL ⊢
  obtain ⟨n, hn⟩ : ∃ n, n = L.length := ⟨_, rfl⟩
  rw [← hn] at HS hL ⊢
  have HN := hide hn
  unfold faultVal at HS
  clear hn hl
  go_enter Tryd.func9, Tryd.ntmps9
  go_wp2_with (first
    | (go_at_call 12; refine HS.out.mono ?_; rintro e w1 ⟨v, rfl, hown, hb1⟩; obtain ⟨ao, cp, rfl⟩ := own_shape hown; have HT : Hid (IsToks w1 (.slice ao n cp) L) := (by rw [HN.out] at hown ⊢; exact own_isToks hown); have HB1 := hide hb1; clear hown hb1 HS))
  obtain ⟨U, hU⟩ : ∃ U, U = w1.alloc (.cells #[.int .i64 c, .int .i64 0, .int .i64 (f : Int)] 31) := ⟨_, rfl⟩
  have hUb : Below w1.heap.size w1 U := by rw [hU]; exact (Below.refl _ _).alloc (Nat.le_refl _) _
  have hUs : U.heap.size = w1.heap.size + 1 := by rw [hU]; simp
  have hbx : box3 w1.heap.size U c 0 f := by rw [hU]; exact heap_alloc_new w1 _
  rw [← hU]
  clear hU
  have HUb := hide hUb
  have HUs := hide hUs
  have HBx := hide hbx
  clear hUb hbx hUs
  go_loopw [6, 7] (fun o i wr => ∃ (k : Nat), k ≤ n ∧ i = .int .i64 k ∧ Hid (wr.ownsRow U.heap.size 3 1 o k ((L.take k).map kindV)) ∧ Hid (Below U.heap.size U wr)) (fun _ i _ => n - (intOf i).toNat)
  case atStart => exact ⟨0, Nat.zero_le _, rfl, World.ownsRow_nil _ _ _ _, Below.refl _ _⟩
  case round =>
    obtain ⟨k, hk, rfl, HO, HB⟩ := hrel
    by_cases hlt : k < n
    · have hi : (k : Int) < (n : Int) := by omega
      have hi0' : (0 : Int) ≤ (k : Int) := Int.natCast_nonneg _
      obtain ⟨t, ht⟩ : ∃ t, L[k]? = some t := ⟨_, List.getElem?_eq_getElem (by have := HN.out; omega)⟩
      obtain ⟨ao', cp', hv, hr0⟩ := HT.out
      injection hv with e1 e3 e2
      clear e3
      subst e1 e2
      obtain ⟨g, rfl, hr⟩ := hr0 (by have := HN.out; omega)
      obtain ⟨c0, -, -, c3, -, -⟩ := ((hr k t ht).kept HUb.out).kept HB.out
      have hgU : g < U.heap.size := Nat.lt_of_lt_of_le (lt_of_cell (hr k t ht).c0) HUb.out.size
      have hgw : g < wr.heap.size := Nat.lt_of_lt_of_le hgU HB.out.size
      have ag := own_ge HO.out hgU
      have htk : L.take (k + 1) = L.take k ++ [t] := by rw [List.take_add_one, ht]; rfl
      have HTk : Hid ((L.take (k + 1)).map kindV = (L.take k).map kindV ++ [.int .i64 (IntKind.i64.wrap (IntKind.i64.wrap (t.k * 10) + t.op))]) := by show _ = _; rw [htk, List.map_append]; rfl
      clear htk ht hr hr0
      obtain ⟨xs, hxs⟩ : ∃ xs, xs = (L.take k).map kindV := ⟨_, rfl⟩
      rw [← hxs] at HO HTk
      clear hxs
      have hUle : U.heap.size ≤ wr.heap.size := HB.out.size
      go_wp2
      go_region_held3 (fun w' => w'.cell? ⟨g, k * 6, none⟩ = some (.int .i64 t.k) ∧ w'.cell? ⟨g, k * 6 + 3, none⟩ = some (.int .i64 t.op))
        (first
          | go_keep
          | (go_split_ands
             refine ⟨?_, ?_⟩
             · (rw [hgrow.cell_far _ (by simp; omega) (Ne.symm ag)]; assumption)
             · (rw [hgrow.cell_far _ (by simp; omega) (Ne.symm ag)]; assumption)))
        ((refine step_append_lies _ (by rfl) _ _ _ (by rfl) U.heap.size 3 i0 _ 1 8 Tryd.underlying22 hi0 hz0 hz1 hz2 rfl (by omega) _ k xs (by rfl) ((HO.out.alloc _).drew)
            ⟨wr.heap.size, 0, none⟩ 1 1 [.int .i64 (IntKind.i64.wrap (IntKind.i64.wrap (t.k * 10) + t.op))] (by rfl) (by rfl) (World.news_of_block (cs := #[.int .i64 (IntKind.i64.wrap (IntKind.i64.wrap (t.k * 10) + t.op))]) (t := 3) (fr := (0, 0)) (heap_alloc_new wr _)) (by simp [Value.oneCell'])
            (by omega) (by unfold maxLen; omega) (by omega) (by simp; omega) (wr.heap.size + 1) (by simp) ?_; intro gg cap w5 hown1 hgrow hat hlt1))
      have hb5 : Below U.heap.size U w5 := by
        have h1 : Below U.heap.size U ((wr.alloc (.cells #[.int .i64 (IntKind.i64.wrap (IntKind.i64.wrap (t.k * 10) + t.op))] 3)).drew) := (HB.out.alloc HB.out.size _).drew
        refine h1.grown hgrow (by simp; omega) (fun j hj => ?_)
        rcases HO.out.2 with ⟨h0, _⟩ | ⟨g', cap', cur, hv, hbase, _⟩
        · rw [h0] at hj; cases hj
        · rw [hv] at hj
          have : g' = j := by simpa [Value.ownBlock] using hj
          omega
      have HO5 := hide hown1
      rw [← HTk.out] at HO5
      have HB5 := hide hb5
      clear hown1 hgrow hat hlt1 hb5
      go_wp2
      go_roundw
      case rel => exact ⟨k + 1, by omega, by go_num, HO5, HB5⟩
      case measure => simp [intOf]; omega
    · obtain rfl : k = n := by omega
      have hi : ¬ (k : Int) < (k : Int) := by omega
      have hfull : L.take k = L := List.take_of_length_le (by rw [HN.out]; exact Nat.le_refl _)
      rw [hfull] at HO
      obtain ⟨ao', cp', rfl⟩ := own_shape HO.out
      obtain ⟨x0, x1, x2, _⟩ := HBx.out.cells
      have x0' := below_cell HB.out x0 (by have := HUs.out; show w1.heap.size < _; omega)
      have hBw : Below w.heap.size w wr := (HB1.out.trans (HUb.out.mono HB1.out.size)).trans (HB.out.mono (Nat.le_trans HB1.out.size HUb.out.size))
      have hOw : wr.ownsRow w.heap.size 3 1 (.slice ao' k cp') k (L.map kindV) := own_mono (Nat.le_trans HB1.out.size HUb.out.size) HO.out
      have HOw := hide hOw
      have HBw := hide hBw
      clear hfull x0 x1 x2 hOw hBw
      go_wp2
      go_region
      go_wp2
      go_ret2
      first | exact ⟨_, rfl, HOw.out, HBw.out⟩ | exact ⟨_, rfl, own_drew HOw.out, HBw.out.drew⟩

set_option maxHeartbeats 1000000 in
theorem refused_any (s : ByteArray) (code : Int) (w : World) (hl : LexLaid w) (hs : s.size ≤ 140737488351232) (h1 : (scanX s).1 = []) (h2 : (scanX s).2.1 = code) :
    Calls Tryd.prog 10 #[.string s, .int .i64 code] w fun e w' => e = .returned (.bool true) ∧ Below w.heap.size w w' := by
  have HK := hide (kindsOf_any s w hl hs (by rw [h1]; simp))
  rw [h1, h2] at HK
  simp only [List.length_nil, List.map_nil] at HK
  clear hl h1 h2
  go_enter Tryd.func10, Tryd.ntmps10
  go_wp2_with (go_at_call 9; refine HK.out.mono ?_; rintro e w1 ⟨v, rfl, hown, hb⟩; obtain ⟨ao, cp, rfl⟩ := own_shape hown; have HB := hide hb; clear hown hb)
  go_ret
  exact ⟨rfl, HB.out⟩

end Go.Proofs.YtgbnoggapejinaaDoor
