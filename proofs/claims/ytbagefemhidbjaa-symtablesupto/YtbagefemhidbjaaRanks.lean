/- (*Table).Ranks: a new list that tells for each id its place in the order; and the two lists as rows. -/
import Derived.Test.YtbagefemhidbjaaSorted
import Derived.Deep.OwnRows
namespace Go.Proofs.Ytbagefemhidbjaa
set_option linter.unusedSimpArgs false
set_option linter.unusedVariables false
open Go.RowKit Go.Maps Go.Shelf Go.Sort

theorem own_row {W : World} {base g n : Nat} {e : TypeId} {L : List Nat} (h : W.ownsRow base e 1 (.slice (some ⟨g, 0, none⟩) n n) n (L.map encI)) : W.rowIs g e n (fun i => encI (L.getD i 0)) ∧ base ≤ g := by
  have hl : L.length = n := by have := h.1; simpa using this
  rcases h.2 with ⟨h', _⟩ | ⟨g', cap', cur, hs, hbase, hb, h1, h2, h3, h4⟩
  · cases h'
  cases hs
  refine ⟨⟨cur, hb, by omega, fun i hi => ?_⟩, hbase⟩
  have e1 : (cur.toList.take (n * 1))[i]? = (L.map encI)[i]? := by rw [h4]
  rw [List.getElem?_take_of_lt (by omega), List.getElem?_map, Array.getElem?_toList] at e1
  rw [e1]
  show _ = some (encI (L.getD i 0))
  rw [List.getD_eq_getElem?_getD, List.getElem?_eq_getElem (by omega)]
  rfl

def rankF (L : List Nat) (k i : Nat) : Value := encI (if L.idxOf i < k then L.idxOf i else 0)

theorem rankF_step {ks : List Con} {L : List Nat} (h : IdSort ks L) {k x : Nat} (hk : L[k]? = some x) (j : Nat) (hj : j < ks.length) : (if j = x then encI k else rankF L k j) = rankF L (k + 1) j := by
  unfold rankF
  by_cases e : j = x
  · subst e
    rw [if_pos rfl, h.back hk, if_pos (Nat.lt_succ_self k)]
  · rw [if_neg e]
    have hne : L.idxOf j ≠ k := fun he => by
      obtain ⟨_, h2⟩ := h.at hj
      rw [he, hk] at h2
      exact e (Option.some.inj h2).symm
    by_cases hlt : L.idxOf j < k
    · rw [if_pos hlt, if_pos (by omega)]
    · rw [if_neg hlt, if_neg (by omega)]

set_option maxRecDepth 100000 in
set_option maxHeartbeats 4000000 in
theorem ranks_any (HSS : SortIdsSaid) {base : Nat} {w : World} {p m nn cap : Nat} {ao : Option Addr} {ks : List Con} (hT : TableAt base w p m nn ao cap ks) (hnd : ks.Nodup) (hl : ks.length ≤ 65536) :
    Calls Try.prog 14 #[.pointer (some ⟨p, 0, none⟩)] w fun e w' => ∃ g, e = .returned (.slice (some ⟨g, 0, none⟩) ks.length ks.length) ∧ w'.rowIs g 3 ks.length (fun i => encI ((sortL ks).idxOf i)) ∧ w.heap.size ≤ g ∧ Below w.heap.size w w' := by
  have HS := hide (sorted_any HSS hT hnd hl)
  have hL := sortL_is hnd
  obtain ⟨len, hlen⟩ : ∃ len, len = ks.length := ⟨_, rfl⟩
  have HLN := hide hlen
  rw [← hlen] at hl HS ⊢
  have hll : (sortL ks).length = len := by rw [hlen]; exact hL.len
  have HLL := hide hll
  have HIS := hide hL
  clear hlen hT hL hll
  have hmk := fun W : World => run_make_row' (P := Try.prog) 45 3 (.int .i64 0) 8 Try.underlying45 Try.infoI rfl .i64 .i64 len (by omega) (by omega) W
  go_enter Try.func14, Try.ntmps14
  go_wp2_with (go_at_call 13; refine HS.out.mono ?_; rintro e w1 ⟨g1, rfl, hown, hb1⟩; obtain ⟨hr1, hg1⟩ := own_row hown; have HR1 := hide hr1; have HB1 := hide hb1; clear hown hr1 hb1)
  go_loopw [14] (fun i wr => ∃ k : Nat, k ≤ len ∧ i = .int .i64 k ∧ Hid (wr.rowIs w1.heap.size 3 len (rankF (sortL ks) k)) ∧ Hid (Below w1.heap.size w1 wr)) (fun i _ => len - (intOf i).toNat)
  case atStart =>
    refine ⟨0, by omega, rfl, ?_, ?_⟩
    · exact (World.rowIs_made w1 (.int .i64 0) len 3).congr fun i _ => by unfold rankF; rw [if_neg (by omega)]; rfl
    · exact (Below.refl _ _).alloc (Nat.le_refl _) _
  case round =>
    obtain ⟨k, hk, rfl, HR, HB⟩ := hrel
    by_cases hlt : k < len
    · have hi : (k : Int) < (len : Int) := by omega
      obtain ⟨x, hx⟩ : ∃ x, (sortL ks)[k]? = some x := ⟨_, List.getElem?_eq_getElem (by have := HLL.out; omega)⟩
      have hxl : x < len := by
        have := HIS.out.mem.1 (List.mem_of_getElem? hx)
        rw [HLN.out]; exact this
      have c1 : wr.cell? ⟨g1, k, none⟩ = some (.int .i64 x) := by
        have := kept_cell HB.out (HR1.out.cell hlt)
        rw [List.getD_eq_getElem?_getD, hx] at this
        exact this
      have c2 := HR.out.cell hxl
      have f2 := HR.out.frozen x
      have hxi : (x : Int) < (len : Int) := by omega
      have hx0 : ¬ (x : Int) < 0 := by omega
      go_wp2
      go_roundw
      case rel =>
        refine ⟨k + 1, by omega, by go_num, ?_, ?_⟩
        · exact (HR.out.set x (.int .i64 k)).congr fun j hj => by have := rankF_step HIS.out hx j (by have := HLN.out; omega); rw [← this]; rfl
        · exact HB.out.setCell (p := ⟨w1.heap.size, x, none⟩) (Nat.le_refl _) _
      case measure => simp [intOf]; omega
    · obtain rfl : k = len := by omega
      have hi : ¬ (k : Int) < (k : Int) := by omega
      go_wp2
      go_ret
      refine ⟨_, rfl, ?_, HB1.out.size, HB1.out.trans (HB.out.mono HB1.out.size)⟩
      exact HR.out.congr fun i hi => by
        unfold rankF
        rw [if_pos]
        have := (HIS.out.at (i := i) (by rw [← HLN.out]; exact hi)).1
        rw [HLL.out] at this
        exact this
end Go.Proofs.Ytbagefemhidbjaa
