/- The document's Table: All, Cut. -/
import Derived.Test.YthhoiejjejdffaaRTab3
import Derived.Deep.DeepCutAuto
namespace Go.Proofs.Ythhoiejjejdffaa
set_option linter.unusedSimpArgs false
set_option linter.unusedVariables false
open Go.RowKit Go.Maps

variable {base : Nat} {w w' : World} {p : Nat} {v : Value} {ks : List Con}

/-- A list of constants in memory made since w. -/
structure CL (w W : World) (v : Value) (xs : List Con) : Prop where
  row : Holds3 w.heap.size W v xs
  bel : Below w.heap.size w W

theorem CL.nil (w : World) : CL w w (.slice none 0 0) [] := ⟨World.ownsRow_nil _ _ _ _, Below.refl _ _⟩
theorem CL.shape {W : World} {xs : List Con} (h : CL w W v xs) : ∃ a cap, v = .slice a xs.length cap := by
  rcases h.row.2 with ⟨rfl, h0⟩ | ⟨g, cap, cur, rfl, _⟩
  · exact ⟨none, 0, by rw [h0]⟩
  · exact ⟨_, cap, rfl⟩
theorem CL.push {W W4 : World} {xs : List Con} (h : CL w W v xs) {tmp : Obj} {k : Con} {gg cap' : Nat} (hown : W4.ownsRow w.heap.size 34 3 (.slice (some ⟨gg, 0, none⟩) (xs.length + 1) cap') (xs.length + 1) (xs.flatMap cells3 ++ cells3 k))
    (hg : (W.alloc tmp).grownBy W4 v.ownBlock) : CL w W4 (.slice (some ⟨gg, 0, none⟩) (xs.length + 1) cap') (xs ++ [k]) := by
  refine ⟨?_, ?_⟩
  · have e : (xs ++ [k]).flatMap cells3 = xs.flatMap cells3 ++ cells3 k := by simp
    show World.ownsRow _ _ _ _ _ _ _
    rw [e, List.length_append]; exact hown
  · have hb := h.bel.alloc h.bel.size tmp
    exact hb.grown hg hb.size (fun q hq => (h.row.lt q hq).1)

theorem holds3_mono {b b' : Nat} {W : World} {xs : List Con} (h : Holds3 b W v xs) (hb : b' ≤ b) : Holds3 b' W v xs := by
  refine ⟨h.1, ?_⟩
  rcases h.2 with h0 | ⟨g, cap, cur, hv, hbase, rest⟩
  · exact .inl h0
  · exact .inr ⟨g, cap, cur, hv, by omega, rest⟩

theorem RTab.reset (h : RTab base w p v ks) (hb : base ≤ w.heap.size) {W : World} {v' : Value} {xs : List Con} (hs : CL w W v' xs) : RTab base (W.setCell ⟨p, 0, none⟩ v') p v' xs ∧ Only (fun k => k = p) w (W.setCell ⟨p, 0, none⟩ v') ∧ ∀ g, v'.ownBlock = some g → w.heap.size ≤ g := by
  have hplt := h.plt
  have hbx : Boxed W p 103 v := (hs.bel.block p hplt).trans h.fields
  refine ⟨⟨hbx.set _, h.hp, ?_⟩, ?_, fun g hg => (hs.row.lt g hg).1⟩
  · refine ownsRow_setCell_other (holds3_mono hs.row hb) (a := ⟨p, 0, none⟩) (fun e => ?_) _
    have := (hs.row.lt p e).1
    omega
  · exact (Only.of_below hs.bel (fun k => k = p)).setCell (p := ⟨p, 0, none⟩) rfl _

set_option maxRecDepth 100000 in
set_option maxHeartbeats 1000000 in
theorem tall_any (h : RTab base w p v ks) (hl : ks.length ≤ 65536) :
    Calls Try.prog 57 #[.pointer (some ⟨p, 0, none⟩)] w fun e w' => ∃ v', e = .returned v' ∧ Hid (CL w w' v' ks) := by
  obtain ⟨i0, hi0, hz0, hz1, hz2⟩ := info_parts Try.infoC3
  obtain ⟨a, cap, rfl⟩ := h.shape
  have c0 := h.c0
  have HC : Hid (∀ j s, ks[j]? = some s → ∃ g, a = some ⟨g, 0, none⟩ ∧ conAt w g (j * 3) s) := fun j s hj => h.at rfl hj
  obtain ⟨len, hlen⟩ : ∃ len, len = ks.length := ⟨_, rfl⟩
  have HL := hide hlen
  rw [← hlen] at c0 hl
  clear hlen h
  go_enter Try.func57, Try.ntmps57
  go_wp2
  go_loopw [3, 4] (fun t i wr => ∃ (j : Nat) (b : Option Addr) (cp : Nat), j ≤ len ∧ i = .int .i64 j ∧ t = .slice b j cp ∧ Hid (CL w wr (.slice b j cp) (ks.take j))) (fun _ i _ => len - (intOf i).toNat)
  case atStart => exact ⟨0, none, 0, by omega, rfl, rfl, CL.nil w⟩
  case round =>
    obtain ⟨j, b, cp, hj, rfl, rfl, HS⟩ := hrel
    have HTk : Hid ((ks.take j).length = j) := by show _ = _; rw [List.length_take]; have := HL.out; omega
    have c0' := kept_cell HS.out.bel c0
    by_cases hlt : j < len
    · have hjl : (j : Int) < (len : Int) := by omega
      obtain ⟨s, hs⟩ : ∃ s, ks[j]? = some s := ⟨_, List.getElem?_eq_getElem (by have := HL.out; omega)⟩
      obtain ⟨g, rfl, hc⟩ := HC.out j s hs
      obtain ⟨e0, e1, e2⟩ := conAt_kept hc HS.out.bel
      have hrow := HS.out.row
      unfold Holds3 at hrow
      rw [HTk.out] at hrow
      have HRow := hide hrow
      have HNx : Hid (ks.take (j + 1) = ks.take j ++ [s]) := by show _ = _; rw [List.take_add_one, hs]; rfl
      have hws := HS.out.bel.size
      clear hrow hs hc
      go_wp2_with (at_builtin; refine wpList_append_lies _ rfl _ _ 32 rfl w.heap.size 34 i0 (.agg #[.int .i64 0, .int .i64 0, .string ⟨#[]⟩]) 3 32 Try.underlying32 hi0 hz0 hz1 hz2 rfl (by decide) (.slice b j cp) j ((ks.take j).flatMap cells3) rfl (HRow.out.alloc _) ⟨wr.heap.size, 0, none⟩ 1 1 (cells3 s) rfl rfl con_new (by simp [cells3, Value.oneCell']) (by decide) (by unfold maxLen; omega) (by omega) (by rw [World.size_alloc]; omega) (wr.heap.size + 1) (by rw [World.size_alloc]) ?_; intro gg cap' W4 hown1 hgrow hat hlt1; have hS4 := HS.out.push (by rw [HTk.out]; exact hown1) hgrow; rw [HTk.out] at hS4; have HS4 := hide hS4; clear hown1 hgrow hat hlt1 hS4)
      go_roundw
      case rel => exact ⟨j + 1, _, cap', by omega, by go_num, rfl, by rw [HNx.out]; exact HS4⟩
      case measure => simp [intOf]; omega
    · obtain rfl : j = len := by omega
      have hjl : ¬ (j : Int) < (j : Int) := by omega
      have HX : Hid (CL w wr (.slice b j cp) ks) := by
        have := HS.out
        rw [List.take_of_length_le (by rw [HL.out]; exact Nat.le_refl _)] at this
        exact this
      go_wp2
      go_ret
      exact ⟨_, rfl, HX⟩
set_option maxRecDepth 100000 in
set_option maxHeartbeats 2000000 in
theorem tcut_any (h : RTab base w p v ks) (hb : base ≤ w.heap.size) (hl : ks.length ≤ 65536) (n : Int) (d : Nat) (hd : (d = ks.length ∧ d ≤ n.toNat) ∨ (d = n.toNat ∧ d ≤ ks.length)) :
    Calls Try.prog 60 #[.pointer (some ⟨p, 0, none⟩), .int .i64 n] w fun e w' => e = .returned (.tuple #[]) ∧ Hid (∃ v', RTab base w' p v' (ks.take d) ∧ Only (fun k => k = p) w w' ∧ ∀ g, v'.ownBlock = some g → w.heap.size ≤ g) := by
  obtain ⟨i0, hi0, hz0, hz1, hz2⟩ := info_parts Try.infoC3
  obtain ⟨a, cap, rfl⟩ := h.shape
  have c0 := h.c0
  have HC : Hid (∀ j s, ks[j]? = some s → ∃ g, a = some ⟨g, 0, none⟩ ∧ conAt w g (j * 3) s) := fun j s hj => h.at rfl hj
  have HR := hide h
  obtain ⟨len, hlen⟩ : ∃ len, len = ks.length := ⟨_, rfl⟩
  have HL := hide hlen
  rw [← hlen] at c0 hl hd
  obtain ⟨M, hM⟩ : ∃ M, M = n.toNat := ⟨_, rfl⟩
  have HM := hide hM
  rw [← hM] at hd
  clear hlen h hM
  have hdl : d ≤ len := by omega
  have hdm : d ≤ M := by omega
  go_enter Try.func60, Try.ntmps60
  go_upto_region 0 with fail
  go_cut [4] (fun t wc => t = .int .i64 (M : Int) ∧ w = wc)
  case first =>
    by_cases h0 : n ≤ 0
    · have e : M = 0 := by have := HM.out; omega
      have h1 : ¬ 0 < n := by omega
      go_wp2
      all_goals go_meet
      all_goals exact ⟨by first | (simp [e]; done) | (simp [e]; omega), rfl⟩
    · have e : (M : Int) = n := by have := HM.out; omega
      have h1 : 0 < n := by omega
      go_wp2
      all_goals go_meet
      all_goals exact ⟨by first | rw [e] | (simp [e]; done) | (simp; omega), rfl⟩
  case rest =>
    obtain ⟨rfl, rfl⟩ := hcut
    go_wp2
    go_loopw [5, 6] (fun t i wr => ∃ (j : Nat) (b : Option Addr) (cp : Nat), j ≤ d ∧ i = .int .i64 j ∧ t = .slice b j cp ∧ Hid (CL w wr (.slice b j cp) (ks.take j))) (fun _ i _ => d - (intOf i).toNat)
    case atStart => exact ⟨0, none, 0, by omega, rfl, rfl, CL.nil w⟩
    case round =>
      obtain ⟨j, b, cp, hj, rfl, rfl, HS⟩ := hrel
      have HTk : Hid ((ks.take j).length = j) := by show _ = _; rw [List.length_take]; have := HL.out; omega
      have c0' := kept_cell HS.out.bel c0
      by_cases hlt : j < d
      · have hjl : (j : Int) < (len : Int) := by omega
        have hjm : (j : Int) < (M : Int) := by omega
        obtain ⟨s, hs⟩ : ∃ s, ks[j]? = some s := ⟨_, List.getElem?_eq_getElem (by have := HL.out; omega)⟩
        obtain ⟨g, rfl, hc⟩ := HC.out j s hs
        obtain ⟨e0, e1, e2⟩ := conAt_kept hc HS.out.bel
        have hrow := HS.out.row
        unfold Holds3 at hrow
        rw [HTk.out] at hrow
        have HRow := hide hrow
        have HNx : Hid (ks.take (j + 1) = ks.take j ++ [s]) := by show _ = _; rw [List.take_add_one, hs]; rfl
        have hws := HS.out.bel.size
        clear hrow hs hc
        go_wp2_with (at_builtin; refine wpList_append_lies _ rfl _ _ 32 rfl w.heap.size 34 i0 (.agg #[.int .i64 0, .int .i64 0, .string ⟨#[]⟩]) 3 32 Try.underlying32 hi0 hz0 hz1 hz2 rfl (by decide) (.slice b j cp) j ((ks.take j).flatMap cells3) rfl (HRow.out.alloc _) ⟨wr.heap.size, 0, none⟩ 1 1 (cells3 s) rfl rfl con_new (by simp [cells3, Value.oneCell']) (by decide) (by unfold maxLen; omega) (by omega) (by rw [World.size_alloc]; omega) (wr.heap.size + 1) (by rw [World.size_alloc]) ?_; intro gg cap' W4 hown1 hgrow hat hlt1; have hS4 := HS.out.push (by rw [HTk.out]; exact hown1) hgrow; rw [HTk.out] at hS4; have HS4 := hide hS4; clear hown1 hgrow hat hlt1 hS4)
        go_roundw
        case rel => exact ⟨j + 1, _, cap', by omega, by go_num, rfl, by rw [HNx.out]; exact HS4⟩
        case measure => simp [intOf]; omega
      · obtain rfl : j = d := by omega
        go_upto_region 3 with fail
        go_cut [20] (fun t wc => t = .bool false ∧ wr = wc)
        case first =>
          by_cases h1 : j < len
          · have hi : (j : Int) < (len : Int) := by omega
            have hi2 : ¬ (j : Int) < (M : Int) := by omega
            go_wp2
            all_goals go_meet
            all_goals exact ⟨rfl, rfl⟩
          · have hi : ¬ (j : Int) < (len : Int) := by omega
            go_wp2
            all_goals go_meet
            all_goals exact ⟨rfl, rfl⟩
        case rest =>
          obtain ⟨rfl, rfl⟩ := hcut
          have hbx : Boxed wr p 103 (.slice a len cap) := (HS.out.bel.block p HR.out.plt).trans (by rw [HL.out]; exact HR.out.fields)
          have f0' := hbx.frozen
          have HFin := hide (HR.out.reset hb HS.out)
          go_wp2
          go_end0
          exact ⟨rfl, _, HFin.out⟩

end Go.Proofs.Ythhoiejjejdffaa
