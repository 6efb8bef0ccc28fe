/- The walk of edictlaw01.alone. -/
import Derived.Test.YtpkpajjdpiebfaaProg
import Derived.Test.YtpkpajjdpiebfaaAlone
namespace Go.Proofs.Ytpkpajjdpiebfaa
set_option linter.unusedSimpArgs false
set_option linter.unusedVariables false
open Go.RowKit

theorem Try.infoRow : (Try.prog.info? 22).map (fun i => (i.zero, i.size, i.bytes)) = some (some (.slice none 0 0), 1, 24) := by kernel_rfl

theorem own_kept {w w' : World} {base size n : Nat} {e : TypeId} {v : Value} {xs : List Value} (h : w.ownsRow base e size v n xs) (hb : Below w.heap.size w w') : w'.ownsRow base e size v n xs := by
  refine ⟨h.1, ?_⟩
  rcases h.2 with h0 | ⟨g, cap, cur, hv, hbase, hblk, rest⟩
  · exact .inl h0
  · exact .inr ⟨g, cap, cur, hv, hbase, by rw [hb.block g (Array.getElem?_eq_some_iff.1 hblk).1]; exact hblk, rest⟩

theorem row_cell {wr : World} {base k g n cap : Nat} {L : List Value} (h : wr.ownsRow base 22 1 (.slice (some ⟨g, 0, none⟩) n cap) n L) {j : Nat} {u : Value} (hj : L[j]? = some u) : wr.cell? ⟨g, j, none⟩ = some u := by
  rcases h.2 with ⟨e, _⟩ | ⟨g', cap', cur, e, hb, hh, r1, r2, r3, r4⟩
  · cases e
  · cases e
    have hlt : j < n * 1 := by
      have := (List.getElem?_eq_some_iff.1 hj).1
      rw [h.1] at this; exact this
    have e2 : cur.toList[j]? = (cur.toList.take (n * 1))[j]? := (List.getElem?_take_of_lt hlt).symm
    have e3 : cur[j]? = some u := by rw [← Array.getElem?_toList, e2, r4, hj]
    simp [World.cell?, hh, e3]

set_option maxHeartbeats 8000000 in
set_option maxRecDepth 100000 in
theorem alone_any (G N : Nat → Nat) (B : Nat) (w : World) (h : Trio G N B w (fun _ => 0)) (hG : ∀ a b, a < 3 → b < 3 → G a = G b → a = b) (hB : ∀ a, a < 3 → G a ≠ B) (hN : ∀ k, N k ≤ 4398046510978) (hGw : ∀ a, a < 3 → G a < w.heap.size) (hBw : B < w.heap.size) :
    Calls Try.prog 7 #[.slice (some ⟨B, 0, none⟩) 3 3] w fun e w' => e = .returned (.bool true) ∧ Only (fun b => ∃ k, k < 3 ∧ b = G k) w w' := by
  obtain ⟨i0, hi0, hz0, hz1, hz2⟩ := info_parts Try.info3
  obtain ⟨j0, hj0, hy0, hy1, hy2⟩ := info_parts Try.infoRow
  have HW := hide h
  have HGG := hide hG
  have HBB := hide hB
  have HN := hide hN
  have HGW := hide hGw
  have HBW := hide hBw
  clear h hG hB hN hGw hBw
  go_enter Try.func7, Try.ntmps7
  go_wp2
  go_loopw [3] (fun i wr => ∃ k : Nat, k ≤ 3 ∧ i = .int .i64 k ∧ Hid (Trio G N B wr (fun j => if j < k then N j else 0)) ∧ Hid (Only (fun b => ∃ k, k < 3 ∧ b = G k) w wr)) (fun i _ => 3 - (intOf i).toNat)
  case atStart => exact ⟨0, by omega, rfl, by have := HW.out; show Trio G N B w _; simpa using this, Only.refl _ _⟩
  case round =>
    obtain ⟨k, hk, rfl, HT, HO⟩ := hrel
    by_cases hlt : k < 3
    · have hi : (k : Int) < 3 := by omega
      go_wp2
      go_loopw [4] (fun i wr => ∃ a : Nat, a ≤ N k ∧ i = .int .i64 a ∧ Hid (Trio G N B wr (fun j => if j = k then a else if j < k then N j else 0)) ∧ Hid (Only (fun b => ∃ k, k < 3 ∧ b = G k) w wr)) (fun i _ => N k - (intOf i).toNat)
      case atStart => exact ⟨0, by omega, rfl, by
        have := HT.out
        have e : (fun j => if j = k then 0 else if j < k then N j else 0) = (fun j => if j < k then N j else 0) := by funext j; by_cases h : j = k <;> simp [h]
        rw [e]; exact this, HO.out⟩
      case round =>
        obtain ⟨a, ha, rfl, HT2, HO2⟩ := hrel
        have hNk := HN.out k
        have c1 := HT2.out.ls k hlt
        by_cases hla : a < N k
        · have hi2 : (a : Int) < (N k : Int) := by omega
          obtain ⟨⟨v0, c0⟩, z0⟩ := HT2.out.cells (o := a * 3) hlt (by omega)
          go_wp2
          have HM : Hid (∀ W, Calls Try.prog 14 #[.int .i64 (k : Int)] W fun e w' => e = .returned (.agg #[.int .i64 (90 + (k : Int)), .int .i64 (-(k : Int)), .string ⟨#[]⟩]) ∧ Below W.heap.size W w') := fun W => mark_any k W ⟨by omega, by omega⟩
          go_region_with (go_at_call 14; refine (HM.out _).mono ?_; rintro e w2 ⟨rfl, hbm⟩; have hb2 : Below wr.heap.size wr w2 := (below_drewN _ wr 1).trans hbm; have hT2 := HT2.out.kept hb2; have c1' := hT2.ls k hlt; obtain ⟨⟨u0, d0⟩, y0⟩ := hT2.cells (o := a * 3) hlt (by omega); obtain ⟨⟨u1, d1⟩, y1⟩ := hT2.cells (o := a * 3 + 1) hlt (by omega); obtain ⟨⟨u2, d2⟩, y2⟩ := hT2.cells (o := a * 3 + 2) hlt (by omega); have HT3 := hide (hT2.step hlt hla HGG.out HBB.out); have HO3 := hide ((HO2.out.trans (Only.of_below hb2 _)).put3 (o := a * 3) (c := markC k) (g := G k) ⟨k, hlt, rfl⟩); clear hT2 hbm)
          all_goals (try go_wp2)
          all_goals exact ⟨⟨a + 1, by omega, by go_num, HT3, HO3⟩, by simp [intOf]; omega⟩
        · obtain rfl : a = N k := by omega
          have hi2 : ¬ ((N k : Nat) : Int) < ((N k : Nat) : Int) := by omega
          have HT3 := hide (Trio.full HT2.out)
          go_wp2
          go_roundw
          case rel => exact ⟨k + 1, by omega, by go_num, HT3, HO2⟩
          case measure => simp [intOf]; omega
    · have hi : ¬ (k : Int) < 3 := by omega
      have HA : Hid (Trio G N B wr N) := Trio.all (by have := HT.out; rw [show k = 3 from by omega] at this; exact this)
      clear HT hlt hk
      go_wp2
      clear hi
      go_loopw [5, 6] (fun v i wr => ∃ (k : Nat) (Hf Cf : Nat → Nat), k ≤ 3 ∧ i = .int .i64 k ∧ Hid (More G N B w wr v k Hf Cf)) (fun _ i _ => 3 - (intOf i).toNat)
      case atStart => exact ⟨0, fun _ => 0, fun _ => 0, by omega, rfl, HA.out, World.ownsRow_nil _ _ _ _, fun j i hj => by omega, fun j hj => by omega, HO.out⟩
      case round =>
        clear HA HO
        obtain ⟨k, Hf, Cf, hk, rfl, HMo⟩ := hrel
        by_cases hlt : k < 3
        · have hi : (k : Int) < 3 := by omega
          have hNk := HN.out k
          have c1 := HMo.out.trio.ls k hlt
          have hws := HMo.out.only.size
          have HM : Hid (∀ W, Calls Try.prog 14 #[.int .i64 (k : Int)] W fun e w' => e = .returned (.agg #[.int .i64 (90 + (k : Int)), .int .i64 (-(k : Int)), .string ⟨#[]⟩]) ∧ Below W.heap.size W w') := fun W => mark_any k W ⟨by omega, by omega⟩
          go_wp2
          go_region_held3 (fun w' => w'.cell? ⟨B, k, none⟩ = some (.slice (some ⟨G k, 0, none⟩) (N k) (N k)))
            (first
              | go_keep
              | exact kept_cell hb2 c1
              | exact kept_cell hb4 c1
              | exact hls6)
            (first
              | (go_at_call 14; refine (HM.out _).mono ?_; rintro e w2 ⟨rfl, hbm⟩; have hb2 : Below wr.heap.size wr w2 := (below_drewN _ wr 1).trans hbm; clear hbm)
              | (refine step_append_grows (by rfl) _ _ _ (by rfl) 24 i0 _ 3 32 Try.underlying22 hi0 hz0 hz1 hz2 rfl (by decide) (some ⟨G k, 0, none⟩) (N k) (N k) ((marksOf (N k) k).flatMap cells3) (by rfl) (fun h => by cases h) (marks_len _ _) (fun b hb => by cases hb; exact marks_src (fun i hi => conAt_alloc (conAt_kept (HMo.out.trio.marks k i hlt hi) hb2) _)) ⟨w2.heap.size, 0, none⟩ 1 1 (cells3 (markC k)) (by rfl) (by rfl) (World.news_of_block (cs := #[.int .i64 (90 + (k : Int)), .int .i64 (-(k : Int)), .string ⟨#[]⟩]) (t := 24) (fr := (0, 0)) (heap_alloc_new w2 _)) (by simp [cells3, Value.oneCell']) (by omega) (by unfold maxLen; omega) (by omega) ?_; intro v4 w4 hown4 hgrow4; obtain ⟨h4, c4, rfl, hge4, hlt4⟩ := hown4.form (by omega); rw [marks_flat] at hown4; have hb3 := hb2.alloc hb2.size (.cells #[.int .i64 (90 + (k : Int)), .int .i64 (-(k : Int)), .string ⟨#[]⟩] 24); have hb4 : Below wr.heap.size wr w4 := hb3.grown hgrow4 hb3.size (by simp))
              | (refine step_append_lies _ (by rfl) _ _ _ (by rfl) w.heap.size 22 j0 _ 1 24 Try.underlying28 hj0 hy0 hy1 hy2 rfl (by decide) _ k _ (by rfl) ((own_kept HMo.out.own hb4).alloc _) ⟨w4.heap.size, 0, none⟩ 1 1 [.slice (some ⟨h4, 0, none⟩) (N k + 1) c4] (by rfl) (by rfl) (World.news_of_block (cs := #[.slice (some ⟨h4, 0, none⟩) (N k + 1) c4]) (t := 22) (fr := (0, 0)) (heap_alloc_new w4 _)) (by simp [Value.oneCell']) (by decide) (by unfold maxLen; omega) (by omega) (by have := hb4.size; simp; omega) (w4.heap.size + 1) (by simp) ?_; intro g6 cap6 w6 hown6 hgrow6 hat6 hlt6; have HM6 := hide (HMo.out.grow HGW.out HBW.out hb3 hgrow4 hown4 hlt4 rfl hgrow6 hown6 (hat6.imp id (fun e => by simpa using e))); have hls6 := HM6.out.trio.ls k hlt))
          go_wp2
          go_roundw
          case rel => exact ⟨k + 1, _, _, by omega, by go_num, HM6⟩
          case measure => simp [intOf]; omega
        · have hi : ¬ (k : Int) < 3 := by omega
          rw [show k = 3 from by omega] at HMo
          clear hlt
          go_wp2
          clear hi
          obtain ⟨g, cap, rfl, -, -⟩ := HMo.out.own.form (by omega)
          obtain ⟨V, HVe⟩ : ∃ V, Hid (V = wr) := ⟨_, rfl⟩
          have HMo : Hid (More G N B w V (.slice (some ⟨g, 0, none⟩) 3 cap) 3 Hf Cf) := by show More _ _ _ _ _ _ _ _ _; rw [HVe.out]; exact HMo.out
          have HO := hide HMo.out.only
          go_loopw [7, 8] (fun i _ wr1 => ∃ q : Nat, q ≤ 3 ∧ i = .int .i64 q ∧ Hid (Below V.heap.size V wr1)) (fun i _ _ => 3 - (intOf i).toNat)
          case atStart => exact ⟨0, by omega, rfl, by show Below _ _ _; rw [HVe.out]; exact Below.refl _ _⟩
          case round =>
            clear HVe
            obtain ⟨q, hq, rfl, HB⟩ := hrel
            by_cases hlq : q < 3
            · have hi : (q : Int) < 3 := by omega
              have hNq := HN.out q
              have HR := hide (row_cell (k := 0) HMo.out.own (j := q) (u := .slice (some ⟨Hf q, 0, none⟩) (N q + 1) (Cf q)) (by rw [List.getElem?_map, List.getElem?_range (by omega)]; rfl))
              have HM : Hid (∀ W, Calls Try.prog 14 #[.int .i64 (q : Int)] W fun e w' => e = .returned (.agg #[.int .i64 (90 + (q : Int)), .int .i64 (-(q : Int)), .string ⟨#[]⟩]) ∧ Below W.heap.size W w') := fun W => mark_any q W ⟨by omega, by omega⟩
              have hne : ∀ W, (binOp .neq 24 (.agg #[.int .i64 (90 + (q : Int)), .int .i64 (-(q : Int)), .string ⟨#[]⟩]) (.agg #[.int .i64 (90 + (q : Int)), .int .i64 (-(q : Int)), .string ⟨#[]⟩])).run Try.prog W = .ok (.bool false) W := fun W => by
                have := neqCon (markC q) (markC q) W
                rw [conEq_refl] at this
                exact this
              go_wp2
              go_loopw [8] (fun i wr2 => ∃ a : Nat, a ≤ N q + 1 ∧ i = .int .i64 a ∧ Hid (Below V.heap.size V wr2)) (fun i _ => N q + 1 - (intOf i).toNat)
              case atStart => exact ⟨0, by omega, rfl, HB⟩
              case round =>
                obtain ⟨a, ha, rfl, HB2⟩ := hrel
                have r1 := kept_cell HB2.out HR.out
                by_cases hla : a < N q + 1
                · have hi2 : (a : Int) < (N q : Int) + 1 := by omega
                  have l1 := kept_cell HB2.out (HMo.out.trio.ls q hlq)
                  have hx := conAt_kept (HMo.out.marks q a hlq hla) HB2.out
                  have x0 : wr.cell? ⟨Hf q, a * 3, none⟩ = some (.int .i64 (90 + (q : Int))) := hx.1
                  have x1 : wr.cell? ⟨Hf q, a * 3 + 1, none⟩ = some (.int .i64 (-(q : Int))) := hx.2.1
                  have x2 : wr.cell? ⟨Hf q, a * 3 + 2, none⟩ = some (.string ⟨#[]⟩) := hx.2.2
                  clear hx
                  by_cases hln : a < N q
                  · have hi3 : (a : Int) < (N q : Int) := by omega
                    have hy := conAt_kept (HMo.out.trio.marks q a hlq hln) HB2.out
                    have y0 : wr.cell? ⟨G q, a * 3, none⟩ = some (.int .i64 (90 + (q : Int))) := hy.1
                    have y1 : wr.cell? ⟨G q, a * 3 + 1, none⟩ = some (.int .i64 (-(q : Int))) := hy.2.1
                    have y2 : wr.cell? ⟨G q, a * 3 + 2, none⟩ = some (.string ⟨#[]⟩) := hy.2.2
                    clear hy
                    go_wp2
                    refine wp_region_over (fun W => W = wr) (by kernel_rfl) (by kernel_rfl) rfl ?_
                    rintro W rfl
                    have r1' := over_cell r1
                    have l1' := over_cell l1
                    have x0' := over_cell x0
                    have x1' := over_cell x1
                    have x2' := over_cell x2
                    have y0' := over_cell y0
                    have y1' := over_cell y1
                    have y2' := over_cell y2
                    clear r1 l1 x0 x1 x2 y0 y1 y2
                    repeat (go_big_quiet_step (first | (go_at_call 14; exact calls_over (HM.out _))))
                    refine wpQuiet_nil ?_
                    rintro _ ⟨z, rfl⟩
                    have HB3 := hide (HB2.out.trans ((over_below W z).mono HB2.out.size))
                    clear r1' l1' x0' x1' x2' y0' y1' y2'
                    go_wp2
                    go_roundw
                    case rel => exact ⟨a + 1, by omega, by go_num, HB3⟩
                    case measure => simp [intOf]; omega
                  · have hi3 : ¬ (a : Int) < (N q : Int) := by omega
                    go_wp2
                    refine wp_region_over (fun W => W = wr) (by kernel_rfl) (by kernel_rfl) rfl ?_
                    rintro W rfl
                    have r1' := over_cell r1
                    have l1' := over_cell l1
                    have x0' := over_cell x0
                    have x1' := over_cell x1
                    have x2' := over_cell x2
                    clear r1 l1 x0 x1 x2
                    repeat (go_big_quiet_step (first | (go_at_call 14; exact calls_over (HM.out _))))
                    refine wpQuiet_nil ?_
                    rintro _ ⟨z, rfl⟩
                    have HB3 := hide (HB2.out.trans ((over_below W z).mono HB2.out.size))
                    clear r1' l1' x0' x1' x2'
                    go_wp2
                    go_roundw
                    case rel => exact ⟨a + 1, by omega, by go_num, HB3⟩
                    case measure => simp [intOf]; omega
                · have hi2 : ¬ (a : Int) < (N q : Int) + 1 := by omega
                  go_wp2
                  go_roundw
                  case rel => exact ⟨q + 1, by omega, by go_num, HB2⟩
                  case measure => simp [intOf]; omega
            · have hi : ¬ (q : Int) < 3 := by omega
              have HO2 := hide (HO.out.trans (Only.of_below HB.out _))
              go_wp2
              go_ret
              exact ⟨rfl, HO2.out⟩
end Go.Proofs.Ytpkpajjdpiebfaa
