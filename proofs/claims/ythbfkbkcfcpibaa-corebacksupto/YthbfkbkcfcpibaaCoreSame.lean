/- edictlaw07.atoms, clauses: two that hold the same are the same. -/
import Derived.Test.YthbfkbkcfcpibaaCoreBack
namespace Go.Proofs.Ythbfkbkcfcpibaa
set_option linter.unusedSimpArgs false
set_option linter.unusedVariables false
open Go.RowKit

def trmEq (a b : Trm) : Bool := a.k == b.k && (a.n == b.n && (a.s.toList == b.s.toList && a.off == b.off))
theorem trmEq_refl (a : Trm) : trmEq a a = true := by simp [trmEq]

theorem neqTrmSame (a : Trm) (w : World) : (binOp .neq 66 (.agg #[.int .i64 a.k, .int .i64 a.n, .string a.s, .int .i64 a.off]) (.agg #[.int .i64 a.k, .int .i64 a.n, .string a.s, .int .i64 a.off])).run Try.prog w = .ok (.bool false) w := by
  have h1 := run_equalIn_struct (P := Try.prog) w 9999 66 #[.int .i64 a.k, .int .i64 a.n, .string a.s, .int .i64 a.off] #[.int .i64 a.k, .int .i64 a.n, .string a.s, .int .i64 a.off] (by kernel_rfl) (by kernel_rfl)
  simp only [binOp]
  simp only [Op.equal, Op.maxDepth, Sem.run_bind]
  go_simp

set_option maxRecDepth 100000 in
set_option maxHeartbeats 1000000 in
theorem atoms_same {w : World} {p : ByteArray} {off : Int} {v1 v2 : Value} {ts : List Trm} (h1 : Has elTrm w v1 ts) (h2 : Has elTrm w v2 ts) :
    Calls Try.prog 19 #[.agg #[.string p, v1, .int .i64 off], .agg #[.string p, v2, .int .i64 off]] w fun e w' => e = .returned (.bool true) ∧ Below w.heap.size w w' := by
  obtain ⟨a1, c1, rfl, -, -, hlen⟩ := h1.shape
  obtain ⟨a2, c2, rfl, -, -, -⟩ := h2.shape
  have HH1 := hide h1
  have HH2 := hide h2
  have hq : (off != off) = false := by simp
  have hp : (p.toList != p.toList) = false := by simp
  clear h1 h2
  go_enter Try.func19, Try.ntmps19
  go_wp2
  obtain ⟨Y, hY⟩ : ∃ Y, Y = ((w.alloc (.cells #[.string p, .slice a1 ts.length c1, .int .i64 off] 30)).alloc (.cells #[.string p, .slice a2 ts.length c2, .int .i64 off] 30)) := ⟨_, rfl⟩
  have HB0 : Hid (Below w.heap.size w Y) := by rw [hY]; exact belo2 _ _ _
  have HP : Hid (Y.cell? ⟨w.heap.size, 1, none⟩ = some (.slice a1 ts.length c1) ∧ Y.cell? ⟨w.heap.size + 1, 1, none⟩ = some (.slice a2 ts.length c2)) := by show _ ∧ _; rw [hY]; constructor <;> simp
  rw [← hY]
  clear hY
  go_loopw [5] (fun i wl => ∃ k : Nat, k ≤ ts.length ∧ i = .int .i64 k ∧ Hid (Below Y.heap.size Y wl)) (fun i _ => ts.length - (intOf i).toNat)
  case atStart => exact ⟨0, by omega, rfl, Below.refl _ _⟩
  case round =>
    obtain ⟨k, hk, rfl, HB⟩ := hrel
    have HBw := hide (HB0.out.trans (HB.out.mono HB0.out.size))
    have p1 := kept_cell HB.out HP.out.1
    have p2 := kept_cell HB.out HP.out.2
    by_cases hlt : k < ts.length
    · have hi : (k : Int) < (ts.length : Int) := by omega
      have hi0 : (0 : Int) ≤ (k : Int) := by omega
      obtain ⟨b1, o1, rfl, -, -, hr1⟩ := HH1.out.row (by omega)
      obtain ⟨b2, o2, rfl, -, -, hr2⟩ := HH2.out.row (by omega)
      obtain ⟨x, hx⟩ : ∃ x, ts[k]? = some x := ⟨_, List.getElem?_eq_getElem hlt⟩
      have x0 := over_cell (kept_cell HBw.out (hr1 k x hx 0 _ rfl))
      have x1 := over_cell (kept_cell HBw.out (hr1 k x hx 1 _ rfl))
      have x2 := over_cell (kept_cell HBw.out (hr1 k x hx 2 _ rfl))
      have x3 := over_cell (kept_cell HBw.out (hr1 k x hx 3 _ rfl))
      have y0 := over_cell (kept_cell HBw.out (hr2 k x hx 0 _ rfl))
      have y1 := over_cell (kept_cell HBw.out (hr2 k x hx 1 _ rfl))
      have y2 := over_cell (kept_cell HBw.out (hr2 k x hx 2 _ rfl))
      have y3 := over_cell (kept_cell HBw.out (hr2 k x hx 3 _ rfl))
      simp only [elTrm, Nat.add_zero] at x0 x1 x2 x3 y0 y1 y2 y3
      have hs := neqTrmSame x
      clear hr1 hr2 hx
      go_wp2
      refine wp_region_over (fun W => W = wr) (by kernel_rfl) (by kernel_rfl) rfl ?_
      rintro W rfl
      have p1' := over_cell p1
      have p2' := over_cell p2
      clear p1 p2
      repeat (go_big_quiet_step (first | fail))
      refine wpQuiet_nil ?_
      rintro _ ⟨z, rfl⟩
      have HB3 := hide (HB.out.trans ((over_below W z).mono HB.out.size))
      clear x0 x1 x2 x3 y0 y1 y2 y3 p1' p2'
      go_wp2
      go_roundw
      case rel => exact ⟨k + 1, by omega, by go_num, HB3⟩
      case measure => simp [intOf]; omega
    · obtain rfl : k = ts.length := by omega
      have hi : ¬ (ts.length : Int) < (ts.length : Int) := by omega
      go_wp2
      go_ret
      exact ⟨rfl, HBw.out⟩

set_option maxRecDepth 100000 in
set_option maxHeartbeats 1000000 in
theorem clauses_same {w : World} {p : ByteArray} {off : Int} {h1 h2 b1 b2 : Value} {ts : List Trm} {L1 L2 : List Lix} (g1 : Has elTrm w h1 ts) (g2 : Has elTrm w h2 ts) (k1 : Has elLix w b1 L1) (k2 : Has elLix w b2 L2) (hd : L1.map Lix.d = L2.map Lix.d) :
    Calls Try.prog 7 #[.agg #[.string p, h1, .int .i64 off, b1], .agg #[.string p, h2, .int .i64 off, b2]] w fun e w' => e = .returned (.bool true) ∧ Below w.heap.size w w' := by
  obtain ⟨xa, xc, rfl, -, -, hlen⟩ := k1.shape
  obtain ⟨ya, yc, hg, -, -, -⟩ := k2.shape
  have hl : L2.length = L1.length := by have := congrArg List.length hd; simpa using this.symm
  rw [hl] at hg
  subst hg
  obtain ⟨ua, uc, rfl, -, -, -⟩ := g1.shape
  obtain ⟨va, vc, rfl, -, -, -⟩ := g2.shape
  have HG1 := hide g1
  have HG2 := hide g2
  have HK1 := hide k1
  have HK2 := hide k2
  have HD := hide hd
  clear g1 g2 k1 k2 hd hl
  go_enter Try.func7, Try.ntmps7
  go_wp2_with fail
  obtain ⟨Y, hY⟩ : ∃ Y, Y = ((w.alloc (.cells #[.string p, .slice ua ts.length uc, .int .i64 off, .slice xa L1.length xc] 33)).alloc (.cells #[.string p, .slice va ts.length vc, .int .i64 off, .slice ya L1.length yc] 33)) := ⟨_, rfl⟩
  have HB0 : Hid (Below w.heap.size w Y) := by rw [hY]; exact belo2 _ _ _
  have HP : Hid (Y.cell? ⟨w.heap.size, 3, none⟩ = some (.slice xa L1.length xc) ∧ Y.cell? ⟨w.heap.size + 1, 3, none⟩ = some (.slice ya L1.length yc)) := by show _ ∧ _; rw [hY]; constructor <;> simp
  rw [← hY]
  clear hY
  refine (atoms_same (HG1.out.kept HB0.out) (HG2.out.kept HB0.out)).mono ?_
  rintro e w1 ⟨rfl, h1⟩
  have HB1 := hide (HB0.out.trans (h1.mono HB0.out.size))
  have HP1 := hide (And.intro (kept_cell h1 HP.out.1) (kept_cell h1 HP.out.2))
  clear h1 HB0 HP
  obtain ⟨p1, p2⟩ := HP1.out
  go_wp2_with fail
  clear p1 p2
  go_loopw [5, 6, 7] (fun i _ _ wl => ∃ k : Nat, k ≤ L1.length ∧ i = .int .i64 k ∧ Hid (Below w1.heap.size w1 wl)) (fun i _ _ _ => L1.length - (intOf i).toNat)
  case atStart => exact ⟨0, by omega, rfl, Below.refl _ _⟩
  case round =>
    obtain ⟨k, hk, rfl, HB⟩ := hrel
    have HBw := hide (HB1.out.trans (HB.out.mono HB1.out.size))
    have p1 := kept_cell HB.out HP1.out.1
    by_cases hlt : k < L1.length
    · have hi : (k : Int) < (L1.length : Int) := by omega
      have hi0 : (0 : Int) ≤ (k : Int) := by omega
      have hll : L2.length = L1.length := by have := congrArg List.length HD.out; simpa using this.symm
      obtain ⟨b1, o1, rfl, -, -, hr1⟩ := HK1.out.row (by omega)
      obtain ⟨b2, o2, rfl, -, -, hr2⟩ := HK2.out.row (by omega)
      obtain ⟨x, hx⟩ : ∃ x, L1[k]? = some x := ⟨_, List.getElem?_eq_getElem hlt⟩
      obtain ⟨y, hy⟩ : ∃ y, L2[k]? = some y := ⟨_, List.getElem?_eq_getElem (by omega)⟩
      have hxy : x.d = y.d := by
        have h1 := congrArg (fun l => l[k]?) HD.out
        simp only [List.getElem?_map, hx, hy, Option.map_some, Option.some.injEq] at h1
        exact h1
      have HXo := hide (elAtx_ok (elLix_ok (HK1.out.ok (List.mem_of_getElem? hx))).2.1).2.2
      have HYo := hide (elAtx_ok (elLix_ok (HK2.out.ok (List.mem_of_getElem? hy))).2.1).2.2
      have xs := fun j u hu => kept_cell HBw.out (hr1 k x hx j u hu)
      have ys := fun j u hu o => kept_cell (HBw.out.alloc HBw.out.size o) (hr2 k y hy j u hu)
      clear hr1 hr2 hx hy hll
      obtain ⟨lk, ⟨lp, v1, lo, lt⟩, op, ⟨t1k, t1n, t1s, t1o⟩, ⟨t2k, t2n, t2s, t2o⟩, lf⟩ := x
      obtain ⟨lk', ⟨lp', v2, lo', lt'⟩, op', ⟨t1k', t1n', t1s', t1o'⟩, ⟨t2k', t2n', t2s', t2o'⟩, lf'⟩ := y
      simp only [Lix.d, LD.mk.injEq, Trm.mk.injEq] at hxy
      obtain ⟨rfl, rfl, rfl, rfl, rfl, ⟨rfl, rfl, rfl, rfl⟩, ⟨rfl, rfl, rfl, rfl⟩, rfl⟩ := hxy
      obtain ⟨fa, fc, hv1, -, -, -⟩ := HXo.out.shape
      obtain ⟨ga, gc, hv2, -, -, -⟩ := HYo.out.shape
      dsimp only at hv1 hv2
      subst hv1 hv2
      dsimp only at HXo HYo
      have x0 := xs 0 _ rfl
      have x1 := xs 1 _ rfl
      have x2 := xs 2 _ rfl
      have x3 := xs 3 _ rfl
      have x4 := xs 4 _ rfl
      have x5 := xs 5 _ rfl
      have x6 := xs 6 _ rfl
      have x7 := xs 7 _ rfl
      have x8 := xs 8 _ rfl
      have x9 := xs 9 _ rfl
      have x10 := xs 10 _ rfl
      have x11 := xs 11 _ rfl
      have x12 := xs 12 _ rfl
      have x13 := xs 13 _ rfl
      simp only [elLix, Nat.add_zero] at x0 x1 x2 x3 x4 x5 x6 x7 x8 x9 x10 x11 x12 x13
      have y0 := ys 0 _ rfl (.cells #[.int .i64 lk, .string lp, .slice fa lt.length fc, .int .i64 lo, .int .i64 op, .int .i64 t1k, .int .i64 t1n, .string t1s, .int .i64 t1o, .int .i64 t2k, .int .i64 t2n, .string t2s, .int .i64 t2o, .int .i64 lf] 68)
      have y1 := ys 1 _ rfl (.cells #[.int .i64 lk, .string lp, .slice fa lt.length fc, .int .i64 lo, .int .i64 op, .int .i64 t1k, .int .i64 t1n, .string t1s, .int .i64 t1o, .int .i64 t2k, .int .i64 t2n, .string t2s, .int .i64 t2o, .int .i64 lf] 68)
      have y2 := ys 2 _ rfl (.cells #[.int .i64 lk, .string lp, .slice fa lt.length fc, .int .i64 lo, .int .i64 op, .int .i64 t1k, .int .i64 t1n, .string t1s, .int .i64 t1o, .int .i64 t2k, .int .i64 t2n, .string t2s, .int .i64 t2o, .int .i64 lf] 68)
      have y3 := ys 3 _ rfl (.cells #[.int .i64 lk, .string lp, .slice fa lt.length fc, .int .i64 lo, .int .i64 op, .int .i64 t1k, .int .i64 t1n, .string t1s, .int .i64 t1o, .int .i64 t2k, .int .i64 t2n, .string t2s, .int .i64 t2o, .int .i64 lf] 68)
      have y4 := ys 4 _ rfl (.cells #[.int .i64 lk, .string lp, .slice fa lt.length fc, .int .i64 lo, .int .i64 op, .int .i64 t1k, .int .i64 t1n, .string t1s, .int .i64 t1o, .int .i64 t2k, .int .i64 t2n, .string t2s, .int .i64 t2o, .int .i64 lf] 68)
      have y5 := ys 5 _ rfl (.cells #[.int .i64 lk, .string lp, .slice fa lt.length fc, .int .i64 lo, .int .i64 op, .int .i64 t1k, .int .i64 t1n, .string t1s, .int .i64 t1o, .int .i64 t2k, .int .i64 t2n, .string t2s, .int .i64 t2o, .int .i64 lf] 68)
      have y6 := ys 6 _ rfl (.cells #[.int .i64 lk, .string lp, .slice fa lt.length fc, .int .i64 lo, .int .i64 op, .int .i64 t1k, .int .i64 t1n, .string t1s, .int .i64 t1o, .int .i64 t2k, .int .i64 t2n, .string t2s, .int .i64 t2o, .int .i64 lf] 68)
      have y7 := ys 7 _ rfl (.cells #[.int .i64 lk, .string lp, .slice fa lt.length fc, .int .i64 lo, .int .i64 op, .int .i64 t1k, .int .i64 t1n, .string t1s, .int .i64 t1o, .int .i64 t2k, .int .i64 t2n, .string t2s, .int .i64 t2o, .int .i64 lf] 68)
      have y8 := ys 8 _ rfl (.cells #[.int .i64 lk, .string lp, .slice fa lt.length fc, .int .i64 lo, .int .i64 op, .int .i64 t1k, .int .i64 t1n, .string t1s, .int .i64 t1o, .int .i64 t2k, .int .i64 t2n, .string t2s, .int .i64 t2o, .int .i64 lf] 68)
      have y9 := ys 9 _ rfl (.cells #[.int .i64 lk, .string lp, .slice fa lt.length fc, .int .i64 lo, .int .i64 op, .int .i64 t1k, .int .i64 t1n, .string t1s, .int .i64 t1o, .int .i64 t2k, .int .i64 t2n, .string t2s, .int .i64 t2o, .int .i64 lf] 68)
      have y10 := ys 10 _ rfl (.cells #[.int .i64 lk, .string lp, .slice fa lt.length fc, .int .i64 lo, .int .i64 op, .int .i64 t1k, .int .i64 t1n, .string t1s, .int .i64 t1o, .int .i64 t2k, .int .i64 t2n, .string t2s, .int .i64 t2o, .int .i64 lf] 68)
      have y11 := ys 11 _ rfl (.cells #[.int .i64 lk, .string lp, .slice fa lt.length fc, .int .i64 lo, .int .i64 op, .int .i64 t1k, .int .i64 t1n, .string t1s, .int .i64 t1o, .int .i64 t2k, .int .i64 t2n, .string t2s, .int .i64 t2o, .int .i64 lf] 68)
      have y12 := ys 12 _ rfl (.cells #[.int .i64 lk, .string lp, .slice fa lt.length fc, .int .i64 lo, .int .i64 op, .int .i64 t1k, .int .i64 t1n, .string t1s, .int .i64 t1o, .int .i64 t2k, .int .i64 t2n, .string t2s, .int .i64 t2o, .int .i64 lf] 68)
      have y13 := ys 13 _ rfl (.cells #[.int .i64 lk, .string lp, .slice fa lt.length fc, .int .i64 lo, .int .i64 op, .int .i64 t1k, .int .i64 t1n, .string t1s, .int .i64 t1o, .int .i64 t2k, .int .i64 t2n, .string t2s, .int .i64 t2o, .int .i64 lf] 68)
      simp only [elLix, Nat.add_zero] at y0 y1 y2 y3 y4 y5 y6 y7 y8 y9 y10 y11 y12 y13
      clear xs ys
      have p2 := kept_cell (HB.out.alloc HB.out.size (.cells #[.int .i64 lk, .string lp, .slice fa lt.length fc, .int .i64 lo, .int .i64 op, .int .i64 t1k, .int .i64 t1n, .string t1s, .int .i64 t1o, .int .i64 t2k, .int .i64 t2n, .string t2s, .int .i64 t2o, .int .i64 lf] 68)) HP1.out.2
      have hq1 : (lk != lk) = false := by simp
      have hq2 : (op != op) = false := by simp
      have hq3 : (lf != lf) = false := by simp
      have hq4 := neqTrmSame ⟨t1k, t1n, t1s, t1o⟩
      have hq5 := neqTrmSame ⟨t2k, t2n, t2s, t2o⟩
      dsimp only at hq4 hq5
      have HBX : Hid (Below wr.heap.size wr ((wr.alloc (.cells #[.int .i64 lk, .string lp, .slice fa lt.length fc, .int .i64 lo, .int .i64 op, .int .i64 t1k, .int .i64 t1n, .string t1s, .int .i64 t1o, .int .i64 t2k, .int .i64 t2n, .string t2s, .int .i64 t2o, .int .i64 lf] 68)).alloc (.cells #[.int .i64 lk, .string lp, .slice ga lt.length gc, .int .i64 lo, .int .i64 op, .int .i64 t1k, .int .i64 t1n, .string t1s, .int .i64 t1o, .int .i64 t2k, .int .i64 t2n, .string t2s, .int .i64 t2o, .int .i64 lf] 68))) := belo2 _ _ _
      have HBv := hide (HBw.out.trans (HBX.out.mono HBw.out.size))
      have HAt := hide (atoms_same (p := lp) (off := lo) (HXo.out.kept HBv.out) (HYo.out.kept HBv.out))
      go_wp2_with (go_at_call 19; refine HAt.out.mono ?_; rintro e w2 ⟨rfl, h2⟩)
      go_roundw
      case rel => exact ⟨k + 1, by omega, by go_num, HB.out.trans ((HBX.out.trans (h2.mono HBX.out.size)).mono HB.out.size)⟩
      case measure => simp [intOf]; omega
    · obtain rfl : k = L1.length := by omega
      have hi : ¬ (L1.length : Int) < (L1.length : Int) := by omega
      go_wp2
      go_ret
      exact ⟨rfl, HBw.out⟩
end Go.Proofs.Ythbfkbkcfcpibaa
