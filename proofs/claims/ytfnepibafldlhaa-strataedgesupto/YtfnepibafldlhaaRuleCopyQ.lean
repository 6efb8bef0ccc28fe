/- The law's rulesOf again, of rules whose slots are not followed. (From RuleCopy by a script: see NOTES.md.) -/
import Derived.Test.YtfnepibafldlhaaRuleCopy
import Derived.Test.YtfnepibafldlhaaRefEdges
import Derived.Test.YtfnepibafldlhaaEdgeLaw
namespace Go.Proofs.Ytfnepibafldlhaa
set_option linter.unusedSimpArgs false
set_option linter.unusedVariables false
open Go.RowKit Go.Maps

set_option maxRecDepth 100000 in
set_option maxHeartbeats 2000000 in
theorem rulesOfQ_any {w : World} {v : Value} {l : List Rul} (h : Has elRq w v l) :
    Calls Try.prog 8 #[v] w fun e w' => ∃ v', e = .returned v' ∧ ∃ l', Grow elRq 33 w.heap.size w' v' l' ∧ (l'.length = l.length ∧ edgesP l' = edgesP l) ∧ Below w.heap.size w w' := by
  obtain ⟨ip, hip, hp0, hp1, hp2⟩ := info_parts Try.infoPat8
  obtain ⟨ir, hir, hr0, hr1, hr2⟩ := info_parts Try.infoRul8
  obtain ⟨va, vc, rfl, -, -, hlen⟩ := h.shape
  have HL := hide h
  clear h
  go_enter Try.func8, Try.ntmps8
  go_wp2
  go_loopw [3, 4] (fun v y wl => ∃ (k : Nat) (l' : List Rul), k ≤ l.length ∧ y = .int .i64 k ∧ Hid (l'.length = k ∧ edgesP l' = edgesP (l.take k)) ∧ Hid (Grow elRq 33 w.heap.size wl v l') ∧ Hid (Below w.heap.size w wl)) (fun _ y _ => l.length - (intOf y).toNat)
  case atStart => exact ⟨0, [], by omega, rfl, ⟨rfl, by rw [List.take_zero]⟩, Grow.nil _ _ _ _, Below.refl _ _⟩
  case round =>
    obtain ⟨k, l', hk, rfl, HE, HG, HB⟩ := hrel
    obtain ⟨ma, mc, hms, -, -⟩ := HG.out.shape
    rw [HE.out.1] at hms
    subst hms
    by_cases hlt : k < l.length
    · have hi : (k : Int) < (l.length : Int) := by omega
      have hi0' : (0 : Int) ≤ (k : Int) := by omega
      obtain ⟨b, off, rfl, -, -, hrow⟩ := HL.out.row (by omega)
      obtain ⟨r, hx⟩ : ∃ r, l[k]? = some r := ⟨_, List.getElem?_eq_getElem hlt⟩
      have y0 := kept_cell HB.out (hrow k r hx 0 _ rfl)
      have y1 := kept_cell HB.out (hrow k r hx 1 _ rfl)
      have y2 := kept_cell HB.out (hrow k r hx 2 _ rfl)
      have y3 := kept_cell HB.out (hrow k r hx 3 _ rfl)
      have y4 := kept_cell HB.out (hrow k r hx 4 _ rfl)
      have y5 := kept_cell HB.out (hrow k r hx 5 _ rfl)
      have y6 := kept_cell HB.out (hrow k r hx 6 _ rfl)
      simp only [elRq, Nat.add_zero] at y0 y1 y2 y3 y4 y5 y6
      have hok := elRq_ok (HL.out.ok (List.mem_of_getElem? hx))
      obtain ⟨ra, rc, hrv, -, -, hrl⟩ := hok.2.1.shape
      obtain ⟨na, nc, hnv, -, -, hnl⟩ := hok.2.2.2.1.shape
      obtain ⟨ha0, hn0, hc0, hhv⟩ := hok.1.2
      obtain ⟨ta, tn, tc, htv⟩ := hok.2.2.1
      obtain ⟨sa, sn, sc, hsv⟩ := hok.2.2.2.2.1
      rw [hhv] at y1
      rw [hrv] at y2
      rw [htv] at y3
      rw [hnv] at y4
      rw [hsv] at y5
      have HXk := hide hx
      have HVs : Hid (r.h.v = .slice ha0 hn0 hc0 ∧ r.tv = .slice ta tn tc ∧ r.vv = .slice sa sn sc ∧ I64 r.h.q ∧ I64 r.c) := ⟨hhv, htv, hsv, hok.1.1, hok.2.2.2.2.2⟩
      have HPps : Hid (Has elPq w (.slice ra r.ps.length rc) r.ps) := by show Has elPq w _ _; rw [← hrv]; exact hok.2.1
      have HPns : Hid (Has elPq w (.slice na r.ns.length nc) r.ns) := by show Has elPq w _ _; rw [← hnv]; exact hok.2.2.2.1
      rename World => wq
      have HGm := hide HG.out
      clear HG
      obtain ⟨R, hR⟩ : ∃ R, wq.heap.size = R := ⟨_, rfl⟩
      obtain ⟨Y, hY⟩ : ∃ Y, Y = wq.alloc (.cells #[.int .i64 r.h.q, .slice ha0 hn0 hc0, .slice ra r.ps.length rc, .slice ta tn tc, .slice na r.ns.length nc, .slice sa sn sc, .int .i64 r.c] 33) := ⟨_, rfl⟩
      have HXY : Hid (∀ V : World, Below Y.heap.size Y V → V.heap[R]? = some (.cells #[.int .i64 r.h.q, .slice ha0 hn0 hc0, .slice ra r.ps.length rc, .slice ta tn tc, .slice na r.ns.length nc, .slice sa sn sc, .int .i64 r.c] 33 (0, 0))) := fun V hV => by
        have hh : Y.heap[R]? = some (.cells #[.int .i64 r.h.q, .slice ha0 hn0 hc0, .slice ra r.ps.length rc, .slice ta tn tc, .slice na r.ns.length nc, .slice sa sn sc, .int .i64 r.c] 33 (0, 0)) := by rw [hY, ← hR]; exact heap_alloc_new _ _
        rw [hV.block R (Array.getElem?_eq_some_iff.1 hh).1]
        exact hh
      have HYs : Hid (Y.heap.size = R + 1) := by rw [hY]; show (wq.heap.push _).size = _; rw [Array.size_push, hR]
      have HYb : Hid (Below wq.heap.size wq Y) := by rw [hY]; exact belo1 wq _
      have HBwY : Hid (∀ V : World, Below Y.heap.size Y V → Below w.heap.size w V) := fun V hV => by
        have h1 : Below w.heap.size w Y := HB.out.trans (HYb.out.mono HB.out.size)
        exact h1.trans (hV.mono h1.size)
      clear hrow hok hx hrv hnv hhv htv hsv
      go_wp2
      rw [← hY]
      clear hY
      go_loopw [6, 8] (fun v y wl => ∃ i : Nat, i ≤ r.ps.length ∧ y = .int .i64 i ∧ Hid (Grow elPq 28 Y.heap.size wl v (r.ps.take i)) ∧ Hid (Below Y.heap.size Y wl)) (fun _ y _ => r.ps.length - (intOf y).toNat)
      case atStart => exact ⟨0, by omega, rfl, Grow.nil _ _ _ _, Below.refl _ _⟩
      case round =>
        obtain ⟨i, hil, rfl, HG, HBi⟩ := hrel
        obtain ⟨x0, x2, x4⟩ := rule_at (HXY.out _ HBi.out)
        by_cases hlt8 : i < r.ps.length
        · have hi1 : (i : Int) < (r.ps.length : Int) := by omega
          have hi10 : (0 : Int) ≤ (i : Int) := by omega
          obtain ⟨pb, po, hpe, -, -, prow⟩ := HPps.out.row (by omega)
          cases hpe
          obtain ⟨p, hp⟩ : ∃ p, r.ps[i]? = some p := ⟨_, List.getElem?_eq_getElem hlt8⟩
          have z0 := kept_cell (HBwY.out _ HBi.out) (prow i p hp 0 _ rfl)
          have z1 := kept_cell (HBwY.out _ HBi.out) (prow i p hp 1 _ rfl)
          simp only [elPq, Nat.add_zero] at z0 z1
          have hpk := elPq_ok (HPps.out.ok (List.mem_of_getElem? hp))
          obtain ⟨qa, qn, qc, hqv⟩ := hpk.2
          have HO : Hid (elPq.ok (wr.alloc (.cells #[.int .i64 p.q, .slice qa qn qc] 28)) (fun b => Y.heap.size ≤ b ∧ u6.ownBlock ≠ some b) p) := ⟨hpk.1, _, _, _, hqv⟩
          have HNw : Hid (∀ (j : Nat) (u : Value), (elPq.cells p)[j]? = some u → (wr.alloc (.cells #[.int .i64 p.q, .slice qa qn qc] 28)).cell? ⟨wr.heap.size, j, none⟩ = some u) := fun j u hu => new_cells (cs := #[.int .i64 p.q, .slice qa qn qc]) j u (by rw [← hqv]; exact hu)
          rw [hqv] at z1
          have HLn : Hid ((r.ps.take i).length = i) := by show _ = _; rw [List.length_take]; omega
          have HTk := hide (take_snoc8 hp)
          obtain ⟨oa, oc, hsh, -, -⟩ := HG.out.shape
          rw [HLn.out] at hsh
          subst hsh
          have HG2 := hide (HG.out.kept (belo1 wr (.cells #[.int .i64 p.q, .slice qa qn qc] 28)))
          have HB2 := hide (HBi.out.alloc HBi.out.size (.cells #[.int .i64 p.q, .slice qa qn qc] 28))
          have HS2 := hide HB2.out.size
          obtain ⟨L, hL⟩ : ∃ L, r.ps.take i = L := ⟨_, rfl⟩
          rw [hL] at HG2 HTk HLn
          clear prow hp HG hL hpk hqv
          go_wp2_with (at_builtin; refine wpList_push (w0 := Y) elPq rfl _ _ 29 rfl Y.heap.size 28 ip _ 32 Try.underlying29 hip hp0 hp1 hp2 rfl (by decide) _ L i HLn.out rfl HG2.out p wr.heap.size 1 rfl HNw.out HO.out (by omega) HB2.out HS2.out ?_)
          intro g cap' w1 HG1 HB1 HGr
          clear HGr
          go_wp2
          go_roundw
          case rel => exact ⟨i + 1, by omega, by go_num, by rw [HTk.out]; exact HG1, HB1⟩
          case measure => simp [intOf]; omega
        · obtain rfl : i = r.ps.length := by omega
          have hi1 : ¬ (r.ps.length : Int) < (r.ps.length : Int) := by omega
          rw [List.take_of_length_le (Nat.le_refl _)] at HG
          go_wp2
          rename World => W1
          have HG6 := hide HG.out
          obtain ⟨pa6, pc6, hs6, -, -⟩ := HG6.out.shape
          subst hs6
          have HBW1 := hide HBi.out
          have HXW1 : Hid (∀ V : World, Below W1.heap.size W1 V → V.heap[R]? = some (.cells #[.int .i64 r.h.q, .slice ha0 hn0 hc0, .slice ra r.ps.length rc, .slice ta tn tc, .slice na r.ns.length nc, .slice sa sn sc, .int .i64 r.c] 33 (0, 0))) := fun V hV => HXY.out V (HBW1.out.trans (hV.mono HBW1.out.size))
          have HBwW1 : Hid (∀ V : World, Below W1.heap.size W1 V → Below w.heap.size w V) := fun V hV => HBwY.out V (HBW1.out.trans (hV.mono HBW1.out.size))
          clear HG HBi x0 x2 x4
          go_loopw [7, 9] (fun v y wl => ∃ i : Nat, i ≤ r.ns.length ∧ y = .int .i64 i ∧ Hid (Grow elPq 28 W1.heap.size wl v (r.ns.take i)) ∧ Hid (Below W1.heap.size W1 wl)) (fun _ y _ => r.ns.length - (intOf y).toNat)
          case atStart => exact ⟨0, by omega, rfl, Grow.nil _ _ _ _, Below.refl _ _⟩
          case round =>
            obtain ⟨i, hil, rfl, HG, HBi⟩ := hrel
            obtain ⟨x0, x2, x4⟩ := rule_at (HXW1.out _ HBi.out)
            by_cases hlt9 : i < r.ns.length
            · have hi1 : (i : Int) < (r.ns.length : Int) := by omega
              have hi10 : (0 : Int) ≤ (i : Int) := by omega
              obtain ⟨pb, po, hpe, -, -, prow⟩ := HPns.out.row (by omega)
              cases hpe
              obtain ⟨p, hp⟩ : ∃ p, r.ns[i]? = some p := ⟨_, List.getElem?_eq_getElem hlt9⟩
              have z0 := kept_cell (HBwW1.out _ HBi.out) (prow i p hp 0 _ rfl)
              have z1 := kept_cell (HBwW1.out _ HBi.out) (prow i p hp 1 _ rfl)
              simp only [elPq, Nat.add_zero] at z0 z1
              have hpk := elPq_ok (HPns.out.ok (List.mem_of_getElem? hp))
              obtain ⟨qa, qn, qc, hqv⟩ := hpk.2
              have HO : Hid (elPq.ok (wr.alloc (.cells #[.int .i64 p.q, .slice qa qn qc] 28)) (fun b => W1.heap.size ≤ b ∧ u7.ownBlock ≠ some b) p) := ⟨hpk.1, _, _, _, hqv⟩
              have HNw : Hid (∀ (j : Nat) (u : Value), (elPq.cells p)[j]? = some u → (wr.alloc (.cells #[.int .i64 p.q, .slice qa qn qc] 28)).cell? ⟨wr.heap.size, j, none⟩ = some u) := fun j u hu => new_cells (cs := #[.int .i64 p.q, .slice qa qn qc]) j u (by rw [← hqv]; exact hu)
              rw [hqv] at z1
              have HLn : Hid ((r.ns.take i).length = i) := by show _ = _; rw [List.length_take]; omega
              have HTk := hide (take_snoc8 hp)
              obtain ⟨oa, oc, hsh, -, -⟩ := HG.out.shape
              rw [HLn.out] at hsh
              subst hsh
              have HG2 := hide (HG.out.kept (belo1 wr (.cells #[.int .i64 p.q, .slice qa qn qc] 28)))
              have HB2 := hide (HBi.out.alloc HBi.out.size (.cells #[.int .i64 p.q, .slice qa qn qc] 28))
              have HS2 := hide HB2.out.size
              obtain ⟨L, hL⟩ : ∃ L, r.ns.take i = L := ⟨_, rfl⟩
              rw [hL] at HG2 HTk HLn
              clear prow hp HG hL hpk hqv
              go_wp2_with (at_builtin; refine wpList_push (w0 := W1) elPq rfl _ _ 29 rfl W1.heap.size 28 ip _ 32 Try.underlying29 hip hp0 hp1 hp2 rfl (by decide) _ L i HLn.out rfl HG2.out p wr.heap.size 1 rfl HNw.out HO.out (by omega) HB2.out HS2.out ?_)
              intro g cap' w1 HG1 HB1 HGr
              clear HGr
              go_wp2
              go_roundw
              case rel => exact ⟨i + 1, by omega, by go_num, by rw [HTk.out]; exact HG1, HB1⟩
              case measure => simp [intOf]; omega
            · obtain rfl : i = r.ns.length := by omega
              have hi1 : ¬ (r.ns.length : Int) < (r.ns.length : Int) := by omega
              rw [List.take_of_length_le (Nat.le_refl _)] at HG
              obtain ⟨pa7, pc7, hs7, -, -⟩ := HG.out.shape
              subst hs7
              clear x0 x2 x4
              have hX2 := HXW1.out _ HBi.out
              obtain ⟨c0, c1, c2, c3, c4, c5, c6, f2, f4⟩ := rule_all hX2
              obtain ⟨-, -, -, -, d4, -, -, -, g4⟩ := rule_all (rule_set1 hX2 (.slice pa6 r.ps.length pc6))
              obtain ⟨e0, e1, e2, e3, e4, e5, e6, -, -⟩ := rule_all (rule_set hX2 (.slice pa6 r.ps.length pc6) (.slice pa7 r.ns.length pc7))
              have hbq : Below wq.heap.size wq wr := HYb.out.trans ((HBW1.out.trans (HBi.out.mono HBW1.out.size)).mono HYb.out.size)
              have hb3 : Below wq.heap.size wq ((wr.setCell ⟨R, 2, none⟩ (.slice pa6 r.ps.length pc6)).setCell ⟨R, 4, none⟩ (.slice pa7 r.ns.length pc7)) := (hbq.setCell (by show wq.heap.size ≤ R; omega) _).setCell (by show wq.heap.size ≤ R; omega) _
              have HG2 := hide ((HGm.out.kept hb3).kept (belo1 ((wr.setCell ⟨R, 2, none⟩ (.slice pa6 r.ps.length pc6)).setCell ⟨R, 4, none⟩ (.slice pa7 r.ns.length pc7)) (.cells #[.int .i64 r.h.q, .slice ha0 hn0 hc0, .slice pa6 r.ps.length pc6, .slice ta tn tc, .slice pa7 r.ns.length pc7, .slice sa sn sc, .int .i64 r.c] 33)))
              have hwR : w.heap.size ≤ R := by have := HB.out.size; omega
              have hbw : Below w.heap.size w ((wr.setCell ⟨R, 2, none⟩ (.slice pa6 r.ps.length pc6)).setCell ⟨R, 4, none⟩ (.slice pa7 r.ns.length pc7)) := ((HBwW1.out _ HBi.out).setCell hwR _).setCell hwR _
              have HB2 := hide (hbw.alloc hbw.size (.cells #[.int .i64 r.h.q, .slice ha0 hn0 hc0, .slice pa6 r.ps.length pc6, .slice ta tn tc, .slice pa7 r.ns.length pc7, .slice sa sn sc, .int .i64 r.c] 33))
              have HS2 := hide HB2.out.size
              have hzz : ((wr.setCell ⟨R, 2, none⟩ (.slice pa6 r.ps.length pc6)).setCell ⟨R, 4, none⟩ (.slice pa7 r.ns.length pc7)).heap.size = wr.heap.size := by simp [World.setCell]
              have HNa : Hid (∀ (j : Nat) (u : Value), (elRq.cells (⟨r.h, .slice pa6 r.ps.length pc6, r.ps, r.tv, r.ts, .slice pa7 r.ns.length pc7, r.ns, r.vv, r.vs, r.c⟩ : Rul))[j]? = some u → (((wr.setCell ⟨R, 2, none⟩ (.slice pa6 r.ps.length pc6)).setCell ⟨R, 4, none⟩ (.slice pa7 r.ns.length pc7)).alloc (.cells #[.int .i64 r.h.q, .slice ha0 hn0 hc0, .slice pa6 r.ps.length pc6, .slice ta tn tc, .slice pa7 r.ns.length pc7, .slice sa sn sc, .int .i64 r.c] 33)).cell? ⟨wr.heap.size, j, none⟩ = some u) := fun j u hu => by
                rw [← hzz]
                exact new_cells (cs := #[.int .i64 r.h.q, .slice ha0 hn0 hc0, .slice pa6 r.ps.length pc6, .slice ta tn tc, .slice pa7 r.ns.length pc7, .slice sa sn sc, .int .i64 r.c]) j u (by rw [← HVs.out.1, ← HVs.out.2.1, ← HVs.out.2.2.1]; exact hu)
              have HNb : Hid (∀ (j : Nat) (u : Value), (elRq.cells (⟨r.h, .slice pa6 r.ps.length pc6, r.ps, r.tv, r.ts, .slice pa7 r.ns.length pc7, r.ns, r.vv, r.vs, r.c⟩ : Rul))[j]? = some u → (((wr.setCell ⟨R, 2, none⟩ (.slice pa6 r.ps.length pc6)).setCell ⟨R, 4, none⟩ (.slice pa7 r.ns.length pc7)).alloc (.cells #[.int .i64 r.h.q, .slice ha0 hn0 hc0, .slice pa6 r.ps.length pc6, .slice ta tn tc, .slice pa7 r.ns.length pc7, .slice sa sn sc, .int .i64 r.c] 33)).cell? ⟨((wr.setCell ⟨R, 2, none⟩ (.slice pa6 r.ps.length pc6)).setCell ⟨R, 4, none⟩ (.slice pa7 r.ns.length pc7)).heap.size, j, none⟩ = some u) := fun j u hu => by
                rw [hzz]
                exact HNa.out j u hu
              have hkeep : ∀ b, b < wr.heap.size → Y.heap.size ≤ b → (w.heap.size ≤ b ∧ (Value.slice ma k mc).ownBlock ≠ some b) ∧ (((wr.setCell ⟨R, 2, none⟩ (.slice pa6 r.ps.length pc6)).setCell ⟨R, 4, none⟩ (.slice pa7 r.ns.length pc7)).alloc (.cells #[.int .i64 r.h.q, .slice ha0 hn0 hc0, .slice pa6 r.ps.length pc6, .slice ta tn tc, .slice pa7 r.ns.length pc7, .slice sa sn sc, .int .i64 r.c] 33)).heap[b]? = wr.heap[b]? := fun b hb hy => by
                have hy2 := HYs.out
                refine ⟨⟨by omega, fun e => ?_⟩, copy_keep hb (by omega)⟩
                have := own_lt6 HGm.out.1 b e
                omega
              have hL6 := (HG6.out.kept HBi.out).new hrl
              have hL7 := HG.out.new hnl
              have HO : Hid (elRq.ok (((wr.setCell ⟨R, 2, none⟩ (.slice pa6 r.ps.length pc6)).setCell ⟨R, 4, none⟩ (.slice pa7 r.ns.length pc7)).alloc (.cells #[.int .i64 r.h.q, .slice ha0 hn0 hc0, .slice pa6 r.ps.length pc6, .slice ta tn tc, .slice pa7 r.ns.length pc7, .slice sa sn sc, .int .i64 r.c] 33)) (fun b => w.heap.size ≤ b ∧ (Value.slice ma k mc).ownBlock ≠ some b) (⟨r.h, .slice pa6 r.ps.length pc6, r.ps, r.tv, r.ts, .slice pa7 r.ns.length pc7, r.ns, r.vv, r.vs, r.c⟩ : Rul)) :=
                ⟨⟨HVs.out.2.2.2.1, _, _, _, HVs.out.1⟩, hL6.move hkeep, ⟨_, _, _, HVs.out.2.1⟩, hL7.move (fun b hb hy => hkeep b hb (Nat.le_trans HBW1.out.size hy)), ⟨_, _, _, HVs.out.2.2.1⟩, HVs.out.2.2.2.2⟩
              have HLn : Hid (l'.length = k) := HE.out.1
              have HEn : Hid ((l' ++ [(⟨r.h, .slice pa6 r.ps.length pc6, r.ps, r.tv, r.ts, .slice pa7 r.ns.length pc7, r.ns, r.vv, r.vs, r.c⟩ : Rul)]).length = k + 1 ∧ edgesP (l' ++ [(⟨r.h, .slice pa6 r.ps.length pc6, r.ps, r.tv, r.ts, .slice pa7 r.ns.length pc7, r.ns, r.vv, r.vs, r.c⟩ : Rul)]) = edgesP (l.take (k + 1))) := ⟨by rw [List.length_append, HE.out.1]; rfl, by rw [edgesP_push, edgesP_snoc HXk.out, HE.out.1, HE.out.2]; rfl⟩
              clear hX2 hbq hb3 hbw hkeep hL6 hL7 HG HG6 HBi HXW1 HXY HBwW1 HBwY HPps HPns HE HYs y0 y1 y2 y3 y4 y5 y6
              go_wp2_with (at_builtin; refine wpList_push (w0 := w) elRq rfl _ _ 22 rfl w.heap.size 33 ir _ 136 Try.underlying22 hir hr0 hr1 hr2 rfl (by decide) _ l' k HLn.out rfl HG2.out (⟨r.h, .slice pa6 r.ps.length pc6, r.ps, r.tv, r.ts, .slice pa7 r.ns.length pc7, r.ns, r.vv, r.vs, r.c⟩ : Rul) _ 1 rfl (by first | with_reducible exact HNa.out | with_reducible exact HNb.out) HO.out (by omega) HB2.out HS2.out ?_)
              intro g cap' w1 HG1 HB1 HGr
              clear HGr
              go_wp2
              go_roundw
              case rel => exact ⟨k + 1, _, by omega, by go_num, HEn, HG1, HB1⟩
              case measure => simp [intOf]; omega
    · obtain rfl : k = l.length := by omega
      have hi : ¬ (l.length : Int) < (l.length : Int) := by omega
      have HE2 := HE.out
      rw [List.take_of_length_le (Nat.le_refl _)] at HE2
      go_wp2
      go_ret
      exact ⟨_, rfl, l', HG.out, HE2, HB.out⟩

set_option maxRecDepth 100000 in
set_option maxHeartbeats 2000000 in
theorem equalRules_any {w : World} {v1 v2 : Value} {l1 l2 : List Rul} (h1 : Has elRq w v1 l1) (h2 : Has elRq w v2 l2) (hs : (edgesP l1).length ≤ 1048576) (hl : l1.length = l2.length) (he : edgesP l1 = edgesP l2) :
    Calls Try.prog 11 #[v1, v2] w fun e w' => e = .returned (.bool true) ∧ Below w.heap.size w w' := by
  obtain ⟨a1, c1, rfl, -, -, hn1⟩ := h1.shape
  obtain ⟨a2, c2, hv2, -, -, hn2⟩ := h2.shape
  rw [← hl] at hv2
  subst hv2
  have HL1 := hide h1
  have HL2 := hide h2
  have HS2 : Hid ((edgesP l2).length ≤ 1048576) := by show _ ≤ _; rw [← he]; exact hs
  have HEe := hide he
  clear h1 h2 he hl
  go_enter Try.func11, Try.ntmps11
  go_wp2_with (first
    | (go_at_call 7; (with_reducible refine (redges8_any HL1.out hs).mono ?_); rintro e W1 ⟨x1, rfl, g1, b1⟩; obtain ⟨xa, xc, rfl, -, -⟩ := g1.shape; have HX0 := hide (g1.list (by omega)); have HB1 := hide b1; clear g1 b1)
    | (go_at_call 7; (with_reducible refine (redges8_any (HL2.out.kept HB1.out) HS2.out).mono ?_); rintro e W2 ⟨x2, rfl, g2, b2⟩; rw [← HEe.out] at g2; obtain ⟨ya, yc, rfl, -, -⟩ := g2.shape; have HX2 := hide (g2.list (by omega)); have HX1 := hide (HX0.out.kept b2); have HB2 := hide (HB1.out.trans (b2.mono HB1.out.size)); clear g2 b2 HX0)
    | (go_at_call 10; (with_reducible refine (equalEdges_any HX1.out HX2.out).mono ?_); rintro e W3 ⟨rfl, b3⟩; have HB3 := hide (HB2.out.trans (b3.mono HB2.out.size)); clear b3))
  go_ret
  exact ⟨rfl, HB3.out⟩
end Go.Proofs.Ytfnepibafldlhaa
