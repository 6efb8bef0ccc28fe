/- The document's Edges. (By mk_refedges.py.) -/
import Derived.Test.YtfnepibafldlhaaRuleEdges
import Derived.Deep.RegionHeld3
namespace Go.Proofs.Ytfnepibafldlhaa
set_option linter.unusedSimpArgs false
set_option linter.unusedVariables false
open Go.RowKit

theorem lt_of_block8 {w : World} {k : Nat} {o : Obj} (h : w.heap[k]? = some o) : k < w.heap.size := (Array.getElem?_eq_some_iff.1 h).1
theorem grow_apartE {α : Type} {E : El α} {w : World} {e t : TypeId} {base : Nat} {v : Value} {l : List α} {b : Nat} {c : Array Value} {f : Nat × Nat} (h : Grow E e base w v l) (hb : w.heap[b]? = some (.cells c t f)) (hne : t ≠ e) : v.ownBlock ≠ some b := by
  rcases h.1.2 with ⟨e1, _⟩ | ⟨g, cap, cur, e1, _, hg, _⟩
  · rw [e1]; exact fun h => by cases h
  · rw [e1]
    intro h2
    simp only [Value.ownBlock, Option.some.injEq] at h2
    rw [h2, hb] at hg
    simp only [Option.some.injEq, Obj.cells.injEq] at hg
    exact hne hg.2.1

set_option maxRecDepth 100000 in
set_option maxHeartbeats 2000000 in
theorem redges8_any {w : World} {v : Value} {l : List Rul} (h : Has elRq w v l) (hs : (edgesP l).length ≤ 1048576) :
    Calls Try.prog 7 #[v] w fun e w' => ∃ v', e = .returned v' ∧ Grow elEdg 39 w.heap.size w' v' (edgesP l) ∧ Below w.heap.size w w' := by
  obtain ⟨i0, hi0, hz0, hz1, hz2⟩ := info_parts Try.infoEdg
  obtain ⟨va, vc, rfl, -, -, hlen⟩ := h.shape
  have HL := hide h
  clear h
  go_enter Try.func7, Try.ntmps7
  go_wp2
  go_loopw [3, 4] (fun v y wl => ∃ k : Nat, k ≤ l.length ∧ y = .int .i64 k ∧ Hid (Grow elEdg 39 w.heap.size wl v (edgesP (l.take k))) ∧ Hid (Below w.heap.size w wl)) (fun _ y _ => l.length - (intOf y).toNat)
  case atStart => exact ⟨0, by omega, rfl, Grow.nil _ _ _ _, Below.refl _ _⟩
  case round =>
    obtain ⟨k, hk, rfl, HG, HB⟩ := hrel
    obtain ⟨pa, pc, rfl, -, -⟩ := HG.out.shape
    by_cases hlt : k < l.length
    · have hi : (k : Int) < (l.length : Int) := by omega
      have hi0' : (0 : Int) ≤ (k : Int) := by omega
      obtain ⟨b, off, rfl, -, -, hrow⟩ := HL.out.row (by omega)
      obtain ⟨r, hx⟩ : ∃ r, l[k]? = some r := ⟨_, List.getElem?_eq_getElem hlt⟩
      have y0 := kept_cell HB.out (hrow k r hx 0 _ rfl)
      have y1 := kept_cell HB.out (hrow k r hx 1 _ rfl)
      have y2 := kept_cell HB.out (hrow k r hx 2 _ rfl)
      have y3 := kept_cell HB.out (hrow k r hx 3 _ rfl)
      have y4 := kept_cell HB.out (hrow k r hx 4 _ rfl)
      have y5 := kept_cell HB.out (hrow k r hx 5 _ rfl)
      have y6 := kept_cell HB.out (hrow k r hx 6 _ rfl)
      simp only [elRq, Nat.add_zero] at y0 y1 y2 y3 y4 y5 y6
      have hok := elRq_ok (HL.out.ok (List.mem_of_getElem? hx))
      obtain ⟨ra, rc, hrv, -, -, hrl⟩ := hok.2.1.shape
      obtain ⟨na, nc, hnv, -, -, hnl⟩ := hok.2.2.2.1.shape
      obtain ⟨ha0, hn0, hc0, hhv⟩ := hok.1.2
      obtain ⟨ta, tn, tc, htv⟩ := hok.2.2.1
      obtain ⟨sa, sn, sc, hsv⟩ := hok.2.2.2.2.1
      rw [hhv] at y1
      rw [hrv] at y2
      rw [htv] at y3
      rw [hnv] at y4
      rw [hsv] at y5
      have HXk := hide hx
      have HPp : Hid (Has elPq w (.slice ra r.ps.length rc) r.ps) := by show Has elPq w _ _; rw [← hrv]; exact hok.2.1
      have HPn : Hid (Has elPq w (.slice na r.ns.length nc) r.ns) := by show Has elPq w _ _; rw [← hnv]; exact hok.2.2.2.1
      have HRq : Hid (I64 r.h.q) := hok.1.1
      have HKi : Hid (I64 (k : Int)) := ⟨by omega, by omega⟩
      have HLe : Hid ((edgesP (l.take k)).length + r.ps.length + r.ns.length ≤ 1048576) := by
        have h1 := edgesP_take_le l (k + 1)
        rw [edgesP_snoc hx] at h1
        simp only [edgR, List.length_append, List.length_map] at h1
        show _ ≤ _
        omega
      have HLf : Hid ((edgesP (l.take k)).length + r.ps.length ≤ 1048576) := by have := HLe.out; show _ ≤ _; omega
      obtain ⟨R, hR⟩ : ∃ R, wr.heap.size = R := ⟨_, rfl⟩
      have HAp : Hid ((Value.slice pa (edgesP (l.take k)).length pc).ownBlock ≠ some R) := fun e => by have := own_lt6 HG.out.1 R e; omega
      have hX : (wr.alloc (.cells #[.int .i64 r.h.q, .slice ha0 hn0 hc0, .slice ra r.ps.length rc, .slice ta tn tc, .slice na r.ns.length nc, .slice sa sn sc, .int .i64 r.c] 33)).heap[R]? = some (.cells #[.int .i64 r.h.q, .slice ha0 hn0 hc0, .slice ra r.ps.length rc, .slice ta tn tc, .slice na r.ns.length nc, .slice sa sn sc, .int .i64 r.c] 33 (0, 0)) := by rw [← hR]; exact heap_alloc_new _ _
      have HX := hide hX
      replace HG := hide (HG.out.kept (belo1 wr (.cells #[.int .i64 r.h.q, .slice ha0 hn0 hc0, .slice ra r.ps.length rc, .slice ta tn tc, .slice na r.ns.length nc, .slice sa sn sc, .int .i64 r.c] 33)))
      replace HB := hide (HB.out.alloc HB.out.size (.cells #[.int .i64 r.h.q, .slice ha0 hn0 hc0, .slice ra r.ps.length rc, .slice ta tn tc, .slice na r.ns.length nc, .slice sa sn sc, .int .i64 r.c] 33))
      clear hrow hok hx hrv hnv hhv htv hsv  hX
      go_wp2
      go_loopw [3, 6] (fun v y wl => ∃ i : Nat, i ≤ r.ps.length ∧ y = .int .i64 i ∧ Hid (Grow elEdg 39 w.heap.size wl v (edgesP (l.take k) ++ (r.ps.take i).map (edgOf false k r))) ∧ Hid (wl.heap[R]? = some (.cells #[.int .i64 r.h.q, .slice ha0 hn0 hc0, .slice ra r.ps.length rc, .slice ta tn tc, .slice na r.ns.length nc, .slice sa sn sc, .int .i64 r.c] 33 (0, 0))) ∧ Hid (Below w.heap.size w wl)) (fun _ y _ => r.ps.length - (intOf y).toNat)
      case atStart => exact ⟨0, by omega, rfl, by rw [List.take_zero, List.map_nil, List.append_nil]; exact HG, HX, HB⟩
      case round =>
        clear HG HX HB
        obtain ⟨i, hil, rfl, HG, HX, HB⟩ := hrel
        have x0 : wr.cell? ⟨R, 0, none⟩ = some (.int .i64 r.h.q) := by simp [World.cell?, HX.out]
        have x1 : wr.cell? ⟨R, 2, none⟩ = some (.slice ra r.ps.length rc) := by simp [World.cell?, HX.out]
        have HLn : Hid ((edgesP (l.take k) ++ (r.ps.take i).map (edgOf false k r)).length = (edgesP (l.take k)).length + i) := by show _ = _; rw [List.length_append, List.length_map, List.length_take]; omega
        obtain ⟨oa, oc, hsh, -, -⟩ := HG.out.shape
        rw [HLn.out] at hsh
        subst hsh
        by_cases hlt6 : i < r.ps.length
        · have hi1 : (i : Int) < (r.ps.length : Int) := by omega
          have hi10 : (0 : Int) ≤ (i : Int) := by omega
          obtain ⟨pb, po, hpe, -, -, prow⟩ := HPp.out.row (by omega)
          cases hpe
          obtain ⟨p, hp⟩ : ∃ p, r.ps[i]? = some p := ⟨_, List.getElem?_eq_getElem hlt6⟩
          have hpk := elPq_ok (HPp.out.ok (List.mem_of_getElem? hp))
          have HO : Hid (I64 p.q ∧ I64 r.h.q ∧ I64 (k : Int)) := ⟨hpk.1, HRq.out, by constructor <;> omega⟩
          have hz : ∀ V : World, Below w.heap.size w V → V.cell? ⟨pb, po + i * 2, none⟩ = some (.int .i64 p.q) := fun V hV => by
            have z0 := kept_cell hV (prow i p hp 0 _ rfl)
            simp only [elPq, Nat.add_zero] at z0
            exact z0
          have HZ := hide hz
          have z0 := hz _ HB.out
          have HTk : Hid (edgesP (l.take k) ++ (r.ps.take (i + 1)).map (edgOf false k r) = (edgesP (l.take k) ++ (r.ps.take i).map (edgOf false k r)) ++ [edgOf false k r p]) := by show _ = _; rw [take_snoc8 hp]; simp
          have hle : (edgesP (l.take k)).length + i + 1 < 1073741824 := by have := HLe.out; have := HLf.out; omega
          have HAp : Hid ((Value.slice oa ((edgesP (l.take k)).length + i) oc).ownBlock ≠ some R) := grow_apartE HG.out HX.out (by decide)
          have HBd : Hid (Below w.heap.size w (wr.drew.alloc (.cells #[.int .i64 p.q, .int .i64 r.h.q, .bool false, .int .i64 (k : Int)] 39))) := HB.out.drew.alloc HB.out.size _
          have HBr : Hid (Below wr.heap.size wr (wr.drew.alloc (.cells #[.int .i64 p.q, .int .i64 r.h.q, .bool false, .int .i64 (k : Int)] 39))) := ((Below.refl _ wr).drew).alloc (Nat.le_refl _) _
          have HG2 := hide (HG.out.kept HBr.out)
          have HXd : Hid (∀ V : World, Below wr.heap.size wr V → V.cell? ⟨R, 0, none⟩ = some (.int .i64 r.h.q) ∧ V.cell? ⟨R, 2, none⟩ = some (.slice (some ⟨pb, po, none⟩) r.ps.length rc)) := fun V hV => ⟨kept_cell hV x0, kept_cell hV x1⟩
          obtain ⟨L, hL⟩ : ∃ L, (edgesP (l.take k) ++ (r.ps.take i).map (edgOf false k r)) = L := ⟨_, rfl⟩
          obtain ⟨N, hN⟩ : ∃ N, (edgesP (l.take k)).length + i = N := ⟨_, rfl⟩
          rw [hL] at HG2 HTk HLn HG
          rw [hN] at HG2 HLn hle HAp HG ⊢
          clear prow hp hL hpk hN hz
          go_upto_region 9 with fail
          go_region_held3 (fun V => V.cell? ⟨R, 0, none⟩ = some (.int .i64 r.h.q) ∧ V.cell? ⟨R, 2, none⟩ = some (.slice (some ⟨pb, po, none⟩) r.ps.length rc) ∧ V.cell? ⟨pb, po + i * 2, none⟩ = some (.int .i64 p.q))
            (first
              | exact ⟨x0, x1, z0⟩
              | exact ⟨(HXd.out _ HBr.out).1, (HXd.out _ HBr.out).2, HZ.out _ HBd.out⟩
              | exact HS4.out)
            (first
              | (refine step_push (w0 := w) elEdg (by rfl) _ _ 23 (by rfl) w.heap.size 39 i0 _ 32 Try.underlying23 hi0 hz0 hz1 hz2 rfl (by decide) _ L N HLn.out (by rfl) HG2.out (edgOf false k r p) wr.heap.size 1 (by rfl) (fun j u hu => new_cells (w := wr.drew) (cs := #[.int .i64 p.q, .int .i64 r.h.q, .bool false, .int .i64 (k : Int)]) j u hu) HO.out (by omega) HBd.out HBd.out.size ?_; intro g cap' w1 HG1 HB1 HGr; have HX1 : Hid (w1.heap[R]? = some (.cells #[.int .i64 r.h.q, .slice ha0 hn0 hc0, .slice (some ⟨pb, po, none⟩) r.ps.length rc, .slice ta tn tc, .slice na r.ns.length nc, .slice sa sn sc, .int .i64 r.c] 33 (0, 0))) := (by show _ = _; exact (HGr.out.block R (Nat.lt_of_lt_of_le (lt_of_block8 HX.out) HBr.out.size) (fun e => HAp.out e.symm)).trans ((HBr.out.block _ (lt_of_block8 HX.out)).trans HX.out)); have HS4 : Hid (w1.cell? ⟨R, 0, none⟩ = some (.int .i64 r.h.q) ∧ w1.cell? ⟨R, 2, none⟩ = some (.slice (some ⟨pb, po, none⟩) r.ps.length rc) ∧ w1.cell? ⟨pb, po + i * 2, none⟩ = some (.int .i64 p.q)) := ⟨by simp [World.cell?, HX1.out], by simp [World.cell?, HX1.out], HZ.out _ HB1.out⟩; clear HGr))
          go_wp2
          go_roundw
          case rel => exact ⟨i + 1, by omega, by go_num, by rw [HTk.out]; exact HG1, HX1, HB1⟩
          case measure => simp [intOf]; omega
        · obtain rfl : i = r.ps.length := by omega
          have hi1 : ¬ (r.ps.length : Int) < (r.ps.length : Int) := by omega
          rw [List.take_of_length_le (Nat.le_refl _)] at HG
          go_wp2
          have HLf : Hid ((edgesP (l.take k) ++ r.ps.map (edgOf false k r)).length + r.ns.length ≤ 1048576) := by have := HLe.out; rw [List.length_append, List.length_map]; omega
          go_loopw [3, 7] (fun v y wl => ∃ i : Nat, i ≤ r.ns.length ∧ y = .int .i64 i ∧ Hid (Grow elEdg 39 w.heap.size wl v ((edgesP (l.take k) ++ r.ps.map (edgOf false k r)) ++ (r.ns.take i).map (edgOf true k r))) ∧ Hid (wl.heap[R]? = some (.cells #[.int .i64 r.h.q, .slice ha0 hn0 hc0, .slice ra r.ps.length rc, .slice ta tn tc, .slice na r.ns.length nc, .slice sa sn sc, .int .i64 r.c] 33 (0, 0))) ∧ Hid (Below w.heap.size w wl)) (fun _ y _ => r.ns.length - (intOf y).toNat)
          case atStart => exact ⟨0, by omega, rfl, by rw [List.take_zero, List.map_nil, List.append_nil]; exact HG, HX, HB⟩
          case round =>
            clear HG HX HB
            obtain ⟨i, hil, rfl, HG, HX, HB⟩ := hrel
            have x0 : wr.cell? ⟨R, 0, none⟩ = some (.int .i64 r.h.q) := by simp [World.cell?, HX.out]
            have x1 : wr.cell? ⟨R, 4, none⟩ = some (.slice na r.ns.length nc) := by simp [World.cell?, HX.out]
            have HLn : Hid (((edgesP (l.take k) ++ r.ps.map (edgOf false k r)) ++ (r.ns.take i).map (edgOf true k r)).length = ((edgesP (l.take k) ++ r.ps.map (edgOf false k r))).length + i) := by show _ = _; rw [List.length_append, List.length_map, List.length_take]; omega
            obtain ⟨oa, oc, hsh, -, -⟩ := HG.out.shape
            rw [HLn.out] at hsh
            subst hsh
            by_cases hlt7 : i < r.ns.length
            · have hi1 : (i : Int) < (r.ns.length : Int) := by omega
              have hi10 : (0 : Int) ≤ (i : Int) := by omega
              obtain ⟨pb, po, hpe, -, -, prow⟩ := HPn.out.row (by omega)
              cases hpe
              obtain ⟨p, hp⟩ : ∃ p, r.ns[i]? = some p := ⟨_, List.getElem?_eq_getElem hlt7⟩
              have hpk := elPq_ok (HPn.out.ok (List.mem_of_getElem? hp))
              have HO : Hid (I64 p.q ∧ I64 r.h.q ∧ I64 (k : Int)) := ⟨hpk.1, HRq.out, by constructor <;> omega⟩
              have hz : ∀ V : World, Below w.heap.size w V → V.cell? ⟨pb, po + i * 2, none⟩ = some (.int .i64 p.q) := fun V hV => by
                have z0 := kept_cell hV (prow i p hp 0 _ rfl)
                simp only [elPq, Nat.add_zero] at z0
                exact z0
              have HZ := hide hz
              have z0 := hz _ HB.out
              have HTk : Hid ((edgesP (l.take k) ++ r.ps.map (edgOf false k r)) ++ (r.ns.take (i + 1)).map (edgOf true k r) = ((edgesP (l.take k) ++ r.ps.map (edgOf false k r)) ++ (r.ns.take i).map (edgOf true k r)) ++ [edgOf true k r p]) := by show _ = _; rw [take_snoc8 hp]; simp
              have hle : ((edgesP (l.take k) ++ r.ps.map (edgOf false k r))).length + i + 1 < 1073741824 := by have := HLe.out; have := HLf.out; omega
              have HAp : Hid ((Value.slice oa (((edgesP (l.take k) ++ r.ps.map (edgOf false k r))).length + i) oc).ownBlock ≠ some R) := grow_apartE HG.out HX.out (by decide)
              have HBd : Hid (Below w.heap.size w (wr.drew.alloc (.cells #[.int .i64 p.q, .int .i64 r.h.q, .bool true, .int .i64 (k : Int)] 39))) := HB.out.drew.alloc HB.out.size _
              have HBr : Hid (Below wr.heap.size wr (wr.drew.alloc (.cells #[.int .i64 p.q, .int .i64 r.h.q, .bool true, .int .i64 (k : Int)] 39))) := ((Below.refl _ wr).drew).alloc (Nat.le_refl _) _
              have HG2 := hide (HG.out.kept HBr.out)
              have HXd : Hid (∀ V : World, Below wr.heap.size wr V → V.cell? ⟨R, 0, none⟩ = some (.int .i64 r.h.q) ∧ V.cell? ⟨R, 4, none⟩ = some (.slice (some ⟨pb, po, none⟩) r.ns.length nc)) := fun V hV => ⟨kept_cell hV x0, kept_cell hV x1⟩
              obtain ⟨L, hL⟩ : ∃ L, ((edgesP (l.take k) ++ r.ps.map (edgOf false k r)) ++ (r.ns.take i).map (edgOf true k r)) = L := ⟨_, rfl⟩
              obtain ⟨N, hN⟩ : ∃ N, ((edgesP (l.take k) ++ r.ps.map (edgOf false k r))).length + i = N := ⟨_, rfl⟩
              rw [hL] at HG2 HTk HLn HG
              rw [hN] at HG2 HLn hle HAp HG ⊢
              clear prow hp hL hpk hN hz
              go_upto_region 13 with fail
              go_region_held3 (fun V => V.cell? ⟨R, 0, none⟩ = some (.int .i64 r.h.q) ∧ V.cell? ⟨R, 4, none⟩ = some (.slice (some ⟨pb, po, none⟩) r.ns.length nc) ∧ V.cell? ⟨pb, po + i * 2, none⟩ = some (.int .i64 p.q))
                (first
                  | exact ⟨x0, x1, z0⟩
                  | exact ⟨(HXd.out _ HBr.out).1, (HXd.out _ HBr.out).2, HZ.out _ HBd.out⟩
                  | exact HS4.out)
                (first
                  | (refine step_push (w0 := w) elEdg (by rfl) _ _ 23 (by rfl) w.heap.size 39 i0 _ 32 Try.underlying23 hi0 hz0 hz1 hz2 rfl (by decide) _ L N HLn.out (by rfl) HG2.out (edgOf true k r p) wr.heap.size 1 (by rfl) (fun j u hu => new_cells (w := wr.drew) (cs := #[.int .i64 p.q, .int .i64 r.h.q, .bool true, .int .i64 (k : Int)]) j u hu) HO.out (by omega) HBd.out HBd.out.size ?_; intro g cap' w1 HG1 HB1 HGr; have HX1 : Hid (w1.heap[R]? = some (.cells #[.int .i64 r.h.q, .slice ha0 hn0 hc0, .slice ra r.ps.length rc, .slice ta tn tc, .slice (some ⟨pb, po, none⟩) r.ns.length nc, .slice sa sn sc, .int .i64 r.c] 33 (0, 0))) := (by show _ = _; exact (HGr.out.block R (Nat.lt_of_lt_of_le (lt_of_block8 HX.out) HBr.out.size) (fun e => HAp.out e.symm)).trans ((HBr.out.block _ (lt_of_block8 HX.out)).trans HX.out)); have HS4 : Hid (w1.cell? ⟨R, 0, none⟩ = some (.int .i64 r.h.q) ∧ w1.cell? ⟨R, 4, none⟩ = some (.slice (some ⟨pb, po, none⟩) r.ns.length nc) ∧ w1.cell? ⟨pb, po + i * 2, none⟩ = some (.int .i64 p.q)) := ⟨by simp [World.cell?, HX1.out], by simp [World.cell?, HX1.out], HZ.out _ HB1.out⟩; clear HGr))
              go_wp2
              go_roundw
              case rel => exact ⟨i + 1, by omega, by go_num, by rw [HTk.out]; exact HG1, HX1, HB1⟩
              case measure => simp [intOf]; omega
            · obtain rfl : i = r.ns.length := by omega
              have hi1 : ¬ (r.ns.length : Int) < (r.ns.length : Int) := by omega
              rw [List.take_of_length_le (Nat.le_refl _)] at HG
              go_wp2
              go_roundw
              case rel => exact ⟨k + 1, by omega, by go_num, by rw [edgesP_snoc HXk.out, edgR, ← List.append_assoc]; exact HG, HB⟩
              case measure => simp [intOf]; omega
    · obtain rfl : k = l.length := by omega
      have hi : ¬ (l.length : Int) < (l.length : Int) := by omega
      rw [List.take_of_length_le (Nat.le_refl _)] at HG
      go_wp2
      go_ret
      exact ⟨_, rfl, HG.out, HB.out⟩
end Go.Proofs.Ytfnepibafldlhaa
