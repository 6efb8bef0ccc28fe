/- ParseJoins: two texts one behind the other are the clauses of both, or the second's fault at its place; facts likewise. -/
import Derived.Test.YtfbmddgjbmapiaaDoorProg
import Derived.Test.YtfbmddgjbmapiaaDoorPkD5
import Derived.Test.YtfbmddgjbmapiaaDoorPkB5
import Derived.Deep.RegionHeld3
import Derived.Deep.DeepCutAuto

namespace Go.Proofs.YtfbmddgjbmapiaaDoor
set_option linter.unusedSimpArgs false
set_option linter.unusedVariables false
open Go.RowKit

theorem wnt_box {α : Type} {E : El α} {e : TypeId} {base : Nat} {Y wl : World} {B : Option Nat} {v : Value} {ms : List α} (h : Wnt E e base Y wl B v ms) {H : Nat} (hB : ∀ k, B = some k → k < H) {k : Nat} (hk : H ≤ k) {x : Obj} (hx : Y.heap[k]? = some x) : wl.heap[k]? = some x := by
  rw [h.on.block k (Array.getElem?_eq_some_iff.1 hx).1 (fun e => by have := hB k e.symm; omega)]; exact hx
theorem wnt_lst {α β : Type} {E : El α} {E' : El β} {e : TypeId} {base : Nat} {Y wl : World} {B : Option Nat} {v u : Value} {ms : List α} {ls : List β} (h : Wnt E e base Y wl B v ms) {H : Nat} (hB : ∀ k, B = some k → k < H) (hl : Lst E' Y (fun k => H ≤ k) u ls) : Lst E' wl (fun k => H ≤ k) u ls :=
  hl.move fun b hb hF => ⟨hF, h.on.block b hb (fun e => by have := hB b e.symm; omega)⟩
theorem cls_sh {w : World} {G : Nat → Prop} {u : Value} {d : Nat} {P Q : List PCls} {cs rs : List Clx} (hq : cs.map Clx.pur = Q) (hr : rs.map Clx.pur = P ++ Q.map (shCl d)) (h : Lst elClx w G u rs) (hz : ∀ k ∈ Q, ∀ x ∈ k.b, x.k = 3 → x.a.ts = []) : ∀ x ∈ cs, I64 (x.h.off + d) ∧ (∀ t ∈ x.h.ts, I64 (t.off + d)) ∧ ∀ y ∈ x.ls, ShOk d y := fun x hx => by
  obtain ⟨i, hi⟩ := List.getElem?_of_mem hx
  have hlen : rs.length = P.length + cs.length := by have h1 := congrArg List.length hq; have h2 := congrArg List.length hr; simp only [List.length_map, List.length_append] at h1 h2; omega
  obtain ⟨y, hy⟩ : ∃ y, rs[P.length + i]? = some y := ⟨_, List.getElem?_eq_getElem (by have := (List.getElem?_eq_some_iff.1 hi).1; omega)⟩
  have e : Clx.pur y = shCl d (Clx.pur x) := by
    have e1 : (rs.map Clx.pur)[P.length + i]? = (P ++ (cs.map Clx.pur).map (shCl d))[P.length + i]? := by rw [hr, hq]
    rw [List.getElem?_append_right (by omega), Nat.add_sub_cancel_left, List.getElem?_map, hy, List.getElem?_map, List.getElem?_map, hi] at e1
    simpa using e1
  have hok := h.ok (List.mem_of_getElem? hy)
  have hzx := hz (Clx.pur x) (by rw [← hq]; exact List.mem_map_of_mem hx)
  obtain ⟨⟨h2, h3, h4⟩, h5⟩ := hok
  simp only [Clx.pur, Atx.pur, shCl, shAt, PCls.mk.injEq, PAtom.mk.injEq] at e
  obtain ⟨⟨e1, e2, e3⟩, e4⟩ := e
  refine ⟨by rw [e3] at h3; exact h3, fun t ht => ?_, sh_by (b := x.ls.map Lix.pur) rfl e4 h5 hzx⟩
  have := h4.ok (x := shTrm d t) (by rw [e2]; exact List.mem_map_of_mem ht)
  exact this.2
theorem atx_sh {w : World} {G : Nat → Prop} {u : Value} {d : Nat} {P Q : List PAtom} {cs rs : List Atx} (hq : cs.map Atx.pur = Q) (hr : rs.map Atx.pur = P ++ Q.map (shAt d)) (h : Lst elAtx w G u rs) : ∀ x ∈ cs, I64 (x.off + d) ∧ (∀ t ∈ x.ts, I64 (t.off + d)) := fun x hx => by
  obtain ⟨i, hi⟩ := List.getElem?_of_mem hx
  have hlen : rs.length = P.length + cs.length := by have h1 := congrArg List.length hq; have h2 := congrArg List.length hr; simp only [List.length_map, List.length_append] at h1 h2; omega
  obtain ⟨y, hy⟩ : ∃ y, rs[P.length + i]? = some y := ⟨_, List.getElem?_eq_getElem (by have := (List.getElem?_eq_some_iff.1 hi).1; omega)⟩
  have e : Atx.pur y = shAt d (Atx.pur x) := by
    have e1 : (rs.map Atx.pur)[P.length + i]? = (P ++ (cs.map Atx.pur).map (shAt d))[P.length + i]? := by rw [hr, hq]
    rw [List.getElem?_append_right (by omega), Nat.add_sub_cancel_left, List.getElem?_map, hy, List.getElem?_map, List.getElem?_map, hi] at e1
    simpa using e1
  obtain ⟨h2, h3, h4⟩ := h.ok (List.mem_of_getElem? hy)
  simp only [Atx.pur, shAt, PAtom.mk.injEq] at e
  obtain ⟨e1, e2, e3⟩ := e
  refine ⟨by rw [e3] at h3; exact h3, fun t ht => ?_⟩
  have := h4.ok (x := shTrm d t) (by rw [e2]; exact List.mem_map_of_mem ht)
  exact this.2
theorem lst_row {α : Type} {E : El α} {Z : World} {H qn : Nat} {qa : Option Addr} {qc : Nat} {l : List α} (h : Lst E Z (fun k => H ≤ k) (.slice qa qn qc) l) (hp : 0 < l.length) : ∃ b off, qa = some ⟨b, off, none⟩ ∧ H ≤ b ∧ ∀ i x, l[i]? = some x → ∀ j u, (E.cells x)[j]? = some u → Z.cell? ⟨b, off + i * E.size + j, none⟩ = some u := by
  obtain ⟨ao, cap, e, h1, h2, h3, h4, h5⟩ := h
  obtain ⟨b, off, e2, hb, hF, hc⟩ := h5 hp
  injection e with e1 e3 e4
  exact ⟨b, off, e1.trans e2, hF, hc⟩
theorem wnt_cell {α : Type} {E : El α} {e : TypeId} {base : Nat} {Y wl : World} {B : Option Nat} {v : Value} {ms : List α} (h : Wnt E e base Y wl B v ms) {H : Nat} (hB : ∀ k, B = some k → k < H) {k i : Nat} (hk : H ≤ k) {x : Value} (hx : Y.cell? ⟨k, i, none⟩ = some x) : wl.cell? ⟨k, i, none⟩ = some x := by
  have hlt : k < Y.heap.size := lt_of_cell hx
  rw [World.cell?_of_block (w := Y) (h.on.block k hlt (fun e => by have := hB k e.symm; omega))]; exact hx
theorem cls_here {V : World} {c : Obj} {U base : Nat} {v : Value} {x : Clx} (ha : elAtx.ok V (fun k => U ≤ k) x.h) (hb : Lst elLix V (fun k => U ≤ k) x.v x.ls) (hB : base ≤ U) (hv : ∀ k, v.ownBlock = some k → k < U) : elClx.ok (V.alloc c) (fun k => base ≤ k ∧ v.ownBlock ≠ some k) x :=
  ⟨elAtx.move ha fun k hk hF => ⟨⟨Nat.le_trans hB hF, fun e => by have := hv k e; omega⟩, (belowA V c).block k hk⟩, hb.move fun k hk hF => ⟨⟨Nat.le_trans hB hF, fun e => by have := hv k e; omega⟩, (belowA V c).block k hk⟩⟩
theorem atx_here {V : World} {c : Obj} {U base : Nat} {v : Value} {x : Atx} (ha : elAtx.ok V (fun k => U ≤ k) x) (hB : base ≤ U) (hv : ∀ k, v.ownBlock = some k → k < U) : elAtx.ok (V.alloc c) (fun k => base ≤ k ∧ v.ownBlock ≠ some k) x :=
  elAtx.move ha fun k hk hF => ⟨⟨Nat.le_trans hB hF, fun e => by have := hv k e; omega⟩, (belowA V c).block k hk⟩
theorem snoc_sh {α β : Type} {f : α → β} {g : β → β} {P : List β} {l : List α} {ms : List α} {j : Nat} {x y : α} (h : ms.map f = P ++ ((l.take j).map f).map g) (hx : l[j]? = some x) (hy : f y = g (f x)) : (ms ++ [y]).map f = P ++ ((l.take (j + 1)).map f).map g := by
  rw [List.map_append, h, List.take_add_one, hx, List.map_append, List.map_append, List.append_assoc]
  simp [hy]

set_option maxRecDepth 100000 in
set_option maxHeartbeats 8000000 in
theorem parseJoins_short (a b : ByteArray) (w : World) (hl : LexLaid w) (hs : a.size + 1 + b.size ≤ 65536) :
    Calls Tryd.prog 3 #[.string a, .string b] w fun e w' => e = .returned (.bool true) ∧ Below w.heap.size w w' := by
  have HPa := hide (parseProgram_any a w hl (by omega))
  have HPb := hide (fun (W : World) (hb : Below w.heap.size w W) => parseProgram_any b W (hl.kept hb) (by omega))
  have HPj := hide (fun (W : World) (hb : Below w.heap.size w W) => parseProgram_any (a ++ nlB ++ b) W (hl.kept hb) (by rw [nl_size]; omega))
  have HFa := hide (fun (W : World) (hb : Below w.heap.size w W) => parseFacts_any a W (hl.kept hb) (by omega))
  have HFb := hide (fun (W : World) (hb : Below w.heap.size w W) => parseFacts_any b W (hl.kept hb) (by omega))
  have HFj := hide (fun (W : World) (hb : Below w.heap.size w W) => parseFacts_any (a ++ nlB ++ b) W (hl.kept hb) (by rw [nl_size]; omega))
  have HTk := hide (fun (W : World) (hb : Below w.heap.size w W) => taken_any W (hl.kept hb))
  have hcat1 : ∀ W : World, (Op.stringOp .add a ⟨#[10]⟩).run Tryd.prog W = .ok (.string (a ++ nlB)) W := small_cat a nlB (by show a.size + 1 ≤ _; omega)
  have hcat2 : ∀ W : World, (Op.stringOp .add (a ++ nlB) b).run Tryd.prog W = .ok (.string (a ++ nlB ++ b)) W := small_cat (a ++ nlB) b (by rw [ByteArray.size_append]; show a.size + 1 + b.size ≤ _; omega)
  have hlong : decide ((65536 : Int) < (a.size : Int) + 1 + (b.size : Int)) = false := decide_eq_false (by omega)
  have hz := fq_zero
  have hzn := fn_zero
  have HS := hide hs
  have hi1 : (a.size : Int) + 1 ≤ 65536 := by omega
  have hi2 : (b.size : Int) ≤ 65536 := by omega
  clear hl hs
  go_enter Tryd.func3, Tryd.ntmps3
  go_upto_region 6 with (first
    | (go_at_call 5; refine HPa.out.mono ?_; intro e w1 hq; obtain ⟨pa, pn, pc, x1, o1, rfl, HU1, hb1⟩ := readProg_uni hq; clear hq; have HB1 := hide (belowt2 hb1 (below2a w1 (.cells #[.slice pa pn pc] 24) (.cells #[.int .i64 x1, .int .i64 0, .int .i64 o1] 27))); have HS1 := hide hb1.size; clear hb1)
    | (go_at_call 5; refine (HPb.out _ HB1.out).mono ?_; intro e w2 hq; obtain ⟨qa, qn, qc, x2, o2, rfl, HU2, hb2⟩ := readProg_uni hq; clear hq; have HB2 := hide hb2; clear hb2))
  obtain ⟨W1, hW1⟩ : ∃ W1, W1 = (w1.alloc (.cells #[.slice pa pn pc] 24)).alloc (.cells #[.int .i64 x1, .int .i64 0, .int .i64 o1] 27) := ⟨_, rfl⟩
  rw [← hW1] at HU2 HB2 HB1
  have hz1 : W1.heap.size = w1.heap.size + 2 := by rw [hW1]; simp
  have hp1 : W1.heap[w1.heap.size]? = some (.cells #[.slice pa pn pc] 24 (0, 0)) := by rw [hW1]; exact nx_first w1 _ _
  have hf1 : W1.heap[w1.heap.size + 1]? = some (.cells #[.int .i64 x1, .int .i64 0, .int .i64 o1] 27 (0, 0)) := by rw [hW1]; exact nx_second w1 _ _
  have HU1' : Hid (ProgU w.heap.size W1 a pa pn pc x1 o1) := HU1.out.above fun k _ hk => by rw [hW1]; exact (below2a w1 _ _).block k hk
  have HOw : Hid (∀ k, (Value.slice pa pn pc).ownBlock = some k → k < w1.heap.size) := fun k hk => by
    rcases HU1.out with ⟨P, r, cs, h1, h2, h3, h4, h5, h6, h7⟩ | ⟨-, -, rfl, -⟩
    · exact own_lt6 h7.1 k hk
    · cases hk
  have hpl : (pn : Int) ≤ 512 := by
    rcases HU1.out with ⟨P, r, cs, h1, h2, h3, h4, h5, h6, h7⟩ | ⟨-, -, -, h, -⟩ <;> omega
  clear hW1 HU1
  obtain ⟨Y, hY⟩ : ∃ Y, Y = (w2.alloc (.cells #[.slice qa qn qc] 24)).alloc (.cells #[.int .i64 x2, .int .i64 0, .int .i64 o2] 27) := ⟨_, rfl⟩
  have hB2Y : Below W1.heap.size W1 Y := by rw [hY]; exact belowt2 HB2.out (below2a _ _ _)
  have HBY : Hid (Below w.heap.size w Y) := belowt2 HB1.out hB2Y
  have hz2 : Y.heap.size = w2.heap.size + 2 := by rw [hY]; simp
  have hz3 : W1.heap.size ≤ w2.heap.size := HB2.out.size
  have HP1 := hide (bx_kept hp1 hB2Y)
  have HF1 := hide (bx_kept hf1 hB2Y)
  have HP2 : Hid (Y.heap[w2.heap.size]? = some (.cells #[.slice qa qn qc] 24 (0, 0))) := by rw [hY]; exact nx_first w2 _ _
  have HF2 : Hid (Y.heap[w2.heap.size + 1]? = some (.cells #[.int .i64 x2, .int .i64 0, .int .i64 o2] 27 (0, 0))) := by rw [hY]; exact nx_second w2 _ _
  have HUa : Hid (ProgU w.heap.size Y a pa pn pc x1 o1) := HU1'.out.above fun k _ hk => hB2Y.block k hk
  have HUb : Hid (ProgU W1.heap.size Y b qa qn qc x2 o2) := HU2.out.above fun k _ hk => by rw [hY]; exact (below2a w2 _ _).block k hk
  rw [← hY]
  clear hY hB2Y hp1 hf1 HB2 HU2 HU1' HPa HPb
  obtain ⟨c0, c1, c2⟩ := fq_cells HF1.out
  have e0 : Y.cell? ⟨w1.heap.size, 0, none⟩ = some (.slice pa pn pc) := by simp [World.cell?, HP1.out]
  have hox : x1 = 0 → o1 = 0 := fun hx => by
    rcases HUa.out with ⟨P, r, cs, h1, h2, h3, -⟩ | ⟨-, h, -⟩
    · exact h3
    · exact absurd hx h
  obtain ⟨D, hD⟩ : ∃ D : Bool, D = (decide (x1 = 0) && decide (pn + b.size ≤ 512)) := ⟨_, rfl⟩
  go_cut [51] (fun t wx => t = .bool D ∧ Hid (wx = Y))
  case first =>
    by_cases hx : x1 = 0
    · have ho := hox hx
      rw [hx] at c0
      rw [ho] at c2
      by_cases hn : pn + b.size ≤ 512
      · have hn' : decide ((pn : Int) + (b.size : Int) ≤ 512) = true := decide_eq_true (by omega)
        go_wp2
        go_meet
        exact ⟨by rw [hD]; simp [hx, hn], rfl⟩
      · have hn' : decide ((pn : Int) + (b.size : Int) ≤ 512) = false := decide_eq_false (by omega)
        go_wp2
        go_meet
        exact ⟨by rw [hD]; simp [hn], rfl⟩
    · have hq1 := fq_bad x1 o1 hx
      go_wp2
      go_meet
      exact ⟨by rw [hD]; simp [hx], rfl⟩
  case rest =>
    obtain ⟨rfl, hwc⟩ := hcut
    rw [hwc.out]
    clear hwc
    go_upto_if 51 with fail
    go_cut [5] (fun t wx => t = .int .i64 ((a.size : Int) + 1) ∧ Hid (Below w.heap.size w wx) ∧ Hid (∃ x o, wx.heap[w1.heap.size + 1]? = some (.cells #[.int .i64 x, .int .i64 0, .int .i64 o] 27 (0, 0))) ∧ Hid (∃ x o, wx.heap[w2.heap.size + 1]? = some (.cells #[.int .i64 x, .int .i64 0, .int .i64 o] 27 (0, 0))))
    case first =>
      cases D with
      | false =>
        go_wp2
        go_meet
        exact ⟨rfl, HBY, ⟨_, _, HF1.out⟩, ⟨_, _, HF2.out⟩⟩
      | true =>
        simp only [Bool.true_eq, Bool.and_eq_true, decide_eq_true_eq] at hD
        obtain ⟨hx1, hn⟩ := hD
        have HA : Hid (∃ P r cs, progP (scanX a).2.1 ((scanX a).2.2 : Int) (scanX a).1 = .ok P r ∧ cs.map Clx.pur = P ∧ cs.length = pn ∧ Grow elClx 35 w.heap.size Y (.slice pa pn pc) cs) := by
          rcases HUa.out with ⟨P, r, cs, h1, h2, h3, h4, h5, h6, h7⟩ | ⟨-, h, -⟩
          · exact ⟨P, r, cs, h1, h4, h5, h7⟩
          · exact absurd hx1 h
        obtain ⟨P, r, cs, hA, hpu, hcl, hgr⟩ := HA.out
        have hJ := join_prog HS.out hA (by rw [← hpu, List.length_map]; omega)
        have HGr := hide hgr
        have HPu := hide hpu
        have HCl := hide hcl
        clear hgr hpu hcl HA hA HUa c0 c1 c2 hox
        rcases HUb.out with ⟨Q, r2, cs2, hB, hx2, ho2, hpu2, hcl2, hle2, hgr2⟩ | ⟨hB, hne2, hqa, hqn, hqc⟩
        · rw [hB] at hJ
          have hJ := relX_ok hJ
          have HJ := hide hJ
          have HQz := hide (prog_zero _ _ _ _ _ (by simp) hB)
          have HPu2 := hide hpu2
          have HQ2 := hide (hgr2.new (by omega))
          subst hx2 ho2
          clear hJ hB HUb hpu2 hgr2
          go_upto_region 8 with (first
            | (go_at_call 5; refine (HPj.out _ HBY.out).mono ?_; intro e w3 hq; obtain ⟨rv, rs, rfl, hpr, hlr, hgrr, hb3⟩ := readProg_own hq HJ.out; clear hq; obtain ⟨ra, rc, rfl, -⟩ := hgrr.shape; have HB3 := hide hb3; have HPr := hide hpr; have HLr := hide (hgrr.new (by omega)); unfold faultV; clear hb3 hpr hgrr))
          obtain ⟨Z, hZ⟩ : ∃ Z, Z = (w3.alloc (.cells #[.slice ra rs.length rc] 24)).alloc (.cells #[.int .i64 0, .int .i64 0, .int .i64 0] 27) := ⟨_, rfl⟩
          have hBZ : Below Y.heap.size Y Z := by rw [hZ]; exact belowt2 HB3.out (below2a _ _ _)
          have hzz : Y.heap.size ≤ w3.heap.size := HB3.out.size
          have hp3 : Z.heap[w3.heap.size]? = some (.cells #[.slice ra rs.length rc] 24 (0, 0)) := by rw [hZ]; exact nx_first w3 _ _
          have hf3 : Z.heap[w3.heap.size + 1]? = some (.cells #[.int .i64 0, .int .i64 0, .int .i64 0] 27 (0, 0)) := by rw [hZ]; exact nx_second w3 _ _
          have HLr2 : Hid (Lst elClx Z (fun k => w1.heap.size ≤ k) (.slice ra rs.length rc) rs) := (HLr.out.move fun k hk hF => ⟨by omega, by rw [hZ]; exact (below2a w3 _ _).block k hk⟩)
          have HLq : Hid (Lst elClx Z (fun k => w1.heap.size ≤ k) (.slice qa qn qc) cs2) := (HQ2.out.move fun k hk hF => ⟨by omega, hBZ.block k hk⟩)
          have HSh := hide (cls_sh HPu2.out HPr.out HLr2.out HQz.out)
          have HWn : Hid (Wnt elClx 35 w.heap.size Z Z ((Value.slice pa pn pc).ownBlock) (.slice pa pn pc) cs) := ⟨HGr.out.kept hBZ, Only.refl _ _, .inl rfl⟩
          have HBZ : Hid (Below w.heap.size w Z) := belowt2 HBY.out hBZ
          have hs1 : w.heap.size ≤ w1.heap.size := HS1.out
          have HZ1 := hide (bx_kept HP1.out hBZ)
          have HZ2 := hide (bx_kept HF1.out hBZ)
          have HZ3 := hide (bx_kept HP2.out hBZ)
          have HZ4 := hide (bx_kept HF2.out hBZ)
          have HZ5 := hide hp3
          have HZ6 := hide hf3
          obtain ⟨g0, g1, g2⟩ := fq_cells HZ4.out
          have e1 : Z.cell? ⟨w1.heap.size, 0, none⟩ = some (.slice pa pn pc) := by simp [World.cell?, HZ1.out]
          have e2 : Z.cell? ⟨w2.heap.size, 0, none⟩ = some (.slice qa qn qc) := by simp [World.cell?, HZ3.out]
          rw [← hZ]
          clear hZ hp3 hf3 HB3 HQ2 HLr HGr e0
          go_wp2
          go_loopw [12, 82] (fun v i wl => ∃ (j : Nat) (ms : List Clx), j ≤ qn ∧ i = .int .i64 j ∧ Hid (ms.length = pn + j) ∧ Hid (ms.map Clx.pur = P ++ ((cs2.take j).map Clx.pur).map (shCl (a.size + 1))) ∧ Hid (Wnt elClx 35 w.heap.size Z wl ((Value.slice pa pn pc).ownBlock) v ms)) (fun _ i _ => qn - (intOf i).toNat)
          case atStart => exact ⟨0, cs, by omega, rfl, by show _ = _; rw [HCl.out]; rfl, by show _ = _; rw [HPu.out]; simp, HWn⟩
          case round =>
            obtain ⟨j, ms, hj, rfl, HLn, HMs, HW⟩ := hrel
            by_cases hlt : j < qn
            · have hi : (j : Int) < (qn : Int) := by omega
              have hi0 : (0 : Int) ≤ (j : Int) := by omega
              obtain ⟨va, vc, rfl, -⟩ := HW.out.gr.shape
              obtain ⟨x, hx⟩ : ∃ x, cs2[j]? = some x := ⟨_, List.getElem?_eq_getElem (by omega)⟩
              obtain ⟨b3, o3, rfl, hb3, hr3⟩ := lst_row HLq.out (by omega)
              have y0 := wnt_cell HW.out HOw.out hb3 (hr3 j _ hx 0 _ rfl)
              have y1 := wnt_cell HW.out HOw.out hb3 (hr3 j _ hx 1 _ rfl)
              have y2 := wnt_cell HW.out HOw.out hb3 (hr3 j _ hx 2 _ rfl)
              have y3 := wnt_cell HW.out HOw.out hb3 (hr3 j _ hx 3 _ rfl)
              obtain ⟨s1, s2, s3⟩ := HSh.out x (List.mem_of_getElem? hx)
              have hok := (wnt_lst HW.out HOw.out HLq.out).ok (List.mem_of_getElem? hx)
              have HX := hide hx
              obtain ⟨⟨ap, av, aoff, ats⟩, bv, als⟩ := x
              obtain ⟨xa, xc, rfl, -⟩ := (show Lst elTrm wr (fun k => w1.heap.size ≤ k) av ats from hok.1.2.2).shape
              obtain ⟨ya, yc, rfl, -⟩ := (show Lst elLix wr (fun k => w1.heap.size ≤ k) bv als from hok.2).shape
              simp only [elClx, Nat.add_zero] at y0 y1 y2 y3
              simp only at s1 s2 s3
              go_upto_region 16 with fail
              obtain ⟨U, hU⟩ : ∃ U, U = wr.alloc (.cells #[.string ap, .slice xa ats.length xc, .int .i64 aoff, .slice ya als.length yc] 35) := ⟨_, rfl⟩
              have HBU : Hid (Below wr.heap.size wr U) := by rw [hU]; exact belowA _ _
              have hUb : U.heap[wr.heap.size]? = some (.cells #[.string ap, .slice xa ats.length xc, .int .i64 aoff, .slice ya als.length yc] 35 (0, 0)) := by rw [hU]; exact heap_alloc_new wr _
              have HSc : Hid (∀ V : World, V.heap[wr.heap.size]? = U.heap[wr.heap.size]? → V.cell? ⟨wr.heap.size, 0, none⟩ = some (.string ap) ∧ V.cell? ⟨wr.heap.size, 1, none⟩ = some (.slice xa ats.length xc) ∧ V.cell? ⟨wr.heap.size, 2, none⟩ = some (.int .i64 aoff) ∧ V.cell? ⟨wr.heap.size, 3, none⟩ = some (.slice ya als.length yc)) := fun V hV => by
                rw [hUb] at hV
                refine ⟨?_, ?_, ?_, ?_⟩ <;> simp [World.cell?, hV]
              have hUs : wr.heap.size < U.heap.size := by rw [hU]; simp
              have HSb : Hid (∀ V : World, Below U.heap.size U V → V.cell? ⟨wr.heap.size, 0, none⟩ = some (.string ap) ∧ V.cell? ⟨wr.heap.size, 1, none⟩ = some (.slice xa ats.length xc) ∧ V.cell? ⟨wr.heap.size, 2, none⟩ = some (.int .i64 aoff) ∧ V.cell? ⟨wr.heap.size, 3, none⟩ = some (.slice ya als.length yc)) := fun V hV => HSc.out V (hV.block _ hUs)
              have hdd : ((a.size + 1 : Nat) : Int) = (a.size : Int) + 1 := by omega
              have HSa : Hid (∀ V : World, Below U.heap.size U V → Calls Tryd.prog 6 #[.agg #[.string ap, .slice xa ats.length xc, .int .i64 aoff], .int .i64 ((a.size : Int) + 1)] V fun e w' => ∃ bp ba bc bo bts, e = .returned (.agg #[.string bp, .slice ba (bts : List Trm).length bc, .int .i64 bo]) ∧ Hid ((⟨bp, .slice ba bts.length bc, bo, bts⟩ : Atx).pur = shAt (a.size + 1) (⟨ap, .slice xa ats.length xc, aoff, ats⟩ : Atx).pur) ∧ Hid (elAtx.ok w' (fun k => U.heap.size ≤ k) ⟨bp, .slice ba bts.length bc, bo, bts⟩) ∧ Hid (Below V.heap.size V w')) := fun V hV => by
                have := shiftAtom_by (a.size + 1) (by have := HS.out; omega) (w := V) (F := fun _ => True) ⟨ap, .slice xa ats.length xc, aoff, ats⟩ (elAtx.kept (elAtx.kept (elAtx.all hok.1) HBU.out) hV) s1 s2
                rw [hdd] at this
                refine this.mono ?_
                rintro e w' ⟨⟨bp, bv, bo, bts⟩, rfl, h1, h2, h3⟩
                obtain ⟨ba, bc, rfl, -⟩ := (show Lst elTrm w' _ bv bts from h2.2.2).shape
                exact ⟨bp, ba, bc, bo, bts, rfl, h1, elAtx.move h2 fun k _ hF => ⟨Nat.le_trans hV.size hF, rfl⟩, h3⟩
              have HSy : Hid (∀ V : World, Below U.heap.size U V → Calls Tryd.prog 7 #[.slice ya als.length yc, .int .i64 ((a.size : Int) + 1)] V fun e w' => ∃ ca cc bls, e = .returned (.slice ca (bls : List Lix).length cc) ∧ Hid (bls.map Lix.pur = (als.map Lix.pur).map (shLi (a.size + 1))) ∧ Hid (Lst elLix w' (fun k => U.heap.size ≤ k) (.slice ca bls.length cc) bls) ∧ Hid (Below V.heap.size V w')) := fun V hV => by
                have := shiftBody_by (a.size + 1) (by have := HS.out; omega) (((show Lst elLix wr (fun k => w1.heap.size ≤ k) (.slice ya als.length yc) als from hok.2).all.kept HBU.out).kept hV) s3
                rw [hdd] at this
                refine this.mono ?_
                rintro e w' ⟨bv, rfl, bls, h1, h2, h3⟩
                obtain ⟨ca, cc, rfl, -⟩ := h2.shape
                exact ⟨ca, cc, bls, rfl, h1, h2.move fun k _ hF => ⟨Nat.le_trans hV.size hF, rfl⟩, h3⟩
              have HPt : Hid (∀ bp ba bc bo bts ca cc bls, (⟨bp, .slice ba (bts : List Trm).length bc, bo, bts⟩ : Atx).pur = shAt (a.size + 1) (⟨ap, .slice xa ats.length xc, aoff, ats⟩ : Atx).pur → (bls : List Lix).map Lix.pur = (als.map Lix.pur).map (shLi (a.size + 1)) → (ms ++ [(⟨⟨bp, .slice ba bts.length bc, bo, bts⟩, .slice ca bls.length cc, bls⟩ : Clx)]).map Clx.pur = P ++ ((cs2.take (j + 1)).map Clx.pur).map (shCl (a.size + 1))) := fun bp ba bc bo bts ca cc bls h1 h2 => snoc_sh HMs.out HX.out (by unfold Clx.pur shCl; simp only; rw [h1, h2])
              have HOl : Hid (∀ k, (Value.slice va ms.length vc).ownBlock = some k → k < U.heap.size) := fun k hk => by have := own_lt6 HW.out.gr.1 k hk; omega
              have HwU : Hid (w.heap.size ≤ U.heap.size) := by have := HW.out.on.size; have := HBZ.out.size; show _ ≤ _; omega
              have hml : ms.length + 1 < 1073741824 := by have := HLn.out; omega
              rw [← hU]
              clear hU hUb y0 y1 y2 y3 hok s1 s2 s3 hr3 hdd hx
              obtain ⟨i0, hi0', hz0, hz1', hz2'⟩ := info_parts Tryd.infoCls
              go_region_held3 (fun V => V.cell? ⟨wr.heap.size, 0, none⟩ = some (.string ap) ∧ V.cell? ⟨wr.heap.size, 1, none⟩ = some (.slice xa ats.length xc) ∧ V.cell? ⟨wr.heap.size, 2, none⟩ = some (.int .i64 aoff) ∧ V.cell? ⟨wr.heap.size, 3, none⟩ = some (.slice ya als.length yc))
                (first
                  | (with_reducible exact HS5.out)
                  | (with_reducible exact HSb.out _ HBC.out)
                  | (with_reducible exact HSb.out _ HBB.out)
                  | (with_reducible exact HSb.out _ HBA.out)
                  | (with_reducible exact HSb.out _ (Below.refl _ _).drew)
                  | (with_reducible exact HSb.out _ (Below.refl _ _)))
                (first
                  | (go_at_call 6; (with_reducible refine (HSa.out _ HBB.out).mono ?_); rintro e VA ⟨bp, ba, bc, bo, bts, rfl, HP9, HO9, HZ9⟩; have HBA : Hid (Below U.heap.size U VA) := Below.trans HBB.out (HZ9.out.mono (Below.size HBB.out)); have HBC : Hid (Below U.heap.size U (VA.alloc (.cells #[.string bp, .slice ba bts.length bc, .int .i64 bo, .slice ca bls.length cc] 35))) := belowt2 HBA.out (belowA _ _); have HWc : Hid (Wnt elClx 35 w.heap.size Z (VA.alloc (.cells #[.string bp, .slice ba bts.length bc, .int .i64 bo, .slice ca bls.length cc] 35)) ((Value.slice pa pn pc).ownBlock) (.slice va ms.length vc) ms) := HW.out.kept (belowt2 HBU.out HBC.out); have HOk : Hid (elClx.ok (VA.alloc (.cells #[.string bp, .slice ba bts.length bc, .int .i64 bo, .slice ca bls.length cc] 35)) (fun k => w.heap.size ≤ k ∧ (Value.slice va ms.length vc).ownBlock ≠ some k) ⟨⟨bp, .slice ba bts.length bc, bo, bts⟩, .slice ca bls.length cc, bls⟩) := cls_here HO9.out (HO8.out.move fun k hk hF => ⟨hF, HZ9.out.block k hk⟩) HwU.out HOl.out; have HSz : Hid (w.heap.size ≤ (VA.alloc (.cells #[.string bp, .slice ba bts.length bc, .int .i64 bo, .slice ca bls.length cc] 35)).heap.size) := Nat.le_trans HwU.out HBC.out.size; skip)
                  | (go_at_call 6; (with_reducible refine (HSa.out _ (Below.refl _ _).drew).mono ?_); rintro e VA ⟨bp, ba, bc, bo, bts, rfl, HP9, HO9, HZ9⟩; have HBA : Hid (Below U.heap.size U VA) := Below.trans (Below.refl U.heap.size U).drew (HZ9.out.mono (Below.size (Below.refl U.heap.size U).drew)); skip)
                  | (go_at_call 7; (with_reducible refine (HSy.out _ HBA.out).mono ?_); rintro e VB ⟨ca, cc, bls, rfl, HP8, HO8, HZ8⟩; have HBB : Hid (Below U.heap.size U VB) := Below.trans HBA.out (HZ8.out.mono (Below.size HBA.out)); have HBC : Hid (Below U.heap.size U (VB.alloc (.cells #[.string bp, .slice ba bts.length bc, .int .i64 bo, .slice ca bls.length cc] 35))) := belowt2 HBB.out (belowA _ _); have HWc : Hid (Wnt elClx 35 w.heap.size Z (VB.alloc (.cells #[.string bp, .slice ba bts.length bc, .int .i64 bo, .slice ca bls.length cc] 35)) ((Value.slice pa pn pc).ownBlock) (.slice va ms.length vc) ms) := HW.out.kept (belowt2 HBU.out HBC.out); have HOk : Hid (elClx.ok (VB.alloc (.cells #[.string bp, .slice ba bts.length bc, .int .i64 bo, .slice ca bls.length cc] 35)) (fun k => w.heap.size ≤ k ∧ (Value.slice va ms.length vc).ownBlock ≠ some k) ⟨⟨bp, .slice ba bts.length bc, bo, bts⟩, .slice ca bls.length cc, bls⟩) := cls_here (elAtx.move HO9.out fun k hk hF => ⟨hF, HZ8.out.block k hk⟩) HO8.out HwU.out HOl.out; have HSz : Hid (w.heap.size ≤ (VB.alloc (.cells #[.string bp, .slice ba bts.length bc, .int .i64 bo, .slice ca bls.length cc] 35)).heap.size) := Nat.le_trans HwU.out HBC.out.size; skip)
                  | (go_at_call 7; (with_reducible refine (HSy.out _ (Below.refl _ _).drew).mono ?_); rintro e VB ⟨ca, cc, bls, rfl, HP8, HO8, HZ8⟩; have HBB : Hid (Below U.heap.size U VB) := Below.trans (Below.refl U.heap.size U).drew (HZ8.out.mono (Below.size (Below.refl U.heap.size U).drew)); skip)
                  | (refine step_pushA (w0 := (VA.alloc (.cells #[.string bp, .slice ba bts.length bc, .int .i64 bo, .slice ca bls.length cc] 35))) elClx (by rfl) _ _ 22 (by rfl) w.heap.size 35 i0 _ 72 Tryd.underlying22 hi0' hz0 hz1' hz2' rfl (by decide) (.slice va ms.length vc) ms ms.length rfl (by rfl) HWc.out.gr ⟨⟨bp, .slice ba bts.length bc, bo, bts⟩, .slice ca bls.length cc, bls⟩ VA.heap.size 1 (by rfl) (fun j u hu => new_cells (cs := #[.string bp, .slice ba bts.length bc, .int .i64 bo, .slice ca bls.length cc]) j u hu) HOk.out hml (Below.refl _ _) HSz.out ?_; intro g7 c7 w5 HG7 HB7 HGr7 Hat7; have HW5 := hide (HWc.out.push HG7.out HGr7.out Hat7.out); have HS5 := hide (HSc.out w5 ((HGr7.out.block _ (Nat.lt_of_lt_of_le hUs HBC.out.size) (fun e => Nat.lt_irrefl _ (Nat.lt_of_lt_of_le (own_lt6 HW.out.gr.1 _ e.symm) (Nat.le_refl _)))).trans (HBC.out.block _ hUs))); clear HB7)
                  | (refine step_pushA (w0 := (VB.alloc (.cells #[.string bp, .slice ba bts.length bc, .int .i64 bo, .slice ca bls.length cc] 35))) elClx (by rfl) _ _ 22 (by rfl) w.heap.size 35 i0 _ 72 Tryd.underlying22 hi0' hz0 hz1' hz2' rfl (by decide) (.slice va ms.length vc) ms ms.length rfl (by rfl) HWc.out.gr ⟨⟨bp, .slice ba bts.length bc, bo, bts⟩, .slice ca bls.length cc, bls⟩ VB.heap.size 1 (by rfl) (fun j u hu => new_cells (cs := #[.string bp, .slice ba bts.length bc, .int .i64 bo, .slice ca bls.length cc]) j u hu) HOk.out hml (Below.refl _ _) HSz.out ?_; intro g7 c7 w5 HG7 HB7 HGr7 Hat7; have HW5 := hide (HWc.out.push HG7.out HGr7.out Hat7.out); have HS5 := hide (HSc.out w5 ((HGr7.out.block _ (Nat.lt_of_lt_of_le hUs HBC.out.size) (fun e => Nat.lt_irrefl _ (Nat.lt_of_lt_of_le (own_lt6 HW.out.gr.1 _ e.symm) (Nat.le_refl _)))).trans (HBC.out.block _ hUs))); clear HB7))
              all_goals
                go_wp2
                go_roundw
                case rel => exact ⟨j + 1, _, by omega, by go_num, by show _ = _; rw [List.length_append, HLn.out]; rfl, HPt.out _ _ _ _ _ _ _ _ HP9.out HP8.out, HW5⟩
                case measure => simp [intOf]; omega
            · obtain rfl : j = qn := by omega
              have hi : ¬ (j : Int) < (j : Int) := by omega
              obtain ⟨va, vc, rfl, -⟩ := HW.out.gr.shape
              have z6 := wnt_box HW.out HOw.out (by omega) HZ6.out
              have z5 := wnt_box HW.out HOw.out (by omega) HZ5.out
              obtain ⟨k0, k1, k2⟩ := fq_cells z6
              have k3 : wr.cell? ⟨w3.heap.size, 0, none⟩ = some (.slice ra rs.length rc) := by simp [World.cell?, z5]
              have HG1 : Hid (∃ x o, wr.heap[w1.heap.size + 1]? = some (.cells #[.int .i64 x, .int .i64 0, .int .i64 o] 27 (0, 0))) := ⟨_, _, wnt_box HW.out HOw.out (by omega) HZ2.out⟩
              have HG2 : Hid (∃ x o, wr.heap[w2.heap.size + 1]? = some (.cells #[.int .i64 x, .int .i64 0, .int .i64 o] 27 (0, 0))) := ⟨_, _, wnt_box HW.out HOw.out (by omega) HZ4.out⟩
              have HSm := hide (sameClauses_any (wnt_lst HW.out HOw.out HLr2.out) (HW.out.gr.list (by have := HLn.out; omega)) (by rw [HMs.out, HPr.out, List.take_of_length_le (by omega), HPu2.out]))
              have HBw : Hid (Below w.heap.size w wr) := by
                have hb := HBZ.out
                refine ((Only.of_below hb (fun k => w.heap.size ≤ k)).trans (HW.out.on.mono fun k _ e => ?_)).below (Nat.le_refl _) (fun k hk e => by omega)
                exact own_new HWn.out.gr.1 k e.symm
              go_wp2_with (first
                | (go_at_call 8; refine HSm.out.mono ?_; rintro e w5 ⟨rfl, hb5⟩; have HB5 := hide hb5; clear hb5))
              go_meet
              refine ⟨rfl, belowt2 HBw.out HB5.out, ?_, ?_⟩
              · obtain ⟨x, o, h⟩ := HG1.out; exact ⟨x, o, bx_kept h HB5.out⟩
              · obtain ⟨x, o, h⟩ := HG2.out; exact ⟨x, o, bx_kept h HB5.out⟩
        · rw [hB] at hJ
          obtain ⟨o3, hJ, ho3⟩ := relX_bad hJ
          obtain rfl : o3 = o2 + ((a.size : Int) + 1) := by rw [ho3 hne2]; omega
          clear ho3
          obtain ⟨b1, b2⟩ := prog_off (by have := HS.out; omega) hB
          have HJ := hide hJ
          have hfb := fn_bad x2 o2 hne2
          have hsm := fn_same x2 (o2 + ((a.size : Int) + 1))
          clear hJ hB HUb
          go_upto_region 8 with (first
            | (go_at_call 5; refine (HPj.out _ HBY.out).mono ?_; intro e w3 hq; obtain ⟨rfl, hb3⟩ := readProg_bad hq HJ.out; clear hq; have HB3 := hide hb3; unfold faultV; clear hb3))
          obtain ⟨Z, hZ⟩ : ∃ Z, Z = (w3.alloc (.cells #[.slice none 0 0] 24)).alloc (.cells #[.int .i64 x2, .int .i64 0, .int .i64 (o2 + ((a.size : Int) + 1))] 27) := ⟨_, rfl⟩
          have hBZ : Below Y.heap.size Y Z := by rw [hZ]; exact belowt2 HB3.out (below2a _ _ _)
          have hzz : Y.heap.size ≤ w3.heap.size := HB3.out.size
          have hg := bx_kept HF2.out hBZ
          have hp3 : Z.heap[w3.heap.size]? = some (.cells #[.slice none 0 0] 24 (0, 0)) := by rw [hZ]; exact nx_first w3 _ _
          have hf3 : Z.heap[w3.heap.size + 1]? = some (.cells #[.int .i64 x2, .int .i64 0, .int .i64 (o2 + ((a.size : Int) + 1))] 27 (0, 0)) := by rw [hZ]; exact nx_second w3 _ _
          obtain ⟨⟨g0, g1, g2⟩, ⟨y0, y1, y2⟩⟩ := fault_cells hg
          rw [← hZ]
          clear hZ
          go_upto_region 10 with fail
          have hV : Only (fun k => k = w2.heap.size + 1) Z (Z.setCell ⟨w2.heap.size + 1, 2, none⟩ (.int .i64 (o2 + ((a.size : Int) + 1)))) := (Only.refl (fun k => k = w2.heap.size + 1) Z).setCell (p := ⟨w2.heap.size + 1, 2, none⟩) rfl _
          have hVg : (Z.setCell ⟨w2.heap.size + 1, 2, none⟩ (.int .i64 (o2 + ((a.size : Int) + 1)))).heap[w2.heap.size + 1]? = some (.cells #[.int .i64 x2, .int .i64 0, .int .i64 (o2 + ((a.size : Int) + 1))] 27 (0, 0)) := by simp [World.setCell, Array.getElem?_modify, hg]
          generalize Z.setCell ⟨w2.heap.size + 1, 2, none⟩ (.int .i64 (o2 + ((a.size : Int) + 1))) = V at hV hVg ⊢
          have hVf : V.heap[w3.heap.size + 1]? = some (.cells #[.int .i64 x2, .int .i64 0, .int .i64 (o2 + ((a.size : Int) + 1))] 27 (0, 0)) := by rw [hV.block _ (Array.getElem?_eq_some_iff.1 hf3).1 (by omega)]; exact hf3
          have hVp : V.heap[w3.heap.size]? = some (.cells #[.slice none 0 0] 24 (0, 0)) := by rw [hV.block _ (Array.getElem?_eq_some_iff.1 hp3).1 (by omega)]; exact hp3
          have hF1 : V.heap[w1.heap.size + 1]? = some (.cells #[.int .i64 x1, .int .i64 0, .int .i64 o1] 27 (0, 0)) := by rw [hV.block _ (by have := hBZ.size; omega) (by omega)]; exact bx_kept HF1.out hBZ
          obtain ⟨k0, k1, k2⟩ := fq_cells hVg
          obtain ⟨m0, m1, m2⟩ := fq_cells hVf
          have n0 : V.cell? ⟨w3.heap.size, 0, none⟩ = some (.slice none 0 0) := by simp [World.cell?, hVp]
          have HBV : Hid (Below w.heap.size w V) := by
            have h1 : Below w.heap.size w Z := belowt2 HBY.out hBZ
            have h2 := HBY.out.size
            have h3 := HB1.out.size
            exact ((Only.of_below h1 (fun k => w.heap.size ≤ k)).trans (hV.mono fun k _ (e : k = w2.heap.size + 1) => by omega)).below (Nat.le_refl _) (fun k hk e => by omega)
          have HG1 : Hid (∃ x o, V.heap[w1.heap.size + 1]? = some (.cells #[.int .i64 x, .int .i64 0, .int .i64 o] 27 (0, 0))) := ⟨_, _, hF1⟩
          have HG2 : Hid (∃ x o, V.heap[w2.heap.size + 1]? = some (.cells #[.int .i64 x, .int .i64 0, .int .i64 o] 27 (0, 0))) := ⟨_, _, hVg⟩
          clear hV hVg hVf hVp hF1 hg hp3 hf3 g0 g1 g2 y0 y1 y2 hBZ
          go_wp2
          go_meet
          exact ⟨rfl, HBV, HG1, HG2⟩
    case rest =>
      rename World => Wc
      obtain ⟨rfl, HBc, HG1, HG2⟩ := hcut
      clear hox c0 c1 c2 e0 hD HP1 HF1 HP2 HF2 HUa HUb HOw HPj hpl hi2
      obtain ⟨xf, of, hf⟩ := HG1.out
      obtain ⟨xg, og, hg⟩ := HG2.out
      have hlf := (Array.getElem?_eq_some_iff.1 hf).1
      have hlg := (Array.getElem?_eq_some_iff.1 hg).1
      have hw1 : w.heap.size ≤ w1.heap.size := HS1.out
      have HFf := hide hf
      have HGg := hide hg
      clear hf hg HG1 HG2 HS1 HB1 HBY
      go_upto_region 21 with (first
        | (go_at_call 9; refine (HFa.out _ HBc.out).mono ?_; intro e w3 hq; obtain ⟨fa, fn, fc, x3, o3, rfl, HU3, hb3⟩ := readFacts_uni hq; clear hq; obtain ⟨⟨c0, c1, c2⟩, ⟨y0, y1, y2⟩⟩ := fault_cells (bx_kept HFf.out hb3); have HB3 := hide hb3; clear hb3))
      have hz4 : Wc.heap.size ≤ w3.heap.size := HB3.out.size
      have hO3 : Only (fun k => k = w1.heap.size + 1) w3 (((w3.setCell ⟨w1.heap.size + 1, 0, none⟩ (.int .i64 x3)).setCell ⟨w1.heap.size + 1, 1, none⟩ (.int .i64 0)).setCell ⟨w1.heap.size + 1, 2, none⟩ (.int .i64 o3)) := only_three (w1.heap.size + 1) (.int .i64 x3) (.int .i64 0) (.int .i64 o3)
      have hV3f : (((w3.setCell ⟨w1.heap.size + 1, 0, none⟩ (.int .i64 x3)).setCell ⟨w1.heap.size + 1, 1, none⟩ (.int .i64 0)).setCell ⟨w1.heap.size + 1, 2, none⟩ (.int .i64 o3)).heap[w1.heap.size + 1]? = some (.cells #[.int .i64 x3, .int .i64 0, .int .i64 o3] 27 (0, 0)) := by simp [World.setCell, Array.getElem?_modify, bx_kept HFf.out HB3.out]
      generalize (((w3.setCell ⟨w1.heap.size + 1, 0, none⟩ (.int .i64 x3)).setCell ⟨w1.heap.size + 1, 1, none⟩ (.int .i64 0)).setCell ⟨w1.heap.size + 1, 2, none⟩ (.int .i64 o3)) = V3 at hO3 hV3f ⊢
      have HVg : Hid (V3.heap[w2.heap.size + 1]? = some (.cells #[.int .i64 xg, .int .i64 0, .int .i64 og] 27 (0, 0))) := by show _ = _; rw [hO3.block _ (by omega) (by omega)]; exact bx_kept HGg.out HB3.out
      have HVf := hide hV3f
      have HU3v : Hid (FactsU Wc.heap.size V3 a fa fn fc x3 o3) := HU3.out.above fun k hk hlt => hO3.block k hlt (by omega)
      have HBV : Hid (Below w.heap.size w V3) := ((Only.of_below (HBc.out.trans (HB3.out.mono HBc.out.size)) (fun k => w.heap.size ≤ k)).trans (hO3.mono fun k _ (e : k = w1.heap.size + 1) => by omega)).below (Nat.le_refl _) (fun k hk e => by omega)
      have hz5 : w3.heap.size ≤ V3.heap.size := hO3.size
      have HOf : Hid (∀ k, (Value.slice fa fn fc).ownBlock = some k → Wc.heap.size ≤ k ∧ k < w3.heap.size) := fun k hk => by
        rcases HU3.out with ⟨P, r, cs, h1, h2, h3, h4, h5, h6, h7⟩ | ⟨-, -, rfl, -⟩
        · exact ⟨own_new h7.1 k hk, own_lt6 h7.1 k hk⟩
        · cases hk
      have hfl : (fn : Int) ≤ 4096 := by
        rcases HU3.out with ⟨P, r, cs, h1, h2, h3, h4, h5, h6, h7⟩ | ⟨-, -, -, h, -⟩ <;> omega
      clear hO3 hV3f c0 c1 c2 y0 y1 y2 HB3 HU3 HFf HGg HFa
      go_upto_region 22 with (first
        | (go_at_call 9; refine (HFb.out _ HBV.out).mono ?_; intro e w4 hq; obtain ⟨ha, hn, hc, x4, o4, rfl, HU4, hb4⟩ := readFacts_uni hq; clear hq; obtain ⟨⟨c0, c1, c2⟩, ⟨y0, y1, y2⟩⟩ := fault_cells (bx_kept HVg.out hb4); have HB4 := hide hb4; clear hb4))
      have hz6 : V3.heap.size ≤ w4.heap.size := HB4.out.size
      have hO4 : Only (fun k => k = w2.heap.size + 1) w4 (((w4.setCell ⟨w2.heap.size + 1, 0, none⟩ (.int .i64 x4)).setCell ⟨w2.heap.size + 1, 1, none⟩ (.int .i64 0)).setCell ⟨w2.heap.size + 1, 2, none⟩ (.int .i64 o4)) := only_three (w2.heap.size + 1) (.int .i64 x4) (.int .i64 0) (.int .i64 o4)
      have hV4g : (((w4.setCell ⟨w2.heap.size + 1, 0, none⟩ (.int .i64 x4)).setCell ⟨w2.heap.size + 1, 1, none⟩ (.int .i64 0)).setCell ⟨w2.heap.size + 1, 2, none⟩ (.int .i64 o4)).heap[w2.heap.size + 1]? = some (.cells #[.int .i64 x4, .int .i64 0, .int .i64 o4] 27 (0, 0)) := by simp [World.setCell, Array.getElem?_modify, bx_kept HVg.out HB4.out]
      generalize (((w4.setCell ⟨w2.heap.size + 1, 0, none⟩ (.int .i64 x4)).setCell ⟨w2.heap.size + 1, 1, none⟩ (.int .i64 0)).setCell ⟨w2.heap.size + 1, 2, none⟩ (.int .i64 o4)) = V4 at hO4 hV4g ⊢
      have hV4f : V4.heap[w1.heap.size + 1]? = some (.cells #[.int .i64 x3, .int .i64 0, .int .i64 o3] 27 (0, 0)) := by rw [hO4.block _ (by omega) (by omega)]; exact bx_kept HVf.out HB4.out
      have hO34 : ∀ k, Wc.heap.size ≤ k → k < V3.heap.size → V4.heap[k]? = V3.heap[k]? := fun k hk hlt => (hO4.block k (by omega) (by omega)).trans (HB4.out.block k hlt)
      have HUa : Hid (FactsU Wc.heap.size V4 a fa fn fc x3 o3) := HU3v.out.above hO34
      have HUb : Hid (FactsU V3.heap.size V4 b ha hn hc x4 o4) := HU4.out.above fun k hk hlt => hO4.block k hlt (by omega)
      have HBY : Hid (Below w.heap.size w V4) := ((Only.of_below (HBV.out.trans (HB4.out.mono HBV.out.size)) (fun k => w.heap.size ≤ k)).trans (hO4.mono fun k _ (e : k = w2.heap.size + 1) => by omega)).below (Nat.le_refl _) (fun k hk e => by omega)
      have hz7 : w4.heap.size ≤ V4.heap.size := hO4.size
      have HF2 := hide hV4g
      have HF1 := hide hV4f
      clear c0 c1 c2 y0 y1 y2 hO34 hO4 hV4g HB4 HU4 HU3v HVg HVf HBV HFb
      obtain ⟨c0, c1, c2⟩ := fq_cells HF1.out
      clear hV4f
      have hox : x3 = 0 → o3 = 0 := fun hx => by
        rcases HUa.out with ⟨P, r, cs, h1, h2, h3, -⟩ | ⟨-, h, -⟩
        · exact h3
        · exact absurd hx h
      obtain ⟨D2, hD2⟩ : ∃ D2 : Bool, D2 = (decide (x3 = 0) && decide (fn + b.size ≤ 4096)) := ⟨_, rfl⟩
      have hi2 : (b.size : Int) ≤ 65536 := by have := HS.out; omega
      go_cut [129] (fun t wx => t = .bool D2 ∧ Hid (wx = V4))
      case first =>
        by_cases hx : x3 = 0
        · have ho := hox hx
          rw [hx] at c0
          rw [ho] at c2
          by_cases hn : fn + b.size ≤ 4096
          · have hn' : decide ((fn : Int) + (b.size : Int) ≤ 4096) = true := decide_eq_true (by omega)
            go_wp2
            go_meet
            exact ⟨by rw [hD2]; simp [hx, hn], rfl⟩
          · have hn' : decide ((fn : Int) + (b.size : Int) ≤ 4096) = false := decide_eq_false (by omega)
            go_wp2
            go_meet
            exact ⟨by rw [hD2]; simp [hn], rfl⟩
        · have hq1 := fq_bad x3 o3 hx
          go_wp2
          go_meet
          exact ⟨by rw [hD2]; simp [hx], rfl⟩
      case rest =>
        obtain ⟨rfl, hwc⟩ := hcut
        rw [hwc.out]
        clear hwc
        cases D2 with
        | false =>
          go_wp2_with (first
            | (go_at_call 10; refine (HTk.out _ HBY.out).mono ?_; rintro e w9 ⟨rfl, hb9⟩; have HB9 := hide hb9; clear hb9))
          go_ret
          exact ⟨rfl, belowt2 HBY.out HB9.out⟩
        | true =>
          simp only [Bool.true_eq, Bool.and_eq_true, decide_eq_true_eq] at hD2
          obtain ⟨hx3, hnn⟩ := hD2
          have HA : Hid (∃ P r cs, factsP (scanX a).2.1 ((scanX a).2.2 : Int) (scanX a).1 = .ok P r ∧ cs.map Atx.pur = P ∧ cs.length = fn ∧ Grow elAtx 32 Wc.heap.size V4 (.slice fa fn fc) cs) := by
            rcases HUa.out with ⟨P, r, cs, h1, h2, h3, h4, h5, h6, h7⟩ | ⟨-, h, -⟩
            · exact ⟨P, r, cs, h1, h4, h5, h7⟩
            · exact absurd hx3 h
          obtain ⟨P, r, cs, hA, hpu, hcl, hgr⟩ := HA.out
          have hJ := join_facts HS.out hA (by rw [← hpu, List.length_map]; omega)
          have HGr := hide hgr
          have HPu := hide hpu
          have HCl := hide hcl
          clear hgr hpu hcl HA hA HUa c0 c1 c2 hox
          rcases HUb.out with ⟨Q, r2, cs2, hB, hx2, ho2, hpu2, hcl2, hle2, hgr2⟩ | ⟨hB, hne2, hqa, hqn, hqc⟩
          · rw [hB] at hJ
            have hJ := relX_ok hJ
            have HJ := hide hJ
            have HPu2 := hide hpu2
            have HQ2 := hide (hgr2.new (by omega))
            subst hx2 ho2
            clear hJ hB HUb hpu2 hgr2
            go_upto_region 24 with (first
              | (go_at_call 9; refine (HFj.out _ HBY.out).mono ?_; intro e w5 hq; obtain ⟨rv, rs, rfl, hpr, hlr, hgrr, hb5⟩ := readFacts_own hq HJ.out; clear hq; obtain ⟨ra, rc, rfl, -⟩ := hgrr.shape; have HB5 := hide hb5; have HPr := hide hpr; have HLr := hide (hgrr.new (by omega)); unfold faultV; clear hb5 hpr hgrr))
            obtain ⟨Z, hZ⟩ : ∃ Z, Z = w5.alloc (.cells #[.int .i64 0, .int .i64 0, .int .i64 0] 27) := ⟨_, rfl⟩
            have hBZ : Below V4.heap.size V4 Z := by rw [hZ]; exact belowt2 HB5.out (belowA _ _)
            have hzz : V4.heap.size ≤ w5.heap.size := HB5.out.size
            have hf5 : Z.heap[w5.heap.size]? = some (.cells #[.int .i64 0, .int .i64 0, .int .i64 0] 27 (0, 0)) := by rw [hZ]; exact heap_alloc_new w5 _
            have HLr2 : Hid (Lst elAtx Z (fun k => w3.heap.size ≤ k) (.slice ra rs.length rc) rs) := (HLr.out.move fun k hk hF => ⟨by omega, by rw [hZ]; exact (belowA w5 _).block k hk⟩)
            have HLq : Hid (Lst elAtx Z (fun k => w3.heap.size ≤ k) (.slice ha hn hc) cs2) := (HQ2.out.move fun k hk hF => ⟨by omega, hBZ.block k hk⟩)
            have HSh := hide (atx_sh HPu2.out HPr.out HLr2.out)
            have HOw : Hid (∀ k, (Value.slice fa fn fc).ownBlock = some k → k < w3.heap.size) := fun k hk => (HOf.out k hk).2
            have HWn : Hid (Wnt elAtx 32 Wc.heap.size Z Z ((Value.slice fa fn fc).ownBlock) (.slice fa fn fc) cs) := ⟨HGr.out.kept hBZ, Only.refl _ _, .inl rfl⟩
            have HBZ : Hid (Below w.heap.size w Z) := belowt2 HBY.out hBZ
            have HZ4 := hide (bx_kept HF2.out hBZ)
            have HZ6 := hide hf5
            obtain ⟨g0, g1, g2⟩ := fq_cells HZ4.out
            rw [← hZ]
            clear hZ hf5 HB5 HQ2 HLr HGr
            go_wp2
            go_loopw [19, 160] (fun v i wl => ∃ (j : Nat) (ms : List Atx), j ≤ hn ∧ i = .int .i64 j ∧ Hid (ms.length = fn + j) ∧ Hid (ms.map Atx.pur = P ++ ((cs2.take j).map Atx.pur).map (shAt (a.size + 1))) ∧ Hid (Wnt elAtx 32 Wc.heap.size Z wl ((Value.slice fa fn fc).ownBlock) v ms)) (fun _ i _ => hn - (intOf i).toNat)
            case atStart => exact ⟨0, cs, by omega, rfl, by show _ = _; rw [HCl.out]; rfl, by show _ = _; rw [HPu.out]; simp, HWn⟩
            case round =>
              obtain ⟨j, ms, hj, rfl, HLn, HMs, HW⟩ := hrel
              obtain ⟨va, vc, rfl, -⟩ := HW.out.gr.shape
              by_cases hlt : j < hn
              · have hi : (j : Int) < (hn : Int) := by omega
                have hi0 : (0 : Int) ≤ (j : Int) := by omega
                obtain ⟨x, hx⟩ : ∃ x, cs2[j]? = some x := ⟨_, List.getElem?_eq_getElem (by omega)⟩
                obtain ⟨b3, q3, rfl, hb3, hr3⟩ := lst_row HLq.out (by omega)
                have y0 := wnt_cell HW.out HOw.out hb3 (hr3 j _ hx 0 _ rfl)
                have y1 := wnt_cell HW.out HOw.out hb3 (hr3 j _ hx 1 _ rfl)
                have y2 := wnt_cell HW.out HOw.out hb3 (hr3 j _ hx 2 _ rfl)
                obtain ⟨s1, s2⟩ := HSh.out x (List.mem_of_getElem? hx)
                have hok := (wnt_lst HW.out HOw.out HLq.out).ok (List.mem_of_getElem? hx)
                have HX := hide hx
                obtain ⟨ap, av, aoff, ats⟩ := x
                obtain ⟨xa, xc, rfl, -⟩ := (show Lst elTrm wr (fun k => w3.heap.size ≤ k) av ats from hok.2.2).shape
                simp only [elAtx, Nat.add_zero] at y0 y1 y2
                simp only at s1 s2
                go_upto_region 31 with fail
                obtain ⟨U, hU⟩ : ∃ U, U = wr.alloc (.cells #[.string ap, .slice xa ats.length xc, .int .i64 aoff] 32) := ⟨_, rfl⟩
                have HBU : Hid (Below wr.heap.size wr U) := by rw [hU]; exact belowA _ _
                have hUb : U.heap[wr.heap.size]? = some (.cells #[.string ap, .slice xa ats.length xc, .int .i64 aoff] 32 (0, 0)) := by rw [hU]; exact heap_alloc_new wr _
                obtain ⟨t0, t1, t2, -, -, -⟩ := box3_cells hUb
                have hUs : wr.heap.size < U.heap.size := by rw [hU]; simp
                have hdd : ((a.size + 1 : Nat) : Int) = (a.size : Int) + 1 := by omega
                have HSa : Hid (Calls Tryd.prog 6 #[.agg #[.string ap, .slice xa ats.length xc, .int .i64 aoff], .int .i64 ((a.size : Int) + 1)] U fun e w' => ∃ bp ba bc bo bts, e = .returned (.agg #[.string bp, .slice ba (bts : List Trm).length bc, .int .i64 bo]) ∧ Hid ((⟨bp, .slice ba bts.length bc, bo, bts⟩ : Atx).pur = shAt (a.size + 1) (⟨ap, .slice xa ats.length xc, aoff, ats⟩ : Atx).pur) ∧ Hid (elAtx.ok w' (fun k => U.heap.size ≤ k) ⟨bp, .slice ba bts.length bc, bo, bts⟩) ∧ Hid (Below U.heap.size U w')) := by
                  have := shiftAtom_by (a.size + 1) (by have := HS.out; omega) (w := U) (F := fun _ => True) ⟨ap, .slice xa ats.length xc, aoff, ats⟩ (elAtx.kept (elAtx.all hok) HBU.out) s1 s2
                  rw [hdd] at this
                  refine this.mono ?_
                  rintro e w' ⟨⟨bp, bv, bo, bts⟩, rfl, h1, h2, h3⟩
                  obtain ⟨ba, bc, rfl, -⟩ := (show Lst elTrm w' _ bv bts from h2.2.2).shape
                  exact ⟨bp, ba, bc, bo, bts, rfl, h1, h2, h3⟩
                have HPt : Hid (∀ bp ba bc bo bts, (⟨bp, .slice ba (bts : List Trm).length bc, bo, bts⟩ : Atx).pur = shAt (a.size + 1) (⟨ap, .slice xa ats.length xc, aoff, ats⟩ : Atx).pur → (ms ++ [(⟨bp, .slice ba bts.length bc, bo, bts⟩ : Atx)]).map Atx.pur = P ++ ((cs2.take (j + 1)).map Atx.pur).map (shAt (a.size + 1))) := fun bp ba bc bo bts h1 => snoc_sh HMs.out HX.out h1
                have HOl : Hid (∀ k, (Value.slice va ms.length vc).ownBlock = some k → k < U.heap.size) := fun k hk => by have := own_lt6 HW.out.gr.1 k hk; omega
                have HwU : Hid (Wc.heap.size ≤ U.heap.size) := by have := HW.out.on.size; have := hBZ.size; show _ ≤ _; omega
                have hml : ms.length + 1 < 1073741824 := by have := HLn.out; omega
                rw [← hU]
                clear hU hUb y0 y1 y2 hok s1 s2 hr3 hdd hx
                go_wp2_with (first
                  | (go_at_call 6; refine HSa.out.mono ?_; rintro e VA ⟨bp, ba, bc, bo, bts, rfl, HP9, HO9, HZ9⟩; have HBC : Hid (Below U.heap.size U (VA.alloc (.cells #[.string bp, .slice ba bts.length bc, .int .i64 bo] 32))) := belowt2 HZ9.out (belowA _ _); have HWc : Hid (Wnt elAtx 32 Wc.heap.size Z (VA.alloc (.cells #[.string bp, .slice ba bts.length bc, .int .i64 bo] 32)) ((Value.slice fa fn fc).ownBlock) (.slice va ms.length vc) ms) := HW.out.kept (belowt2 HBU.out HBC.out); have HOk : Hid (elAtx.ok (VA.alloc (.cells #[.string bp, .slice ba bts.length bc, .int .i64 bo] 32)) (fun k => Wc.heap.size ≤ k ∧ (Value.slice va ms.length vc).ownBlock ≠ some k) ⟨bp, .slice ba bts.length bc, bo, bts⟩) := atx_here HO9.out HwU.out HOl.out; have HSz : Hid (Wc.heap.size ≤ (VA.alloc (.cells #[.string bp, .slice ba bts.length bc, .int .i64 bo] 32)).heap.size) := Nat.le_trans HwU.out HBC.out.size)
                  | (at_builtin; obtain ⟨i0, hi0', hz0, hz1', hz2'⟩ := info_parts Tryd.infoAtm; refine wpList_pushA (w0 := VA.alloc (.cells #[.string bp, .slice ba bts.length bc, .int .i64 bo] 32)) elAtx rfl _ _ 39 rfl Wc.heap.size 32 i0 _ 48 Tryd.underlying39 hi0' hz0 hz1' hz2' rfl (by decide) _ ms ms.length rfl rfl HWc.out.gr ⟨bp, .slice ba bts.length bc, bo, bts⟩ VA.heap.size 1 rfl (fun j u hu => new_cells (cs := #[.string bp, .slice ba bts.length bc, .int .i64 bo]) j u hu) HOk.out hml (Below.refl _ _) HSz.out ?_; intro g7 c7 w7 HG7 HB7 HGr7 Hat7; have HW5 := hide (HWc.out.push HG7.out HGr7.out Hat7.out); clear HB7 hi0' hz0 hz1' hz2'))
                go_roundw
                case rel => exact ⟨j + 1, _, by omega, by go_num, by show _ = _; rw [List.length_append, HLn.out]; rfl, HPt.out _ _ _ _ _ HP9.out, HW5⟩
                case measure => simp [intOf]; omega
              · obtain rfl : j = hn := by omega
                have hi : ¬ (j : Int) < (j : Int) := by omega
                have z6 := wnt_box HW.out HOw.out (by omega) HZ6.out
                obtain ⟨k0, k1, k2⟩ := fq_cells z6
                have HSm := hide (sameAtoms_any (wnt_lst HW.out HOw.out HLr2.out) (HW.out.gr.list (by have := HLn.out; omega)) (by rw [HMs.out, HPr.out, List.take_of_length_le (by omega), HPu2.out]))
                have HBw : Hid (Below w.heap.size w wr) := by
                  have hb := HBZ.out
                  have h0 := HBc.out.size
                  refine ((Only.of_below hb (fun k => w.heap.size ≤ k)).trans (HW.out.on.mono fun k _ e => ?_)).below (Nat.le_refl _) (fun k hk e => by omega)
                  exact Nat.le_trans h0 (HOf.out k e.symm).1
                go_wp2_with (first
                  | (go_at_call 11; refine HSm.out.mono ?_; rintro e w6 ⟨rfl, hb6⟩; have HB6 := hide (belowt2 HBw.out hb6); clear hb6)
                  | (go_at_call 10; refine (HTk.out _ HB6.out).mono ?_; rintro e w9 ⟨rfl, hb9⟩; have HB9 := hide hb9; clear hb9))
                go_ret
                exact ⟨rfl, belowt2 HB6.out HB9.out⟩
          · rw [hB] at hJ
            obtain ⟨o5, hJ, ho5⟩ := relX_bad hJ
            obtain rfl : o5 = o4 + ((a.size : Int) + 1) := by rw [ho5 hne2]; omega
            clear ho5
            obtain ⟨b1, b2⟩ := facts_off (by have := HS.out; omega) hB
            have HJ := hide hJ
            have hfb := fn_bad x4 o4 hne2
            have hsm := fq_same x4 (o4 + ((a.size : Int) + 1))
            clear hJ hB HUb
            go_upto_region 24 with (first
              | (go_at_call 9; refine (HFj.out _ HBY.out).mono ?_; intro e w5 hq; obtain ⟨rfl, hb5⟩ := readFacts_bad hq HJ.out; clear hq; have HB5 := hide hb5; unfold faultV; clear hb5))
            obtain ⟨Z, hZ⟩ : ∃ Z, Z = w5.alloc (.cells #[.int .i64 x4, .int .i64 0, .int .i64 (o4 + ((a.size : Int) + 1))] 27) := ⟨_, rfl⟩
            have hBZ : Below V4.heap.size V4 Z := by rw [hZ]; exact belowt2 HB5.out (belowA _ _)
            have hzz : V4.heap.size ≤ w5.heap.size := HB5.out.size
            have hg := bx_kept HF2.out hBZ
            have hf5 : Z.heap[w5.heap.size]? = some (.cells #[.int .i64 x4, .int .i64 0, .int .i64 (o4 + ((a.size : Int) + 1))] 27 (0, 0)) := by rw [hZ]; exact heap_alloc_new w5 _
            obtain ⟨⟨g0, g1, g2⟩, ⟨y0, y1, y2⟩⟩ := fault_cells hg
            rw [← hZ]
            clear hZ
            go_upto_region 26 with fail
            have hV : Only (fun k => k = w2.heap.size + 1) Z (Z.setCell ⟨w2.heap.size + 1, 2, none⟩ (.int .i64 (o4 + ((a.size : Int) + 1)))) := (Only.refl (fun k => k = w2.heap.size + 1) Z).setCell (p := ⟨w2.heap.size + 1, 2, none⟩) rfl _
            have hVg : (Z.setCell ⟨w2.heap.size + 1, 2, none⟩ (.int .i64 (o4 + ((a.size : Int) + 1)))).heap[w2.heap.size + 1]? = some (.cells #[.int .i64 x4, .int .i64 0, .int .i64 (o4 + ((a.size : Int) + 1))] 27 (0, 0)) := by simp [World.setCell, Array.getElem?_modify, hg]
            generalize Z.setCell ⟨w2.heap.size + 1, 2, none⟩ (.int .i64 (o4 + ((a.size : Int) + 1))) = V at hV hVg ⊢
            have hVf : V.heap[w5.heap.size]? = some (.cells #[.int .i64 x4, .int .i64 0, .int .i64 (o4 + ((a.size : Int) + 1))] 27 (0, 0)) := by rw [hV.block _ (Array.getElem?_eq_some_iff.1 hf5).1 (by omega)]; exact hf5
            obtain ⟨k0, k1, k2⟩ := fq_cells hVg
            obtain ⟨m0, m1, m2⟩ := fq_cells hVf
            have HBv : Hid (Below w.heap.size w V) := ((Only.of_below (belowt2 HBY.out hBZ) (fun k => w.heap.size ≤ k)).trans (hV.mono fun k _ (e : k = w2.heap.size + 1) => by omega)).below (Nat.le_refl _) (fun k hk e => by omega)
            clear hV hVg hVf hg hf5 g0 g1 g2 y0 y1 y2 hBZ
            go_wp2_with (first
              | (go_at_call 10; refine (HTk.out _ HBv.out).mono ?_; rintro e w9 ⟨rfl, hb9⟩; have HB9 := hide hb9; clear hb9))
            go_ret
            exact ⟨rfl, belowt2 HBv.out HB9.out⟩

set_option maxRecDepth 100000 in
theorem parseJoins_walk (a b : ByteArray) (w : World) (ha : a.size ≤ 140737488351232) (hb : b.size ≤ 140737488351232) (hl : LexLaid w) :
    Calls Tryd.prog 3 #[.string a, .string b] w fun e w' => e = .returned (.bool true) ∧ Below w.heap.size w w' := by
  by_cases hlong : 65536 < a.size + 1 + b.size
  · have hd : decide ((65536 : Int) < (a.size : Int) + 1 + (b.size : Int)) = true := decide_eq_true (by omega)
    clear hlong hl
    go_enter Tryd.func3, Tryd.ntmps3
    go_wp2
    go_ret
    exact ⟨rfl, Below.refl _ _⟩
  · exact parseJoins_short a b w hl (by omega)
end Go.Proofs.YtfbmddgjbmapiaaDoor
