/- An atom that is put together: the answer's box, the atom's box, the terms so far. The law's own shiftAtom. The law's own shiftBody. The law's own sameAtom at equal atoms. The law's own sameAtoms at equal lists of atoms. The law's own sameBody at equal lists of literals. The law's own sameClauses at equal lists of clauses. -/
import Derived.Test.YtfbmddgjbmapiaaDoorProg
import Derived.Test.YtfbmddgjbmapiaaDoorParseLit
import Derived.Test.YtfbmddgjbmapiaaDoorPkA5
import Derived.Test.YtfbmddgjbmapiaaDoorParseBody
import Derived.Test.YtfbmddgjbmapiaaDoorForms
import Derived.Test.YtfbmddgjbmapiaaDoorOver
import Derived.Test.YtfbmddgjbmapiaaDoorParseAtom
import Derived.Test.YtfbmddgjbmapiaaDoorParseLiteral
import Derived.Deep.RegionHeld3
import Derived.Deep.DeepCutAuto
import Derived.Test.YtfbmddgjbmapiaaDoorParseCls

namespace Go.Proofs.YtfbmddgjbmapiaaDoor
set_option linter.unusedSimpArgs false
set_option linter.unusedVariables false
open Go.RowKit

/-- The answer's box, the atom's box, the terms so far. -/
structure RAt (w wr : World) (nt : ByteArray) (off : Int) (v : Value) (acc : List Trm) : Prop where
  hb : Below w.heap.size w wr
  b0 : wr.heap[w.heap.size]? = some (.cells #[.string ⟨#[]⟩, .slice none 0 0, .int .i64 0] 32 (0, 0))
  b1 : wr.heap[w.heap.size + 1]? = some (.cells #[.string nt, v, .int .i64 off] 32 (0, 0))
  gr : Grow elTrm 55 (w.heap.size + 2) wr v acc
section
variable {w wr wr' : World} {nt : ByteArray} {off : Int} {v v' : Value} {acc acc' : List Trm}
theorem RAt.hi (h : RAt w wr nt off v acc) : w.heap.size + 2 ≤ wr.heap.size := (Array.getElem?_eq_some_iff.1 h.b1).1
theorem RAt.kept (h : RAt w wr nt off v acc) (hb : Below wr.heap.size wr wr') : RAt w wr' nt off v acc :=
  ⟨belowt2 h.hb hb, by rw [hb.block _ (Array.getElem?_eq_some_iff.1 h.b0).1]; exact h.b0, by rw [hb.block _ (Array.getElem?_eq_some_iff.1 h.b1).1]; exact h.b1, h.gr.kept hb⟩
theorem RAt.drew (h : RAt w wr nt off v acc) : RAt w wr.drew nt off v acc := h.kept (Below.refl _ _).drew
theorem RAt.far (h : RAt w wr nt off v acc) (hg : wr.grownBy wr' v.ownBlock) : wr'.heap[w.heap.size + 1]? = some (.cells #[.string nt, v, .int .i64 off] 32 (0, 0)) := by
  have ho : Only (fun k => w.heap.size + 2 ≤ k) wr wr' := (Only.refl _ wr).grown hg (fun k hk _ => own_new h.gr.1 k hk)
  rw [ho.block _ (Array.getElem?_eq_some_iff.1 h.b1).1 (by omega)]; exact h.b1
theorem RAt.push (h : RAt w wr nt off v acc) (hg : wr.grownBy wr' v.ownBlock) (hG : Grow elTrm 55 (w.heap.size + 2) wr' v' acc') : RAt w (wr'.setCell ⟨w.heap.size + 1, 1, none⟩ v') nt off v' acc' := by
  have hh := h.hi
  have ho : Only (fun k => w.heap.size + 2 ≤ k) wr wr' := (Only.refl _ wr).grown hg (fun k hk _ => own_new h.gr.1 k hk)
  have ho2 : Only (fun k => k = w.heap.size + 1) wr' (wr'.setCell ⟨w.heap.size + 1, 1, none⟩ v') := (Only.refl (fun k => k = w.heap.size + 1) wr').setCell (p := ⟨w.heap.size + 1, 1, none⟩) rfl _
  have hs := ho.size
  have hs2 := h.hb.size
  refine ⟨(h.hb.trans (ho.below h.hb.size (fun k hk e => by omega))).trans (ho2.below (by omega) (fun k hk e => by omega)), ?_, ?_, hG.above fun b hb hlt => ho2.block b hlt (by omega)⟩
  · have e : wr'.heap[w.heap.size]? = some (.cells #[.string ⟨#[]⟩, .slice none 0 0, .int .i64 0] 32 (0, 0)) := by rw [ho.block _ (Array.getElem?_eq_some_iff.1 h.b0).1 (by omega)]; exact h.b0
    rw [ho2.block _ (Array.getElem?_eq_some_iff.1 e).1 (by omega)]; exact e
  · have := h.far hg
    simp [World.setCell, Array.getElem?_modify, this]
theorem RAt.fin (h : RAt w wr nt off v acc) (hl : acc.length < 1073741824) (hn : nt.size ≤ 140737488351232) (hof : I64 off) :
    (((wr.setCell ⟨w.heap.size, 0, none⟩ (.string nt)).setCell ⟨w.heap.size, 1, none⟩ v).setCell ⟨w.heap.size, 2, none⟩ (.int .i64 off)).heap[w.heap.size]? = some (.cells #[.string nt, v, .int .i64 off] 32 (0, 0)) ∧ Below w.heap.size w (((wr.setCell ⟨w.heap.size, 0, none⟩ (.string nt)).setCell ⟨w.heap.size, 1, none⟩ v).setCell ⟨w.heap.size, 2, none⟩ (.int .i64 off)) ∧ elAtx.ok (((wr.setCell ⟨w.heap.size, 0, none⟩ (.string nt)).setCell ⟨w.heap.size, 1, none⟩ v).setCell ⟨w.heap.size, 2, none⟩ (.int .i64 off)) (fun b => w.heap.size ≤ b) ⟨nt, v, off, acc⟩ := by
  have ho := only_three (w1 := wr) w.heap.size (.string nt) v (.int .i64 off)
  refine ⟨by simp [World.setCell, Array.getElem?_modify, h.b0], h.hb.trans (ho.below h.hb.size (fun k hk e => by omega)), hn, hof, (h.gr.new hl).move fun b hb hF => ⟨by omega, ho.block b hb (by omega)⟩⟩
theorem RAt.start (w : World) (nt : ByteArray) (off : Int) : RAt w ((w.alloc (.cells #[.string ⟨#[]⟩, .slice none 0 0, .int .i64 0] 32)).alloc (.cells #[.string nt, .slice none 0 0, .int .i64 off] 32)) nt off (.slice none 0 0) [] := by
  refine ⟨below2a w _ _, ?_, ?_, Grow.nil _ _ _ _⟩
  · rw [(belowA (w.alloc _) _).block _ (by simp)]; exact heap_alloc_new w _
  · have := heap_alloc_new (w.alloc (.cells #[.string ⟨#[]⟩, .slice none 0 0, .int .i64 0] 32)) (.cells #[.string nt, .slice none 0 0, .int .i64 off] 32)
    simpa using this
end
end Go.Proofs.YtfbmddgjbmapiaaDoor

namespace Go.Proofs.YtfbmddgjbmapiaaDoor
set_option linter.unusedSimpArgs false
set_option linter.unusedVariables false
open Go.RowKit

theorem i64_parts {x : Int} (h : I64 x) : -9223372036854775808 ≤ x ∧ x ≤ 9223372036854775807 := by unfold I64 at h; omega
theorem shTake_snoc {α β : Type} {f : α → β} {l : List α} {k : Nat} {x : α} (h : l[k]? = some x) : (l.take (k + 1)).map f = (l.take k).map f ++ [f x] := by
  rw [List.take_add_one, h, List.map_append]; rfl
theorem shRes (W : World) (b : Nat) (u0 u1 u2 : Value) (tmps : Array Value) (ht : tmps[4]? = some (.pointer (some ⟨b, 0, none⟩))) (hb : W.heap[b]? = some (.cells #[u0, u1, u2] 32 (0, 0))) :
    (results Tryd.f6 tmps).run Tryd.prog W = .ok (.agg #[u0, u1, u2]) W := by
  have c0 : W.cell? ⟨b, 0, none⟩ = some u0 := by simp [World.cell?, hb]
  have c1 : W.cell? ⟨b, 1, none⟩ = some u1 := by simp [World.cell?, hb]
  have c2 : W.cell? ⟨b, 2, none⟩ = some u2 := by simp [World.cell?, hb]
  simp [results, Tryd.results6, go_sem, ht, c0, c1, c2]

set_option maxRecDepth 100000 in
set_option maxHeartbeats 4000000 in
theorem shiftAtom_by (d : Nat) (hd : d < 1000000) {w : World} {F : Nat → Prop} (a : Atx) (h : elAtx.ok w F a) (ho : I64 (a.off + (d : Int))) (ht : ∀ t ∈ a.ts, I64 (t.off + (d : Int))) :
    Calls Tryd.prog 6 #[a.val, .int .i64 (d : Int)] w fun e w' => ∃ b : Atx, e = .returned b.val ∧ b.pur = shAt d a.pur ∧ elAtx.ok w' (fun b => w.heap.size ≤ b) b ∧ Below w.heap.size w w' := by
  obtain ⟨ap, av, aoff, ats⟩ := a
  obtain ⟨hap, hao, hl⟩ := h
  simp only at hap hao hl ho ht
  obtain ⟨la, lc, rfl, -, -, hlen⟩ := hl.shape
  unfold Atx.val
  simp only
  have HL := hide hl.all
  have HT := hide ht
  have HAp := hide hap
  have HO := hide ho
  obtain ⟨o1, o2⟩ := i64_parts ho
  obtain ⟨q, hq⟩ : ∃ q, q = ats.length := ⟨_, rfl⟩
  rw [← hq] at hlen HL ⊢
  have HQ := hide hq
  clear hl ht hap hao ho hq
  go_enter Tryd.func6, Tryd.ntmps6
  go_wp2
  obtain ⟨W0, hW0⟩ : ∃ W0, W0 = w.alloc (.cells #[.string ap, .slice la q lc, .int .i64 aoff] 32) := ⟨_, rfl⟩
  have hz : w.heap.size + 1 = W0.heap.size := by rw [hW0]; simp
  have HB0 : Hid (Below w.heap.size w W0) := by rw [hW0]; exact belowA _ _
  have HL0 : Hid (Has elTrm W0 (.slice la q lc) ats) := HL.out.kept HB0.out
  try rw [← hW0]
  rw [hz]
  obtain ⟨Y, hY⟩ : ∃ Y, Y = (W0.alloc (.cells #[.string ⟨#[]⟩, .slice none 0 0, .int .i64 0] 32)).alloc (.cells #[.string ap, .slice none 0 0, .int .i64 (aoff + (d : Int))] 32) := ⟨_, rfl⟩
  have HA0 : Hid (RAt W0 Y ap (aoff + (d : Int)) (.slice none 0 0) []) := by rw [hY]; exact RAt.start W0 ap (aoff + (d : Int))
  rw [← hY]
  have HZ := hide hz
  clear hY hW0 hz HL
  go_loopw [18] (fun i wl => ∃ (j : Nat) (acc : List Trm) (va : Option Addr) (vc : Nat), j ≤ q ∧ i = .int .i64 j ∧ Hid (acc.length = j) ∧ Hid (acc = (ats.take j).map (shTrm d)) ∧ Hid (RAt W0 wl ap (aoff + (d : Int)) (.slice va j vc) acc)) (fun i _ => q - (intOf i).toNat)
  case atStart => exact ⟨0, [], none, 0, by omega, rfl, rfl, rfl, HA0⟩
  case round =>
    clear HA0
    obtain ⟨j, acc, va, vc, hj, rfl, HLn, HAc, HA⟩ := hrel
    by_cases hlt : j < q
    · have hi : (j : Int) < (q : Int) := by omega
      have hi0 : (0 : Int) ≤ (j : Int) := by omega
      obtain ⟨t, ht⟩ : ∃ t, ats[j]? = some t := ⟨_, List.getElem?_eq_getElem (by rw [← HQ.out]; exact hlt)⟩
      have HOk := hide (HL0.out.ok (List.mem_of_getElem? ht))
      have HI := hide (HT.out t (List.mem_of_getElem? ht))
      obtain ⟨p1, p2⟩ := i64_parts HI.out
      obtain ⟨b3, o3, rfl, -, -, hr3⟩ := HL0.out.row (by rw [← HQ.out]; omega)
      have y0 := kept_cell HA.out.hb (hr3 j _ ht 0 _ rfl)
      have y1 := kept_cell HA.out.hb (hr3 j _ ht 1 _ rfl)
      have y2 := kept_cell HA.out.hb (hr3 j _ ht 2 _ rfl)
      have y3 := kept_cell HA.out.hb (hr3 j _ ht 3 _ rfl)
      simp only [elTrm, Nat.add_zero] at y0 y1 y2 y3
      have HSn : Hid ((ats.take (j + 1)).map (shTrm d) = (ats.take j).map (shTrm d) ++ [shTrm d t]) := shTake_snoc (f := shTrm d) ht
      clear hr3 ht
      have hjm : j + 1 < 1073741824 := by omega
      go_upto_region 6 with fail
      obtain ⟨Z, hZ⟩ : ∃ Z, Z = wr.alloc (.cells #[.int .i64 t.k, .int .i64 t.n, .string t.s, .int .i64 (t.off + (d : Int))] 55) := ⟨_, rfl⟩
      have HAZ : Hid (RAt W0 Z ap (aoff + (d : Int)) (.slice va j vc) acc) := by rw [hZ]; exact HA.out.kept (belowA _ _)
      have hTb : Z.heap[wr.heap.size]? = some (.cells #[.int .i64 t.k, .int .i64 t.n, .string t.s, .int .i64 (t.off + (d : Int))] 55 (0, 0)) := by rw [hZ]; exact heap_alloc_new wr _
      have t0 : Z.cell? ⟨wr.heap.size, 0, none⟩ = some (.int .i64 t.k) := by simp [World.cell?, hTb]
      have t1 : Z.cell? ⟨wr.heap.size, 1, none⟩ = some (.int .i64 t.n) := by simp [World.cell?, hTb]
      have t2 : Z.cell? ⟨wr.heap.size, 2, none⟩ = some (.string t.s) := by simp [World.cell?, hTb]
      have t3 : Z.cell? ⟨wr.heap.size, 3, none⟩ = some (.int .i64 (t.off + (d : Int))) := by simp [World.cell?, hTb]
      obtain ⟨-, k1, -, -, -, -⟩ := box3_cells HAZ.out.b1
      have HU := hide (HAZ.out.kept (belowA Z (.cells #[.int .i64 t.k, .int .i64 t.n, .string t.s, .int .i64 (t.off + (d : Int))] 55)))
      have HEl : Hid (elTrm.ok (Z.alloc (.cells #[.int .i64 t.k, .int .i64 t.n, .string t.s, .int .i64 (t.off + (d : Int))] 55)) (fun b => W0.heap.size + 2 ≤ b ∧ (Value.slice va j vc).ownBlock ≠ some b) (shTrm d t)) := ⟨HOk.out.1, HI.out⟩
      rw [← hZ]
      clear hZ hTb y0 y1 y2 y3 HAZ
      go_wp2_with (at_builtin; obtain ⟨i0, hi0', hz0, hz1, hz2⟩ := info_parts Tryd.infoTerm; refine wpList_push (w0 := Z.alloc (.cells #[.int .i64 t.k, .int .i64 t.n, .string t.s, .int .i64 (t.off + (d : Int))] 55)) elTrm rfl _ _ 30 rfl (W0.heap.size + 2) 55 i0 _ 40 Tryd.underlying30 hi0' hz0 hz1 hz2 rfl (by decide) _ acc j HLn.out rfl HU.out.gr (shTrm d t) Z.heap.size 1 rfl (fun j u hu => new_cells (w := Z) (cs := #[.int .i64 t.k, .int .i64 t.n, .string t.s, .int .i64 (t.off + (d : Int))]) (t := 55) j u hu) HEl.out hjm (Below.refl _ _) HU.out.hi ?_; intro g7 c7 W7 HG7 HB7 HGr7; have hfar := HU.out.far HGr7.out; have HA7 := hide (HU.out.push HGr7.out HG7.out); obtain ⟨-, d1, -, -, d4, -⟩ := box3_cells hfar; clear HU HEl HGr7 hi0' hz0 hz1 hz2 hfar HB7 HG7)
      go_roundw
      case rel => exact ⟨j + 1, acc ++ [shTrm d t], some ⟨g7, 0, none⟩, c7, by omega, by go_num, by show _ = _; rw [List.length_append, HLn.out]; rfl, by show _ = _; rw [HSn.out, HAc.out], HA7⟩
      case measure => simp [intOf]; omega
    · obtain rfl : j = q := by omega
      have hi : ¬ (j : Int) < (j : Int) := by omega
      obtain ⟨k0, k1, k2, f0, f1, f2⟩ := box3_cells HA.out.b0
      obtain ⟨m0, m1, m2, -, -, -⟩ := box3_cells HA.out.b1
      have HFin := hide (HA.out.fin (by rw [HLn.out]; exact hlen) HAp.out HO.out)
      go_wp2
      refine bodyPost_ret (shRes _ W0.heap.size (.string ap) (.slice va j vc) (.int .i64 (aoff + (d : Int))) _ rfl HFin.out.1) rfl ⟨⟨ap, .slice va j vc, aoff + (d : Int), acc⟩, rfl, ?_, ?_, ?_⟩
      · show (⟨ap, acc, aoff + (d : Int)⟩ : PAtom) = ⟨ap, ats.map (shTrm d), aoff + (d : Int)⟩
        rw [HAc.out, List.take_of_length_le (by rw [← HQ.out]; omega)]
      · exact elAtx.move HFin.out.2.2 fun b hb hF => ⟨by have h9 : W0.heap.size ≤ b := hF; have := HZ.out; omega, rfl⟩
      · exact belowt2 HB0.out HFin.out.2.1
end Go.Proofs.YtfbmddgjbmapiaaDoor

namespace Go.Proofs.YtfbmddgjbmapiaaDoor
set_option linter.unusedSimpArgs false
set_option linter.unusedVariables false
open Go.RowKit

/-- A literal whose offsets can go up by a number. -/
def ShOk (d : Nat) (x : Lix) : Prop := I64 (x.off + (d : Int)) ∧ (x.k = 3 → x.a.ts = [] ∧ I64 (x.l.off + (d : Int)) ∧ I64 (x.r.off + (d : Int))) ∧ (x.k ≠ 3 → I64 (x.a.off + (d : Int)) ∧ ∀ t ∈ x.a.ts, I64 (t.off + (d : Int)))

theorem lst_empty {α : Type} {E : El α} {w w' : World} {F G : Nat → Prop} {v : Value} (h : Lst E w F v []) : Lst E w' G v [] := by
  obtain ⟨ao, cap, e, h1, h2, h3, h4, h5⟩ := h
  exact ⟨ao, cap, e, h1, h2, h3, fun x hx => absurd hx (by simp), fun hp => absurd hp (by simp)⟩
theorem shTrm_ok {d : Nat} {t : Trm} (h : t.ok) (ho : I64 (t.off + (d : Int))) : (shTrm d t).ok := ⟨h.1, ho⟩
theorem box14_at {V : World} {b : Nat} {u0 u1 u2 u3 u4 u5 u6 u7 u8 u9 u10 u11 u12 u13 : Value} (h : V.heap[b]? = some (.cells #[u0, u1, u2, u3, u4, u5, u6, u7, u8, u9, u10, u11, u12, u13] 57 (0, 0))) (x1 x2 x3 : Value) :
    (((V.setCell ⟨b, 1, none⟩ x1).setCell ⟨b, 2, none⟩ x2).setCell ⟨b, 3, none⟩ x3).heap[b]? = some (.cells #[u0, x1, x2, x3, u4, u5, u6, u7, u8, u9, u10, u11, u12, u13] 57 (0, 0)) := by
  simp [World.setCell, Array.getElem?_modify, h]

set_option maxRecDepth 100000 in
set_option maxHeartbeats 8000000 in
theorem shiftBody_by (d : Nat) (hd : d < 1000000) {w : World} {F : Nat → Prop} {v : Value} {ls : List Lix} (h : Lst elLix w F v ls) (hs : ∀ x ∈ ls, ShOk d x) :
    Calls Tryd.prog 7 #[v, .int .i64 (d : Int)] w fun e w' => ∃ bv, e = .returned bv ∧ ∃ ms, ms.map Lix.pur = (ls.map Lix.pur).map (shLi d) ∧ Lst elLix w' (fun b => w.heap.size ≤ b) bv ms ∧ Below w.heap.size w w' := by
  obtain ⟨la, lc, rfl, -, -, hlen⟩ := h.shape
  have HL := hide h.all
  have HS := hide hs
  obtain ⟨q, hq⟩ : ∃ q, q = ls.length := ⟨_, rfl⟩
  rw [← hq] at hlen HL ⊢
  have HQ := hide hq
  clear h hs hq
  go_enter Tryd.func7, Tryd.ntmps7
  go_wp2
  go_loopw [5, 10] (fun ov i wl => ∃ (j : Nat) (ms : List Lix), j ≤ q ∧ i = .int .i64 j ∧ Hid (ms.length = j) ∧ Hid (ms.map Lix.pur = (ls.take j).map (fun x => shLi d x.pur)) ∧ Hid (Below w.heap.size w wl) ∧ Hid (Grow elLix 57 w.heap.size wl ov ms)) (fun _ i _ => q - (intOf i).toNat)
  case atStart => exact ⟨0, [], by omega, rfl, rfl, rfl, Below.refl _ _, Grow.nil _ _ _ _⟩
  case round =>
    obtain ⟨j, ms, hj, rfl, HLn, HMs, HBl, HGl⟩ := hrel
    obtain ⟨oa, oc, rfl, -⟩ := HGl.out.shape
    rw [HLn.out]
    rw [HLn.out] at HGl
    by_cases hlt : j < q
    · have hi : (j : Int) < (q : Int) := by omega
      have hi0 : (0 : Int) ≤ (j : Int) := by omega
      obtain ⟨x, hx⟩ : ∃ x, ls[j]? = some x := ⟨_, List.getElem?_eq_getElem (by rw [← HQ.out]; exact hlt)⟩
      have hok := HL.out.ok (List.mem_of_getElem? hx)
      obtain ⟨s1, s2, s3⟩ := HS.out x (List.mem_of_getElem? hx)
      obtain ⟨b3, o3, rfl, -, -, hr3⟩ := HL.out.row (by rw [← HQ.out]; omega)
      have y0 := kept_cell HBl.out (hr3 j _ hx 0 _ rfl)
      have y1 := kept_cell HBl.out (hr3 j _ hx 1 _ rfl)
      have y2 := kept_cell HBl.out (hr3 j _ hx 2 _ rfl)
      have y3 := kept_cell HBl.out (hr3 j _ hx 3 _ rfl)
      have y4 := kept_cell HBl.out (hr3 j _ hx 4 _ rfl)
      have y5 := kept_cell HBl.out (hr3 j _ hx 5 _ rfl)
      have y6 := kept_cell HBl.out (hr3 j _ hx 6 _ rfl)
      have y7 := kept_cell HBl.out (hr3 j _ hx 7 _ rfl)
      have y8 := kept_cell HBl.out (hr3 j _ hx 8 _ rfl)
      have y9 := kept_cell HBl.out (hr3 j _ hx 9 _ rfl)
      have y10 := kept_cell HBl.out (hr3 j _ hx 10 _ rfl)
      have y11 := kept_cell HBl.out (hr3 j _ hx 11 _ rfl)
      have y12 := kept_cell HBl.out (hr3 j _ hx 12 _ rfl)
      have y13 := kept_cell HBl.out (hr3 j _ hx 13 _ rfl)
      have HSn : Hid ((ls.take (j + 1)).map (fun x => shLi d x.pur) = (ls.take j).map (fun x => shLi d x.pur) ++ [shLi d x.pur]) := shTake_snoc (f := fun x : Lix => shLi d x.pur) hx
      obtain ⟨lk, ⟨ap, av, aoff, ats⟩, lop, ll, lr, loff⟩ := x
      simp only [elLix, Nat.add_zero] at y0 y1 y2 y3 y4 y5 y6 y7 y8 y9 y10 y11 y12 y13
      simp only at s1 s2 s3
      obtain ⟨p1, p2⟩ := i64_parts s1
      have HA0 := hide (show elAtx.ok w _ ⟨ap, av, aoff, ats⟩ from hok.2.1)
      obtain ⟨xa, xc, rfl, -⟩ := (show Lst elTrm w _ av ats from hok.2.1.2.2).shape
      have HOk := hide hok
      have HI := hide s1
      clear hr3 hx hok s1
      have hjm : j + 1 < 1073741824 := by omega
      by_cases hk : lk = 3
      · have ek : (lk == 3) = true := by simpa using hk
        obtain ⟨z0, z1, z2⟩ := s2 hk
        obtain rfl : ats = [] := z0
        have HZ1 := hide z1
        have HZ2 := hide z2
        obtain ⟨a1, a2⟩ := i64_parts z1
        obtain ⟨e1, e2⟩ := i64_parts z2
        have HPur : Hid (Lix.pur ⟨lk, ⟨ap, .slice xa 0 xc, aoff, []⟩, lop, shTrm d ll, shTrm d lr, loff + (d : Int)⟩ = shLi d (Lix.pur ⟨lk, ⟨ap, .slice xa ([] : List Trm).length xc, aoff, []⟩, lop, ll, lr, loff⟩)) := by
          show _ = _
          unfold shLi
          rw [if_pos (show (Lix.pur ⟨lk, ⟨ap, .slice xa ([] : List Trm).length xc, aoff, []⟩, lop, ll, lr, loff⟩).k = 3 from hk)]
          rfl
        clear hk s2 s3
        go_upto_region 10 with fail
        obtain ⟨V, hV⟩ : ∃ V, V = wr.alloc (.cells #[.int .i64 lk, .string ap, .slice xa 0 xc, .int .i64 aoff, .int .i64 lop, .int .i64 ll.k, .int .i64 ll.n, .string ll.s, .int .i64 (ll.off + (d : Int)), .int .i64 lr.k, .int .i64 lr.n, .string lr.s, .int .i64 (lr.off + (d : Int)), .int .i64 (loff + (d : Int))] 57) := ⟨_, rfl⟩
        have hVb : V.heap[wr.heap.size]? = some (.cells #[.int .i64 lk, .string ap, .slice xa 0 xc, .int .i64 aoff, .int .i64 lop, .int .i64 ll.k, .int .i64 ll.n, .string ll.s, .int .i64 (ll.off + (d : Int)), .int .i64 lr.k, .int .i64 lr.n, .string lr.s, .int .i64 (lr.off + (d : Int)), .int .i64 (loff + (d : Int))] 57 (0, 0)) := by rw [hV]; exact heap_alloc_new wr _
        obtain ⟨⟨c0, c1, c2, c3, c4, c5, c6, c7, c8, c9, c10, c11, c12, c13⟩, -⟩ := boxL_cells hVb
        have HBV : Hid (Below wr.heap.size wr V) := by rw [hV]; exact belowA _ _
        have HG2 := hide ((HGl.out.kept HBV.out).kept (belowA V (.cells #[.int .i64 lk, .string ap, .slice xa 0 xc, .int .i64 aoff, .int .i64 lop, .int .i64 ll.k, .int .i64 ll.n, .string ll.s, .int .i64 (ll.off + (d : Int)), .int .i64 lr.k, .int .i64 lr.n, .string lr.s, .int .i64 (lr.off + (d : Int)), .int .i64 (loff + (d : Int))] 57)))
        have HEl : Hid (elLix.ok (V.alloc (.cells #[.int .i64 lk, .string ap, .slice xa 0 xc, .int .i64 aoff, .int .i64 lop, .int .i64 ll.k, .int .i64 ll.n, .string ll.s, .int .i64 (ll.off + (d : Int)), .int .i64 lr.k, .int .i64 lr.n, .string lr.s, .int .i64 (lr.off + (d : Int)), .int .i64 (loff + (d : Int))] 57)) (fun b => w.heap.size ≤ b ∧ (Value.slice oa j oc).ownBlock ≠ some b) ⟨lk, ⟨ap, .slice xa 0 xc, aoff, []⟩, lop, shTrm d ll, shTrm d lr, loff + (d : Int)⟩) := ⟨HOk.out.1, ⟨HA0.out.1, HA0.out.2.1, lst_empty (show Lst elTrm w _ _ [] from HA0.out.2.2)⟩, HOk.out.2.2.1, shTrm_ok HOk.out.2.2.2.1 HZ1.out, shTrm_ok HOk.out.2.2.2.2.1 HZ2.out, HI.out⟩
        have HW2 := hide (belowt2 (belowt2 HBl.out HBV.out) (belowA V (.cells #[.int .i64 lk, .string ap, .slice xa 0 xc, .int .i64 aoff, .int .i64 lop, .int .i64 ll.k, .int .i64 ll.n, .string ll.s, .int .i64 (ll.off + (d : Int)), .int .i64 lr.k, .int .i64 lr.n, .string lr.s, .int .i64 (lr.off + (d : Int)), .int .i64 (loff + (d : Int))] 57)))
        rw [← hV]
        clear hV hVb y0 y1 y2 y3 y4 y5 y6 y7 y8 y9 y10 y11 y12 y13
        go_wp2_with (at_builtin; obtain ⟨i0, hi0', hz0, hz1, hz2⟩ := info_parts Tryd.infoLit; refine wpList_push (w0 := w) elLix rfl _ _ 33 rfl w.heap.size 57 i0 _ 152 Tryd.underlying33 hi0' hz0 hz1 hz2 rfl (by decide) _ ms j HLn.out rfl HG2.out ⟨lk, ⟨ap, .slice xa 0 xc, aoff, []⟩, lop, shTrm d ll, shTrm d lr, loff + (d : Int)⟩ V.heap.size 1 rfl (fun j u hu => new_cells (w := V) (cs := (elLix.cells ⟨lk, ⟨ap, .slice xa 0 xc, aoff, []⟩, lop, shTrm d ll, shTrm d lr, loff + (d : Int)⟩).toArray) (t := 57) j u hu) HEl.out hjm HW2.out HW2.out.size ?_; intro g7 c7 W7 HG7 HB7 HGr7; clear HG2 HEl HW2 HGr7 hi0' hz0 hz1 hz2)
        go_roundw
        case rel => exact ⟨j + 1, ms ++ [⟨lk, ⟨ap, .slice xa 0 xc, aoff, []⟩, lop, shTrm d ll, shTrm d lr, loff + (d : Int)⟩], by omega, by go_num, by show _ = _; rw [List.length_append, HLn.out]; rfl, by show _ = _; rw [List.map_append, HSn.out, HMs.out, List.map_singleton, HPur.out], HB7, HG7⟩
        case measure => simp [intOf]; omega
      · have ek : (lk == 3) = false := by simpa using hk
        obtain ⟨z1, z2⟩ := s3 hk
        have HK := hide hk
        have HZ1 := hide z1
        have HZ2 := hide z2
        clear hk s2 s3 z1 z2
        go_upto_region 9 with fail
        obtain ⟨U, hU⟩ : ∃ U, U = wr.alloc (.cells #[.int .i64 lk, .string ap, .slice xa ats.length xc, .int .i64 aoff, .int .i64 lop, .int .i64 ll.k, .int .i64 ll.n, .string ll.s, .int .i64 ll.off, .int .i64 lr.k, .int .i64 lr.n, .string lr.s, .int .i64 lr.off, .int .i64 (loff + (d : Int))] 57) := ⟨_, rfl⟩
        have hUb : U.heap[wr.heap.size]? = some (.cells #[.int .i64 lk, .string ap, .slice xa ats.length xc, .int .i64 aoff, .int .i64 lop, .int .i64 ll.k, .int .i64 ll.n, .string ll.s, .int .i64 ll.off, .int .i64 lr.k, .int .i64 lr.n, .string lr.s, .int .i64 lr.off, .int .i64 (loff + (d : Int))] 57 (0, 0)) := by rw [hU]; exact heap_alloc_new wr _
        have HUb := hide hUb
        have HBU : Hid (Below wr.heap.size wr U) := by rw [hU]; exact belowA _ _
        have hUs : U.heap.size = wr.heap.size + 1 := by rw [hU]; simp
        have HUs := hide hUs
        have hSa := shiftAtom_by d hd (w := U) (F := fun _ => True) ⟨ap, .slice xa ats.length xc, aoff, ats⟩ (elAtx.kept (elAtx.all (HA0.out)) (belowt2 HBl.out HBU.out)) HZ1.out HZ2.out
        unfold Atx.val at hSa
        have HSa := hide hSa
        obtain ⟨⟨c0, c1, c2, c3, c4, c5, c6, c7, c8, c9, c10, c11, c12, c13⟩, -⟩ := boxL_cells hUb
        rw [← hU]
        clear hU hUb hUs hSa y0 y1 y2 y3 y4 y5 y6 y7 y8 y9 y10 y11 y12 y13
        go_upto_region 10 with (go_at_call 6; refine HSa.out.mono ?_; intro e w2 hq; obtain ⟨⟨bp, bv, boff, bts⟩, rfl, hpur, hok, hb2⟩ := hq; obtain ⟨ba, bc, rfl, -⟩ := (show Lst elTrm _ _ bv bts from hok.2.2).shape; have HPu := hide hpur; have HOkB := hide hok; have HB2 := hide hb2; have h2b := (hb2.block _ (Array.getElem?_eq_some_iff.1 HUb.out).1).trans HUb.out; have H2b := hide h2b; obtain ⟨-, f0, f1, f2, f3, f4, f5, f6, f7, f8, f9, f10, f11, f12, f13⟩ := boxL_cells h2b; have d1 := kept_cell hb2 c1; have d2 := kept_cell hb2 c2; have d3 := kept_cell hb2 c3; clear hpur hok hb2 h2b)
        obtain ⟨V, hV⟩ : ∃ V, V = ((w2.setCell ⟨wr.heap.size, 1, none⟩ (.string bp)).setCell ⟨wr.heap.size, 2, none⟩ (.slice ba bts.length bc)).setCell ⟨wr.heap.size, 3, none⟩ (.int .i64 boff) := ⟨_, rfl⟩
        have hVb : V.heap[wr.heap.size]? = some (.cells #[.int .i64 lk, .string bp, .slice ba bts.length bc, .int .i64 boff, .int .i64 lop, .int .i64 ll.k, .int .i64 ll.n, .string ll.s, .int .i64 ll.off, .int .i64 lr.k, .int .i64 lr.n, .string lr.s, .int .i64 lr.off, .int .i64 (loff + (d : Int))] 57 (0, 0)) := by rw [hV]; exact box14_at H2b.out _ _ _
        have hoV : Only (fun k => k = wr.heap.size) w2 V := by
          rw [hV]
          exact (((Only.refl (fun k => k = wr.heap.size) w2).setCell (p := ⟨wr.heap.size, 1, none⟩) rfl _).setCell (p := ⟨wr.heap.size, 2, none⟩) rfl _).setCell (p := ⟨wr.heap.size, 3, none⟩) rfl _
        have HBV : Hid (Below wr.heap.size wr V) := by
          have hs := (belowt2 HBU.out HB2.out).size
          exact (belowt2 HBU.out HB2.out).trans (hoV.below hs (fun k hk e => by omega))
        have HOkV : Hid (elAtx.ok V (fun b => wr.heap.size ≤ b) ⟨bp, .slice ba bts.length bc, boff, bts⟩) := by
          have h8 := HUs.out
          exact elAtx.move HOkB.out fun b hlt hF => ⟨by have h9 : U.heap.size ≤ b := hF; omega, hoV.block b hlt (by have h9 : U.heap.size ≤ b := hF; omega)⟩
        clear c0 c1 c2 c3 c4 c5 c6 c7 c8 c9 c10 c11 c12 c13
        obtain ⟨⟨c0, c1, c2, c3, c4, c5, c6, c7, c8, c9, c10, c11, c12, c13⟩, -⟩ := boxL_cells hVb
        have HG2 := hide ((HGl.out.kept HBV.out).kept (belowA V (.cells #[.int .i64 lk, .string bp, .slice ba bts.length bc, .int .i64 boff, .int .i64 lop, .int .i64 ll.k, .int .i64 ll.n, .string ll.s, .int .i64 ll.off, .int .i64 lr.k, .int .i64 lr.n, .string lr.s, .int .i64 lr.off, .int .i64 (loff + (d : Int))] 57)))
        have HEl := hide (HGl.out.behind HBl.out.size elLix (show elLix.ok (V.alloc (.cells #[.int .i64 lk, .string bp, .slice ba bts.length bc, .int .i64 boff, .int .i64 lop, .int .i64 ll.k, .int .i64 ll.n, .string ll.s, .int .i64 ll.off, .int .i64 lr.k, .int .i64 lr.n, .string lr.s, .int .i64 lr.off, .int .i64 (loff + (d : Int))] 57)) (fun b => wr.heap.size ≤ b) ⟨lk, ⟨bp, .slice ba bts.length bc, boff, bts⟩, lop, ll, lr, loff + (d : Int)⟩ from ⟨HOk.out.1, elAtx.move HOkV.out fun b hlt hF => ⟨hF, (belowA V (.cells #[.int .i64 lk, .string bp, .slice ba bts.length bc, .int .i64 boff, .int .i64 lop, .int .i64 ll.k, .int .i64 ll.n, .string ll.s, .int .i64 ll.off, .int .i64 lr.k, .int .i64 lr.n, .string lr.s, .int .i64 lr.off, .int .i64 (loff + (d : Int))] 57)).block b hlt⟩, HOk.out.2.2.1, HOk.out.2.2.2.1, HOk.out.2.2.2.2.1, HI.out⟩))
        have HW2 := hide (belowt2 (belowt2 HBl.out HBV.out) (belowA V (.cells #[.int .i64 lk, .string bp, .slice ba bts.length bc, .int .i64 boff, .int .i64 lop, .int .i64 ll.k, .int .i64 ll.n, .string ll.s, .int .i64 ll.off, .int .i64 lr.k, .int .i64 lr.n, .string lr.s, .int .i64 lr.off, .int .i64 (loff + (d : Int))] 57)))
        have HPur : Hid (Lix.pur ⟨lk, ⟨bp, .slice ba bts.length bc, boff, bts⟩, lop, ll, lr, loff + (d : Int)⟩ = shLi d (Lix.pur ⟨lk, ⟨ap, .slice xa ats.length xc, aoff, ats⟩, lop, ll, lr, loff⟩)) := by
          show _ = _
          unfold shLi
          rw [if_neg (show ¬ (Lix.pur ⟨lk, ⟨ap, .slice xa ats.length xc, aoff, ats⟩, lop, ll, lr, loff⟩).k = 3 from HK.out)]
          show (⟨lk, Atx.pur ⟨bp, .slice ba bts.length bc, boff, bts⟩, lop, ll, lr, loff + (d : Int)⟩ : PLit) = _
          rw [HPu.out]
          rfl
        rw [← hV]
        clear hV hVb hoV HSa HUb H2b HOkB HOkV d1 d2 d3
        go_wp2_with (at_builtin; obtain ⟨i0, hi0', hz0, hz1, hz2⟩ := info_parts Tryd.infoLit; refine wpList_push (w0 := w) elLix rfl _ _ 33 rfl w.heap.size 57 i0 _ 152 Tryd.underlying33 hi0' hz0 hz1 hz2 rfl (by decide) _ ms j HLn.out rfl HG2.out ⟨lk, ⟨bp, .slice ba bts.length bc, boff, bts⟩, lop, ll, lr, loff + (d : Int)⟩ V.heap.size 1 rfl (fun j u hu => new_cells (w := V) (cs := (elLix.cells ⟨lk, ⟨bp, .slice ba bts.length bc, boff, bts⟩, lop, ll, lr, loff + (d : Int)⟩).toArray) (t := 57) j u hu) HEl.out hjm HW2.out HW2.out.size ?_; intro g7 c7 W7 HG7 HB7 HGr7; clear HG2 HEl HW2 HGr7 hi0' hz0 hz1 hz2)
        go_roundw
        case rel => exact ⟨j + 1, ms ++ [⟨lk, ⟨bp, .slice ba bts.length bc, boff, bts⟩, lop, ll, lr, loff + (d : Int)⟩], by omega, by go_num, by show _ = _; rw [List.length_append, HLn.out]; rfl, by show _ = _; rw [List.map_append, HSn.out, HMs.out, List.map_singleton, HPur.out], HB7, HG7⟩
        case measure => simp [intOf]; omega
    · obtain rfl : j = q := by omega
      have hi : ¬ (j : Int) < (j : Int) := by omega
      go_wp2
      go_ret
      refine ⟨_, rfl, ms, ?_, HGl.out.new (by rw [HLn.out]; omega), HBl.out⟩
      rw [HMs.out, List.take_of_length_le (by rw [← HQ.out]; omega)]
      rfl
end Go.Proofs.YtfbmddgjbmapiaaDoor

namespace Go.Proofs.YtfbmddgjbmapiaaDoor
set_option linter.unusedSimpArgs false
set_option linter.unusedVariables false
open Go.RowKit

theorem neqTrmSame (a : Trm) (w : World) : (binOp .neq 55 (.agg #[.int .i64 a.k, .int .i64 a.n, .string a.s, .int .i64 a.off]) (.agg #[.int .i64 a.k, .int .i64 a.n, .string a.s, .int .i64 a.off])).run Tryd.prog w = .ok (.bool false) w := by
  have h1 := run_equalIn_struct (P := Tryd.prog) w 9999 55 #[.int .i64 a.k, .int .i64 a.n, .string a.s, .int .i64 a.off] #[.int .i64 a.k, .int .i64 a.n, .string a.s, .int .i64 a.off] (by kernel_rfl) (by kernel_rfl)
  simp only [binOp]
  simp only [Op.equal, Op.maxDepth, Sem.run_bind]
  go_simp

set_option maxRecDepth 100000 in
set_option maxHeartbeats 1000000 in
theorem sameAtom_any {w : World} {F G : Nat → Prop} (pr : ByteArray) (off : Int) (ts : List Trm) (v1 v2 : Value) (h1 : Lst elTrm w F v1 ts) (h2 : Lst elTrm w G v2 ts) :
    Calls Tryd.prog 17 #[.agg #[.string pr, v1, .int .i64 off], .agg #[.string pr, v2, .int .i64 off]] w fun e w' => e = .returned (.bool true) ∧ Below w.heap.size w w' := by
  obtain ⟨a1, c1, rfl, -, -, hlen⟩ := h1.shape
  obtain ⟨a2, c2, rfl, -⟩ := h2.shape
  have HH1 := hide h1
  have HH2 := hide h2
  clear h1 h2
  have hq : (off != off) = false := by simp
  have hps : (pr.toList != pr.toList) = false := by simp
  go_enter Tryd.func17, Tryd.ntmps17
  go_wp2
  obtain ⟨Y, hY⟩ : ∃ Y, Y = (w.alloc (.cells #[.string pr, .slice a1 ts.length c1, .int .i64 off] 32)).alloc (.cells #[.string pr, .slice a2 ts.length c2, .int .i64 off] 32) := ⟨_, rfl⟩
  have HB0 : Hid (Below w.heap.size w Y) := by rw [hY]; exact below2a _ _ _
  have HP : Hid (Y.cell? ⟨w.heap.size, 1, none⟩ = some (.slice a1 ts.length c1) ∧ Y.cell? ⟨w.heap.size + 1, 1, none⟩ = some (.slice a2 ts.length c2)) := by
    show _ ∧ _
    rw [hY]
    constructor <;> simp
  rw [← hY]
  clear hY
  go_loopw [30] (fun i wl => ∃ k : Nat, k ≤ ts.length ∧ i = .int .i64 k ∧ Hid (Below Y.heap.size Y wl)) (fun i _ => ts.length - (intOf i).toNat)
  case atStart => exact ⟨0, by omega, rfl, Below.refl _ _⟩
  case round =>
    obtain ⟨k, hk, rfl, HB⟩ := hrel
    have HBw := hide (HB0.out.trans (HB.out.mono HB0.out.size))
    have p1 := kept_cell HB.out HP.out.1
    have p2 := kept_cell HB.out HP.out.2
    by_cases hlt : k < ts.length
    · have hi : (k : Int) < (ts.length : Int) := by omega
      have hi0 : (0 : Int) ≤ (k : Int) := by omega
      obtain ⟨b1, o1, rfl, -, -, hr1⟩ := HH1.out.row (by omega)
      obtain ⟨b2, o2, rfl, -, -, hr2⟩ := HH2.out.row (by omega)
      obtain ⟨x, hx⟩ : ∃ x, ts[k]? = some x := ⟨_, List.getElem?_eq_getElem hlt⟩
      have x0 := over_cell (kept_cell HBw.out (hr1 k x hx 0 _ rfl))
      have x1 := over_cell (kept_cell HBw.out (hr1 k x hx 1 _ rfl))
      have x2 := over_cell (kept_cell HBw.out (hr1 k x hx 2 _ rfl))
      have x3 := over_cell (kept_cell HBw.out (hr1 k x hx 3 _ rfl))
      have y0 := over_cell (kept_cell HBw.out (hr2 k x hx 0 _ rfl))
      have y1 := over_cell (kept_cell HBw.out (hr2 k x hx 1 _ rfl))
      have y2 := over_cell (kept_cell HBw.out (hr2 k x hx 2 _ rfl))
      have y3 := over_cell (kept_cell HBw.out (hr2 k x hx 3 _ rfl))
      simp only [elTrm, Nat.add_zero] at x0 x1 x2 x3 y0 y1 y2 y3
      have hs := neqTrmSame x
      clear hr1 hr2 hx
      go_wp2
      refine wp_region_over (fun W => W = wr) (by kernel_rfl) (by kernel_rfl) rfl ?_
      rintro W rfl
      have p1' := over_cell p1
      have p2' := over_cell p2
      clear p1 p2
      repeat (go_big_quiet_step (first | fail))
      refine wpQuiet_nil ?_
      rintro _ ⟨z, rfl⟩
      have HB3 := hide (HB.out.trans ((over_below W z).mono HB.out.size))
      clear x0 x1 x2 x3 y0 y1 y2 y3 p1' p2'
      go_wp2
      go_roundw
      case rel => exact ⟨k + 1, by omega, by go_num, HB3⟩
      case measure => simp [intOf]; omega
    · obtain rfl : k = ts.length := by omega
      have hi : ¬ (ts.length : Int) < (ts.length : Int) := by omega
      go_wp2
      go_ret
      exact ⟨rfl, HBw.out⟩

end Go.Proofs.YtfbmddgjbmapiaaDoor

namespace Go.Proofs.YtfbmddgjbmapiaaDoor
set_option linter.unusedSimpArgs false
set_option linter.unusedVariables false
open Go.RowKit

theorem pur_at {α β : Type} {f : α → β} {l m : List α} (h : l.map f = m.map f) {k : Nat} {x y : α} (hx : l[k]? = some x) (hy : m[k]? = some y) : f x = f y := by
  have e := congrArg (fun z => z[k]?) h
  simp only [List.getElem?_map, hx, hy, Option.map_some, Option.some.injEq] at e
  exact e
set_option maxRecDepth 100000 in
set_option maxHeartbeats 2000000 in
theorem sameAtoms_any {w : World} {F G : Nat → Prop} {v1 v2 : Value} {l m : List Atx} (h1 : Lst elAtx w F v1 l) (h2 : Lst elAtx w G v2 m) (hp : l.map Atx.pur = m.map Atx.pur) :
    Calls Tryd.prog 11 #[v1, v2] w fun e w' => e = .returned (.bool true) ∧ Below w.heap.size w w' := by
  obtain ⟨a1, c1, rfl, -, -, hl1⟩ := h1.shape
  obtain ⟨a2, c2, rfl, -, -, hl2⟩ := h2.shape
  have hl : l.length = m.length := by have := congrArg List.length hp; simpa using this
  have H1 := hide h1.all
  have H2 := hide h2.all
  have HP := hide hp
  have HE := hide hl
  obtain ⟨n, hn⟩ : ∃ n, n = l.length := ⟨_, rfl⟩
  rw [← hl, ← hn]
  rw [← hn] at hl1
  rw [← hl] at H2
  rw [← hn] at H1 H2
  have HN := hide hn
  clear h1 h2 hp hl hl2 hn
  have hnn : ((n : Int) != (n : Int)) = false := by simp
  go_enter Tryd.func11, Tryd.ntmps11
  go_wp2
  go_loopw [13] (fun i wl => ∃ k : Nat, k ≤ n ∧ i = .int .i64 k ∧ Hid (Below w.heap.size w wl)) (fun i _ => n - (intOf i).toNat)
  case atStart => exact ⟨0, by omega, rfl, Below.refl _ _⟩
  case round =>
    obtain ⟨k, hk, rfl, HB⟩ := hrel
    by_cases hlt : k < n
    · have hi : (k : Int) < (n : Int) := by omega
      have hi0 : (0 : Int) ≤ (k : Int) := by omega
      obtain ⟨b, bo, rfl, -, -, hrow⟩ := H1.out.row (by have := HN.out; omega)
      obtain ⟨c, co, rfl, -, -, krow⟩ := H2.out.row (by have := HN.out; have := HE.out; omega)
      obtain ⟨x, hx⟩ : ∃ x, l[k]? = some x := ⟨_, List.getElem?_eq_getElem (by have := HN.out; omega)⟩
      obtain ⟨y, hy⟩ : ∃ y, m[k]? = some y := ⟨_, List.getElem?_eq_getElem (by have := HN.out; have := HE.out; omega)⟩
      have hpq := pur_at HP.out hx hy
      have x0 := over_cell (kept_cell HB.out (hrow k _ hx 0 _ rfl))
      have x1 := over_cell (kept_cell HB.out (hrow k _ hx 1 _ rfl))
      have x2 := over_cell (kept_cell HB.out (hrow k _ hx 2 _ rfl))
      have y0 := over_cell (kept_cell HB.out (krow k _ hy 0 _ rfl))
      have y1 := over_cell (kept_cell HB.out (krow k _ hy 1 _ rfl))
      have y2 := over_cell (kept_cell HB.out (krow k _ hy 2 _ rfl))
      have hxo := H1.out.ok (List.mem_of_getElem? hx)
      have hyo := H2.out.ok (List.mem_of_getElem? hy)
      obtain ⟨xp, xv, xoff, xts⟩ := x
      obtain ⟨yp, yv, yoff, yts⟩ := y
      simp only [elAtx, Nat.add_zero] at x0 x1 x2 y0 y1 y2
      simp only [Atx.pur, PAtom.mk.injEq] at hpq
      obtain ⟨rfl, rfl, rfl⟩ := hpq
      have HS := hide (fun x => sameAtom_any xp xoff xts xv yv (((show Lst elTrm w (fun _ => True) xv xts from hxo.2.2).kept HB.out).kept (over_below _ x)) (((show Lst elTrm w (fun _ => True) yv xts from hyo.2.2).kept HB.out).kept (over_below _ x)))
      obtain ⟨xa, xc, rfl, -⟩ := (show Lst elTrm w (fun _ => True) xv xts from hxo.2.2).shape
      obtain ⟨ya, yc, rfl, -⟩ := (show Lst elTrm w (fun _ => True) yv xts from hyo.2.2).shape
      clear hrow hx krow hy hxo hyo
      go_wp2
      refine wp_region_over (fun W => W = wr) (by kernel_rfl) (by kernel_rfl) rfl ?_
      rintro W rfl
      repeat (go_big_quiet_step (first | (go_at_call 17; exact calls_over (HS.out _))))
      refine wpQuiet_nil ?_
      rintro _ ⟨z, rfl⟩
      have HB3 := hide (HB.out.trans ((over_below W z).mono HB.out.size))
      clear x0 x1 x2 y0 y1 y2 HS
      go_wp2
      go_roundw
      case rel => exact ⟨k + 1, by omega, by go_num, HB3⟩
      case measure => simp [intOf]; omega
    · obtain rfl : k = n := by omega
      have hi : ¬ (k : Int) < (k : Int) := by omega
      go_wp2
      go_ret
      exact ⟨rfl, HB.out⟩
end Go.Proofs.YtfbmddgjbmapiaaDoor

namespace Go.Proofs.YtfbmddgjbmapiaaDoor
set_option linter.unusedSimpArgs false
set_option linter.unusedVariables false
open Go.RowKit

theorem bx_first (w : World) (x y : Obj) : ((w.alloc x).alloc y).drew.heap[w.heap.size]? = some x := by
  show ((w.alloc x).alloc y).heap[w.heap.size]? = some x
  rw [(belowA (w.alloc x) y).block _ (by simp)]; exact heap_alloc_new w _
theorem bx_second (w : World) (x y : Obj) : ((w.alloc x).alloc y).drew.heap[w.heap.size + 1]? = some y := by
  have := heap_alloc_new (w.alloc x) y
  show ((w.alloc x).alloc y).heap[w.heap.size + 1]? = some y
  simpa using this
set_option maxRecDepth 100000 in
set_option maxHeartbeats 8000000 in
theorem sameBody_any {w : World} {F G : Nat → Prop} {v1 v2 : Value} {l m : List Lix} (h1 : Lst elLix w F v1 l) (h2 : Lst elLix w G v2 m) (hp : l.map Lix.pur = m.map Lix.pur) :
    Calls Tryd.prog 18 #[v1, v2] w fun e w' => e = .returned (.bool true) ∧ Below w.heap.size w w' := by
  obtain ⟨a1, c1, rfl, -, -, hl1⟩ := h1.shape
  obtain ⟨a2, c2, rfl, -, -, hl2⟩ := h2.shape
  have hl : l.length = m.length := by have := congrArg List.length hp; simpa using this
  have H1 := hide h1.all
  have H2 := hide h2.all
  have HP := hide hp
  have HE := hide hl
  obtain ⟨n, hn⟩ : ∃ n, n = l.length := ⟨_, rfl⟩
  rw [← hl, ← hn]
  rw [← hn] at hl1
  rw [← hl] at H2
  rw [← hn] at H1 H2
  have HN := hide hn
  clear h1 h2 hp hl hl2 hn
  have hnn : ((n : Int) != (n : Int)) = false := by simp
  go_enter Tryd.func18, Tryd.ntmps18
  go_wp2
  go_loopw [15] (fun i wl => ∃ k : Nat, k ≤ n ∧ i = .int .i64 k ∧ Hid (Below w.heap.size w wl)) (fun i _ => n - (intOf i).toNat)
  case atStart => exact ⟨0, by omega, rfl, Below.refl _ _⟩
  case round =>
    obtain ⟨k, hk, rfl, HB⟩ := hrel
    by_cases hlt : k < n
    · have hi : (k : Int) < (n : Int) := by omega
      have hi0 : (0 : Int) ≤ (k : Int) := by omega
      obtain ⟨b, bo, rfl, -, -, hrow⟩ := (H1.out.kept HB.out).row (by have := HN.out; omega)
      obtain ⟨c, co, rfl, -, -, krow⟩ := (H2.out.kept HB.out).row (by have := HN.out; have := HE.out; omega)
      obtain ⟨x, hx⟩ : ∃ x, l[k]? = some x := ⟨_, List.getElem?_eq_getElem (by have := HN.out; omega)⟩
      obtain ⟨y, hy⟩ : ∃ y, m[k]? = some y := ⟨_, List.getElem?_eq_getElem (by have := HN.out; have := HE.out; omega)⟩
      have hpq := pur_at HP.out hx hy
      have x0 := hrow k _ hx 0 _ rfl
      have x1 := hrow k _ hx 1 _ rfl
      have x2 := hrow k _ hx 2 _ rfl
      have x3 := hrow k _ hx 3 _ rfl
      have x4 := hrow k _ hx 4 _ rfl
      have x5 := hrow k _ hx 5 _ rfl
      have x6 := hrow k _ hx 6 _ rfl
      have x7 := hrow k _ hx 7 _ rfl
      have x8 := hrow k _ hx 8 _ rfl
      have x9 := hrow k _ hx 9 _ rfl
      have x10 := hrow k _ hx 10 _ rfl
      have x11 := hrow k _ hx 11 _ rfl
      have x12 := hrow k _ hx 12 _ rfl
      have x13 := hrow k _ hx 13 _ rfl
      have y0 := krow k _ hy 0 _ rfl
      have y1 := krow k _ hy 1 _ rfl
      have y2 := krow k _ hy 2 _ rfl
      have y3 := krow k _ hy 3 _ rfl
      have y4 := krow k _ hy 4 _ rfl
      have y5 := krow k _ hy 5 _ rfl
      have y6 := krow k _ hy 6 _ rfl
      have y7 := krow k _ hy 7 _ rfl
      have y8 := krow k _ hy 8 _ rfl
      have y9 := krow k _ hy 9 _ rfl
      have y10 := krow k _ hy 10 _ rfl
      have y11 := krow k _ hy 11 _ rfl
      have y12 := krow k _ hy 12 _ rfl
      have y13 := krow k _ hy 13 _ rfl
      have hxo := H1.out.ok (List.mem_of_getElem? hx)
      have hyo := H2.out.ok (List.mem_of_getElem? hy)
      obtain ⟨lk, ⟨ap, av, aoff, ats⟩, lop, ll, lr, loff⟩ := x
      obtain ⟨yk, ⟨yp, yv, yoff, yts⟩, yop, yl, yr, yof⟩ := y
      simp only [elLix, Nat.add_zero] at x0 x1 x2 x3 x4 x5 x6 x7 x8 x9 x10 x11 x12 x13 y0 y1 y2 y3 y4 y5 y6 y7 y8 y9 y10 y11 y12 y13
      simp only [Lix.pur, Atx.pur, PLit.mk.injEq, PAtom.mk.injEq] at hpq
      obtain ⟨rfl, ⟨rfl, rfl, rfl⟩, rfl, rfl, rfl, rfl⟩ := hpq
      have HS := hide (fun W (hb : Below wr.heap.size wr W) => sameAtom_any ap aoff ats av yv (((show Lst elTrm w (fun _ => True) av ats from hxo.2.1.2.2).kept HB.out).kept hb) (((show Lst elTrm w (fun _ => True) yv ats from hyo.2.1.2.2).kept HB.out).kept hb))
      obtain ⟨xa, xc, rfl, -⟩ := (show Lst elTrm w (fun _ => True) av ats from hxo.2.1.2.2).shape
      obtain ⟨ya, yc, rfl, -⟩ := (show Lst elTrm w (fun _ => True) yv ats from hyo.2.1.2.2).shape
      have HSc : Hid (∀ V : World, Below wr.heap.size wr V → V.cell? ⟨b, bo + k * 14, none⟩ = some (.int .i64 lk) ∧ V.cell? ⟨b, bo + k * 14 + 1, none⟩ = some (.string ap) ∧ V.cell? ⟨b, bo + k * 14 + 2, none⟩ = some (.slice xa ats.length xc) ∧ V.cell? ⟨b, bo + k * 14 + 3, none⟩ = some (.int .i64 aoff) ∧ V.cell? ⟨b, bo + k * 14 + 4, none⟩ = some (.int .i64 lop) ∧ V.cell? ⟨b, bo + k * 14 + 5, none⟩ = some (.int .i64 ll.k) ∧ V.cell? ⟨b, bo + k * 14 + 6, none⟩ = some (.int .i64 ll.n) ∧ V.cell? ⟨b, bo + k * 14 + 7, none⟩ = some (.string ll.s) ∧ V.cell? ⟨b, bo + k * 14 + 8, none⟩ = some (.int .i64 ll.off) ∧ V.cell? ⟨b, bo + k * 14 + 9, none⟩ = some (.int .i64 lr.k) ∧ V.cell? ⟨b, bo + k * 14 + 10, none⟩ = some (.int .i64 lr.n) ∧ V.cell? ⟨b, bo + k * 14 + 11, none⟩ = some (.string lr.s) ∧ V.cell? ⟨b, bo + k * 14 + 12, none⟩ = some (.int .i64 lr.off) ∧ V.cell? ⟨b, bo + k * 14 + 13, none⟩ = some (.int .i64 loff) ∧ V.cell? ⟨c, co + k * 14, none⟩ = some (.int .i64 lk) ∧ V.cell? ⟨c, co + k * 14 + 1, none⟩ = some (.string ap) ∧ V.cell? ⟨c, co + k * 14 + 2, none⟩ = some (.slice ya ats.length yc) ∧ V.cell? ⟨c, co + k * 14 + 3, none⟩ = some (.int .i64 aoff) ∧ V.cell? ⟨c, co + k * 14 + 4, none⟩ = some (.int .i64 lop) ∧ V.cell? ⟨c, co + k * 14 + 5, none⟩ = some (.int .i64 ll.k) ∧ V.cell? ⟨c, co + k * 14 + 6, none⟩ = some (.int .i64 ll.n) ∧ V.cell? ⟨c, co + k * 14 + 7, none⟩ = some (.string ll.s) ∧ V.cell? ⟨c, co + k * 14 + 8, none⟩ = some (.int .i64 ll.off) ∧ V.cell? ⟨c, co + k * 14 + 9, none⟩ = some (.int .i64 lr.k) ∧ V.cell? ⟨c, co + k * 14 + 10, none⟩ = some (.int .i64 lr.n) ∧ V.cell? ⟨c, co + k * 14 + 11, none⟩ = some (.string lr.s) ∧ V.cell? ⟨c, co + k * 14 + 12, none⟩ = some (.int .i64 lr.off) ∧ V.cell? ⟨c, co + k * 14 + 13, none⟩ = some (.int .i64 loff)) := fun V hV => ⟨kept_cell hV x0, kept_cell hV x1, kept_cell hV x2, kept_cell hV x3, kept_cell hV x4, kept_cell hV x5, kept_cell hV x6, kept_cell hV x7, kept_cell hV x8, kept_cell hV x9, kept_cell hV x10, kept_cell hV x11, kept_cell hV x12, kept_cell hV x13, kept_cell hV y0, kept_cell hV y1, kept_cell hV y2, kept_cell hV y3, kept_cell hV y4, kept_cell hV y5, kept_cell hV y6, kept_cell hV y7, kept_cell hV y8, kept_cell hV y9, kept_cell hV y10, kept_cell hV y11, kept_cell hV y12, kept_cell hV y13⟩
      clear hrow hx krow hy hxo hyo x0 x1 x2 x3 x4 x5 x6 x7 x8 x9 x10 x11 x12 x13 y0 y1 y2 y3 y4 y5 y6 y7 y8 y9 y10 y11 y12 y13
      go_upto_region 6 with fail
      go_cut [6, 7] (fun t6 t7 wx => ∃ X Y, t6 = .pointer (some ⟨X, 0, none⟩) ∧ t7 = .pointer (some ⟨Y, 0, none⟩) ∧ Hid (wx.heap[X]? = some (.cells #[.int .i64 lk, .string ap, .slice xa ats.length xc, .int .i64 aoff, .int .i64 lop, .int .i64 ll.k, .int .i64 ll.n, .string ll.s, .int .i64 ll.off, .int .i64 lr.k, .int .i64 lr.n, .string lr.s, .int .i64 lr.off, .int .i64 loff] 57 (0, 0))) ∧ Hid (wx.heap[Y]? = some (.cells #[.int .i64 lk, .string ap, .slice ya ats.length yc, .int .i64 aoff, .int .i64 lop, .int .i64 ll.k, .int .i64 ll.n, .string ll.s, .int .i64 ll.off, .int .i64 lr.k, .int .i64 lr.n, .string lr.s, .int .i64 lr.off, .int .i64 loff] 57 (0, 0))) ∧ Hid (Below wr.heap.size wr wx))
      case first =>
        go_region_held3 (fun V => V.cell? ⟨b, bo + k * 14, none⟩ = some (.int .i64 lk) ∧ V.cell? ⟨b, bo + k * 14 + 1, none⟩ = some (.string ap) ∧ V.cell? ⟨b, bo + k * 14 + 2, none⟩ = some (.slice xa ats.length xc) ∧ V.cell? ⟨b, bo + k * 14 + 3, none⟩ = some (.int .i64 aoff) ∧ V.cell? ⟨b, bo + k * 14 + 4, none⟩ = some (.int .i64 lop) ∧ V.cell? ⟨b, bo + k * 14 + 5, none⟩ = some (.int .i64 ll.k) ∧ V.cell? ⟨b, bo + k * 14 + 6, none⟩ = some (.int .i64 ll.n) ∧ V.cell? ⟨b, bo + k * 14 + 7, none⟩ = some (.string ll.s) ∧ V.cell? ⟨b, bo + k * 14 + 8, none⟩ = some (.int .i64 ll.off) ∧ V.cell? ⟨b, bo + k * 14 + 9, none⟩ = some (.int .i64 lr.k) ∧ V.cell? ⟨b, bo + k * 14 + 10, none⟩ = some (.int .i64 lr.n) ∧ V.cell? ⟨b, bo + k * 14 + 11, none⟩ = some (.string lr.s) ∧ V.cell? ⟨b, bo + k * 14 + 12, none⟩ = some (.int .i64 lr.off) ∧ V.cell? ⟨b, bo + k * 14 + 13, none⟩ = some (.int .i64 loff) ∧ V.cell? ⟨c, co + k * 14, none⟩ = some (.int .i64 lk) ∧ V.cell? ⟨c, co + k * 14 + 1, none⟩ = some (.string ap) ∧ V.cell? ⟨c, co + k * 14 + 2, none⟩ = some (.slice ya ats.length yc) ∧ V.cell? ⟨c, co + k * 14 + 3, none⟩ = some (.int .i64 aoff) ∧ V.cell? ⟨c, co + k * 14 + 4, none⟩ = some (.int .i64 lop) ∧ V.cell? ⟨c, co + k * 14 + 5, none⟩ = some (.int .i64 ll.k) ∧ V.cell? ⟨c, co + k * 14 + 6, none⟩ = some (.int .i64 ll.n) ∧ V.cell? ⟨c, co + k * 14 + 7, none⟩ = some (.string ll.s) ∧ V.cell? ⟨c, co + k * 14 + 8, none⟩ = some (.int .i64 ll.off) ∧ V.cell? ⟨c, co + k * 14 + 9, none⟩ = some (.int .i64 lr.k) ∧ V.cell? ⟨c, co + k * 14 + 10, none⟩ = some (.int .i64 lr.n) ∧ V.cell? ⟨c, co + k * 14 + 11, none⟩ = some (.string lr.s) ∧ V.cell? ⟨c, co + k * 14 + 12, none⟩ = some (.int .i64 lr.off) ∧ V.cell? ⟨c, co + k * 14 + 13, none⟩ = some (.int .i64 loff))
          (first
            | (with_reducible exact HSc.out _ (Below.refl _ _))
            | (with_reducible exact HSc.out _ (Below.refl _ _).drew)
            | (with_reducible exact HSc.out _ (belowA _ _).drew)
            | (with_reducible exact HSc.out _ (belowA _ _))
            | (with_reducible exact HSc.out _ (below2a _ _ _).drew)
            | (with_reducible exact HSc.out _ (below2a _ _ _)))
          (fail)
        all_goals (go_wp2; go_meet)
        · exact ⟨wr.heap.size, wr.heap.size + 1, rfl, rfl, bx_first _ _ _, bx_second _ _ _, (below2a _ _ _).drew⟩
        · exact ⟨wr.heap.size + 1, wr.heap.size, rfl, rfl, bx_second _ _ _, bx_first _ _ _, (below2a _ _ _).drew⟩
      case rest =>
        obtain ⟨X, Y, rfl, rfl, HX, HY, HBx⟩ := hcut
        obtain ⟨⟨x0, x1, x2, x3, x4, x5, x6, x7, x8, x9, x10, x11, x12, x13⟩, -⟩ := boxL_cells HX.out
        obtain ⟨⟨y0, y1, y2, y3, y4, y5, y6, y7, y8, y9, y10, y11, y12, y13⟩, -⟩ := boxL_cells HY.out
        have q1 : (lk != lk) = false := by simp
        have q2 : (lop != lop) = false := by simp
        have q3 : (loff != loff) = false := by simp
        have q4 := neqTrmSame ll
        have q5 := neqTrmSame lr
        go_wp2_with (go_at_call 17; refine (HS.out _ HBx.out).mono ?_; rintro e w7 ⟨rfl, hb7⟩; have HB7 := hide (belowt2 (belowt2 HB.out HBx.out) hb7); clear hb7)
        go_roundw
        case rel => exact ⟨k + 1, by omega, by go_num, HB7⟩
        case measure => simp [intOf]; omega
    · obtain rfl : k = n := by omega
      have hi : ¬ (k : Int) < (k : Int) := by omega
      go_wp2
      go_ret
      exact ⟨rfl, HB.out⟩
end Go.Proofs.YtfbmddgjbmapiaaDoor

namespace Go.Proofs.YtfbmddgjbmapiaaDoor
set_option linter.unusedSimpArgs false
set_option linter.unusedVariables false
open Go.RowKit

set_option maxRecDepth 100000 in
set_option maxHeartbeats 4000000 in
theorem sameClauses_any {w : World} {F G : Nat → Prop} {v1 v2 : Value} {l m : List Clx} (h1 : Lst elClx w F v1 l) (h2 : Lst elClx w G v2 m) (hp : l.map Clx.pur = m.map Clx.pur) :
    Calls Tryd.prog 8 #[v1, v2] w fun e w' => e = .returned (.bool true) ∧ Below w.heap.size w w' := by
  obtain ⟨a1, c1, rfl, -, -, hl1⟩ := h1.shape
  obtain ⟨a2, c2, rfl, -, -, hl2⟩ := h2.shape
  have hl : l.length = m.length := by have := congrArg List.length hp; simpa using this
  have H1 := hide h1.all
  have H2 := hide h2.all
  have HP := hide hp
  have HE := hide hl
  obtain ⟨n, hn⟩ : ∃ n, n = l.length := ⟨_, rfl⟩
  rw [← hl, ← hn]
  rw [← hn] at hl1
  rw [← hl] at H2
  rw [← hn] at H1 H2
  have HN := hide hn
  clear h1 h2 hp hl hl2 hn
  have hnn : ((n : Int) != (n : Int)) = false := by simp
  go_enter Tryd.func8, Tryd.ntmps8
  go_wp2
  go_loopw [13] (fun i wl => ∃ k : Nat, k ≤ n ∧ i = .int .i64 k ∧ Hid (Below w.heap.size w wl)) (fun i _ => n - (intOf i).toNat)
  case atStart => exact ⟨0, by omega, rfl, Below.refl _ _⟩
  case round =>
    obtain ⟨k, hk, rfl, HB⟩ := hrel
    by_cases hlt : k < n
    · have hi : (k : Int) < (n : Int) := by omega
      have hi0 : (0 : Int) ≤ (k : Int) := by omega
      obtain ⟨b, bo, rfl, -, -, hrow⟩ := H1.out.row (by have := HN.out; omega)
      obtain ⟨c, co, rfl, -, -, krow⟩ := H2.out.row (by have := HN.out; have := HE.out; omega)
      obtain ⟨x, hx⟩ : ∃ x, l[k]? = some x := ⟨_, List.getElem?_eq_getElem (by have := HN.out; omega)⟩
      obtain ⟨y, hy⟩ : ∃ y, m[k]? = some y := ⟨_, List.getElem?_eq_getElem (by have := HN.out; have := HE.out; omega)⟩
      have hpq := pur_at HP.out hx hy
      have x0 := over_cell (kept_cell HB.out (hrow k _ hx 0 _ rfl))
      have x1 := over_cell (kept_cell HB.out (hrow k _ hx 1 _ rfl))
      have x2 := over_cell (kept_cell HB.out (hrow k _ hx 2 _ rfl))
      have x3 := over_cell (kept_cell HB.out (hrow k _ hx 3 _ rfl))
      have y0 := over_cell (kept_cell HB.out (krow k _ hy 0 _ rfl))
      have y1 := over_cell (kept_cell HB.out (krow k _ hy 1 _ rfl))
      have y2 := over_cell (kept_cell HB.out (krow k _ hy 2 _ rfl))
      have y3 := over_cell (kept_cell HB.out (krow k _ hy 3 _ rfl))
      have hxo := H1.out.ok (List.mem_of_getElem? hx)
      have hyo := H2.out.ok (List.mem_of_getElem? hy)
      obtain ⟨⟨xp, xv, xoff, xts⟩, xb, xls⟩ := x
      obtain ⟨⟨yp, yv, yoff, yts⟩, yb, yls⟩ := y
      simp only [elClx, Nat.add_zero] at x0 x1 x2 x3 y0 y1 y2 y3
      simp only [Clx.pur, Atx.pur, PCls.mk.injEq, PAtom.mk.injEq] at hpq
      obtain ⟨⟨rfl, rfl, rfl⟩, hpb⟩ := hpq
      have HS := hide (fun x => sameAtom_any xp xoff xts xv yv (((show Lst elTrm w (fun _ => True) xv xts from hxo.1.2.2).kept HB.out).kept (over_below _ x)) (((show Lst elTrm w (fun _ => True) yv xts from hyo.1.2.2).kept HB.out).kept (over_below _ x)))
      have HT := hide (fun x => sameBody_any (((show Lst elLix w (fun _ => True) xb xls from hxo.2).kept HB.out).kept (over_below _ x)) (((show Lst elLix w (fun _ => True) yb yls from hyo.2).kept HB.out).kept (over_below _ x)) hpb)
      obtain ⟨xa, xc, rfl, -⟩ := (show Lst elTrm w (fun _ => True) xv xts from hxo.1.2.2).shape
      obtain ⟨ya, yc, rfl, -⟩ := (show Lst elTrm w (fun _ => True) yv xts from hyo.1.2.2).shape
      obtain ⟨xd, xe, rfl, -⟩ := (show Lst elLix w (fun _ => True) xb xls from hxo.2).shape
      obtain ⟨yd, ye, rfl, -⟩ := (show Lst elLix w (fun _ => True) yb yls from hyo.2).shape
      have hll : yls.length = xls.length := by have := congrArg List.length hpb; simp only [List.length_map] at this; exact this.symm
      rw [hll] at HT y3
      clear hrow hx krow hy hxo hyo hpb hll
      go_wp2
      refine wp_region_over (fun W => W = wr) (by kernel_rfl) (by kernel_rfl) rfl ?_
      rintro W rfl
      repeat (go_big_quiet_step (first | (go_at_call 17; exact calls_over (HS.out _)) | (go_at_call 18; exact calls_over (HT.out _))))
      refine wpQuiet_nil ?_
      rintro _ ⟨z, rfl⟩
      have HB3 := hide (HB.out.trans ((over_below W z).mono HB.out.size))
      clear x0 x1 x2 x3 y0 y1 y2 y3 HS HT
      go_wp2
      go_roundw
      case rel => exact ⟨k + 1, by omega, by go_num, HB3⟩
      case measure => simp [intOf]; omega
    · obtain rfl : k = n := by omega
      have hi : ¬ (k : Int) < (k : Int) := by omega
      go_wp2
      go_ret
      exact ⟨rfl, HB.out⟩
end Go.Proofs.YtfbmddgjbmapiaaDoor
