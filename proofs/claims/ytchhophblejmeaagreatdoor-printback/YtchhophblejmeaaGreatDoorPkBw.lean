/- The laws' own programs of edictlaw04. The laws' own sameProgram of edictlaw04, at trees that differ in places alone. PrintBack: a program that is made well formed is; parse makes the same of its text. -/
import Derived.Test.YtchhophblejmeaaGreatDoorProg
import Derived.Test.YtchhophblejmeaaGreatDoorPkBm
import Derived.Test.YtchhophblejmeaaGreatDoorPkB9
import Derived.Test.YtchhophblejmeaaGreatDoorPkBa
import Derived.Test.YtchhophblejmeaaGreatDoorPkBn
import Derived.Test.YtchhophblejmeaaGreatDoorPkBb
import Derived.Test.YtchhophblejmeaaGreatDoorPkBc
import Derived.Test.YtchhophblejmeaaGreatDoorPkBd
import Derived.Test.YtchhophblejmeaaGreatDoorPkBe

namespace Go.Proofs.YtchhophblejmeaaGreatDoor
set_option linter.unusedSimpArgs false
set_option linter.unusedVariables false
open Go.RowKit

/-- A program that is made: what was handed in, the answer's box, the program's own box and its clauses so far. -/
structure PLoop (w W : World) (ao : Option Addr) (len cap : Nat) (v : Value) (xs : List Clx) : Prop where
  q0 : W.heap[w.heap.size]? = some (.cells #[.slice ao len cap] 47 (0, 0))
  q1 : W.heap[w.heap.size + 1]? = some (.cells #[.slice none 0 0] 47 (0, 0))
  q2 : W.heap[w.heap.size + 2]? = some (.cells #[v] 47 (0, 0))
  gr : Grow elClx 88 (w.heap.size + 3) W v xs
  on : Only (fun k => w.heap.size ≤ k) w W
section
variable {w W W' : World} {ao : Option Addr} {len cap : Nat} {v v' : Value} {xs xs' : List Clx}
theorem PLoop.hi (h : PLoop w W ao len cap v xs) : w.heap.size + 3 ≤ W.heap.size := (Array.getElem?_eq_some_iff.1 h.q2).1
theorem PLoop.kept (h : PLoop w W ao len cap v xs) (hb : Below W.heap.size W W') : PLoop w W' ao len cap v xs :=
  ⟨by rw [hb.block _ (Array.getElem?_eq_some_iff.1 h.q0).1]; exact h.q0, by rw [hb.block _ (Array.getElem?_eq_some_iff.1 h.q1).1]; exact h.q1, by rw [hb.block _ (Array.getElem?_eq_some_iff.1 h.q2).1]; exact h.q2,
    h.gr.kept hb, h.on.trans (Only.of_below hb _)⟩
theorem PLoop.bel (h : PLoop w W ao len cap v xs) : Below w.heap.size w W := h.on.below (Nat.le_refl _) (fun k hk e => by omega)
theorem PLoop.far (h : PLoop w W ao len cap v xs) (hg : W.grownBy W' v.ownBlock) {b : Nat} {x : Obj} (hb : W.heap[b]? = some x) (hne : v.ownBlock ≠ some b) : W'.heap[b]? = some x := by
  rw [hg.block b (Array.getElem?_eq_some_iff.1 hb).1 (fun e => hne e.symm)]; exact hb
theorem PLoop.far2 (h : PLoop w W ao len cap v xs) (hg : W.grownBy W' v.ownBlock) : W'.heap[w.heap.size + 2]? = some (.cells #[v] 47 (0, 0)) :=
  h.far hg h.q2 (fun e => by have := own_new h.gr.1 _ e; omega)
theorem PLoop.push (h : PLoop w W ao len cap v xs) (hg : W.grownBy W' v.ownBlock) (hG : Grow elClx 88 (w.heap.size + 3) W' v' xs') : PLoop w (W'.setCell ⟨w.heap.size + 2, 0, none⟩ v') ao len cap v' xs' := by
  have ho : Only (fun k => w.heap.size + 3 ≤ k) W W' := (Only.refl _ W).grown hg (fun k hk _ => own_new h.gr.1 k hk)
  have ho2 : Only (fun k => k = w.heap.size + 2) W' (W'.setCell ⟨w.heap.size + 2, 0, none⟩ v') := (Only.refl (fun k => k = w.heap.size + 2) W').setCell (p := ⟨w.heap.size + 2, 0, none⟩) rfl _
  have hf := h.far2 hg
  have ho3 : Only (fun k => w.heap.size + 2 ≤ k) W (W'.setCell ⟨w.heap.size + 2, 0, none⟩ v') := (ho.mono fun k _ (e : w.heap.size + 3 ≤ k) => (by omega : w.heap.size + 2 ≤ k)).trans (ho2.mono fun k _ (e : k = w.heap.size + 2) => (by omega : w.heap.size + 2 ≤ k))
  refine ⟨?_, ?_, ?_, hG.above fun b hb hlt => ho2.block b hlt (by omega), h.on.trans (ho3.mono fun k _ (e : w.heap.size + 2 ≤ k) => (by omega : w.heap.size ≤ k))⟩
  · rw [ho3.block _ (Array.getElem?_eq_some_iff.1 h.q0).1 (by omega)]; exact h.q0
  · rw [ho3.block _ (Array.getElem?_eq_some_iff.1 h.q1).1 (by omega)]; exact h.q1
  · simp [World.setCell, Array.getElem?_modify, hf]
theorem PLoop.fin (h : PLoop w W ao len cap v xs) : (W.setCell ⟨w.heap.size + 1, 0, none⟩ v).heap[w.heap.size + 1]? = some (.cells #[v] 47 (0, 0)) ∧ Grow elClx 88 w.heap.size (W.setCell ⟨w.heap.size + 1, 0, none⟩ v) v xs ∧ Below w.heap.size w (W.setCell ⟨w.heap.size + 1, 0, none⟩ v) := by
  have ho2 : Only (fun k => k = w.heap.size + 1) W (W.setCell ⟨w.heap.size + 1, 0, none⟩ v) := (Only.refl (fun k => k = w.heap.size + 1) W).setCell (p := ⟨w.heap.size + 1, 0, none⟩) rfl _
  exact ⟨by simp [World.setCell, Array.getElem?_modify, h.q1], (h.gr.above fun b hb hlt => ho2.block b hlt (by omega)).mono (by omega), (h.on.trans (ho2.mono fun k _ (e : k = w.heap.size + 1) => (by omega : w.heap.size ≤ k))).below (Nat.le_refl _) (fun k hk e => by omega)⟩
end
theorem PLoop.start (w : World) (ao : Option Addr) (len cap : Nat) : PLoop w (((w.alloc (.cells #[.slice ao len cap] 47)).alloc (.cells #[.slice none 0 0] 47)).alloc (.cells #[.slice none 0 0] 47)) ao len cap (.slice none 0 0) [] := by
  have h1 := Two4.start w (.cells #[.slice ao len cap] 47) (.cells #[.slice none 0 0] 47)
  have h2 := h1.below (belowA _ (.cells #[.slice none 0 0] 47))
  have h3 := heap_alloc_new ((w.alloc (.cells #[.slice ao len cap] 47)).alloc (.cells #[.slice none 0 0] 47)) (.cells #[.slice none 0 0] 47)
  refine ⟨h2.b0, h2.b1, ?_, Grow.nil _ _ _ _, Only.of_below h2.on _⟩
  simpa using h3
theorem prg_cell {V : World} {b : Nat} {u : Value} (h : V.heap[b]? = some (.cells #[u] 47 (0, 0))) : V.cell? ⟨b, 0, none⟩ = some u ∧ V.frozen? ⟨b, 0, none⟩ = false := by
  refine ⟨?_, ?_⟩ <;> simp [World.cell?, World.frozen?, h]
theorem cls4_cells {V : World} {b : Nat} {u0 u1 u2 u3 : Value} (h : V.heap[b]? = some (.cells #[u0, u1, u2, u3] 88 (0, 0))) : V.cell? ⟨b, 0, none⟩ = some u0 ∧ V.cell? ⟨b, 1, none⟩ = some u1 ∧ V.cell? ⟨b, 2, none⟩ = some u2 ∧ V.cell? ⟨b, 3, none⟩ = some u3 := by
  refine ⟨?_, ?_, ?_, ?_⟩ <;> simp [World.cell?, h]
theorem cls_here4 {V : World} {c : Obj} {U base : Nat} {v : Value} {x : Clx} (ha : elAtx.ok V (fun k => U ≤ k) x.h) (hb : Lst elLix V (fun k => U ≤ k) x.v x.ls) (hB : base ≤ U) (hv : ∀ k, v.ownBlock = some k → k < U) : elClx.ok (V.alloc c) (fun k => base ≤ k ∧ v.ownBlock ≠ some k) x :=
  ⟨elAtx.move ha fun k hk hF => ⟨⟨Nat.le_trans hB hF, fun e => by have := hv k e; omega⟩, (belowA V c).block k hk⟩, hb.move fun k hk hF => ⟨⟨Nat.le_trans hB hF, fun e => by have := hv k e; omega⟩, (belowA V c).block k hk⟩⟩
theorem prg4Res (W : World) (b : Nat) (u : Value) (tmps : Array Value) (ht : tmps[2]? = some (.pointer (some ⟨b, 0, none⟩))) (hb : W.heap[b]? = some (.cells #[u] 47 (0, 0))) :
    (results Tryz.f24 tmps).run Tryz.prog W = .ok (.agg #[u]) W := by
  obtain ⟨c0, -⟩ := prg_cell hb
  simp [results, Tryz.results24, go_sem, ht, c0]

set_option maxRecDepth 100000 in
set_option maxHeartbeats 8000000 in
theorem program4 (cs : List Cls) {w : World} {ao : Option Addr} {len : Nat} (cap : Nat) (hr : IsClss w ao len cs) :
    Calls Tryz.prog 24 #[.agg #[.slice ao len cap]] w fun e w' => ∃ v, e = .returned (.agg #[v]) ∧ ∃ xs : List Clx, xs.map Clx.pur = prg4 cs ∧ xs.length ≤ 512 ∧ Grow elClx 88 w.heap.size w' v xs ∧ Below w.heap.size w w' := by
  have HR := hide hr
  have HP0 := hide (PLoop.start w ao len cap)
  clear hr
  go_enter Tryz.func24, Tryz.ntmps24
  go_wp2
  generalize (((w.alloc (.cells #[.slice ao len cap] 47)).alloc (.cells #[.slice none 0 0] 47)).alloc (.cells #[.slice none 0 0] 47)) = W0 at *
  go_loopw [4] (fun i wl => ∃ (j : Nat) (xs : List Clx) (va : Option Addr) (vc : Nat), j ≤ min cs.length 512 ∧ i = .int .i64 j ∧ Hid (xs.length = j) ∧ Hid (xs.map Clx.pur = (cs.take j).map cls4) ∧ Hid (PLoop w wl ao len cap (.slice va j vc) xs)) (fun i _ => 512 - (intOf i).toNat)
  case atStart => exact ⟨0, [], none, 0, by omega, rfl, rfl, rfl, HP0⟩
  case round =>
    clear HP0
    obtain ⟨j, xs, va, vc, hj, rfl, HLn, HQ, HP⟩ := hrel
    have hn := HR.out.1
    obtain ⟨p0, -⟩ := prg_cell HP.out.q0
    by_cases hlt : j < min cs.length 512
    · have hi : (j : Int) < (len : Int) := by omega
      have hi8 : (j : Int) < 512 := by omega
      have hi0 : (0 : Int) ≤ (j : Int) := by omega
      have hj5 : j < 512 := by omega
      obtain ⟨c, ht⟩ : ∃ c, cs[j]? = some c := ⟨_, List.getElem?_eq_getElem (by omega)⟩
      obtain ⟨b3, o3, hao, hr3⟩ := HR.out.2.2.2 (by omega)
      obtain ⟨c0, c1, c2, c3⟩ := (hr3 j c ht).kept HP.out.bel
      have HAt := hide ((HR.out.2.2.1 c (List.mem_of_getElem? ht)).kept HP.out.bel)
      have HSn : Hid ((cs.take (j + 1)).map cls4 = (cs.take j).map cls4 ++ [cls4 c]) := by show _ = _; rw [List.take_add_one, ht, List.map_append]; rfl
      have HMd := hide (fun (V : World) (hb : Below wr.heap.size wr V) => made4 c.h (HAt.out.1.kept hb))
      have HBd := hide (fun (V : World) (hb : Below wr.heap.size wr V) => body4 c.ls c.cap (HAt.out.2.kept hb))
      have HCl : Hid (cls4 c = ⟨atm4 c.h, bod4 c.ls⟩) := rfl
      subst hao
      clear hr3 ht HR hn HAt
      obtain ⟨⟨cp, cao, clen, ccap, coff, cts⟩, bo, blen, bcap, cls⟩ := c
      simp only at *
      go_upto_region 6 with fail
      have HZ := hide (HP.out.kept (belowA wr (.cells #[.string cp, .slice cao clen ccap, .int .i64 coff, .slice bo blen bcap] 88)))
      have hTk : (wr.alloc (.cells #[.string cp, .slice cao clen ccap, .int .i64 coff, .slice bo blen bcap] 88)).heap[wr.heap.size]? = some (.cells #[.string cp, .slice cao clen ccap, .int .i64 coff, .slice bo blen bcap] 88 (0, 0)) := heap_alloc_new wr _
      have HBz := hide (belowA wr (.cells #[.string cp, .slice cao clen ccap, .int .i64 coff, .slice bo blen bcap] 88))
      generalize (wr.alloc (.cells #[.string cp, .slice cao clen ccap, .int .i64 coff, .slice bo blen bcap] 88)) = Z at *
      have hw3 := HP.out.hi
      have hob : ∀ k, (Value.slice va j vc).ownBlock = some k → k < wr.heap.size := own_lt6 HP.out.gr.1
      clear p0 c0 c1 c2 c3
      have HSof : Hid (∀ V : World, V.heap[w.heap.size + 2]? = some (.cells #[.slice va j vc] 47 (0, 0)) → V.heap[wr.heap.size]? = some (.cells #[.string cp, .slice cao clen ccap, .int .i64 coff, .slice bo blen bcap] 88 (0, 0)) → V.cell? ⟨w.heap.size + 2, 0, none⟩ = some (.slice va j vc) ∧ V.cell? ⟨wr.heap.size, 0, none⟩ = some (.string cp) ∧ V.cell? ⟨wr.heap.size, 1, none⟩ = some (.slice cao clen ccap) ∧ V.cell? ⟨wr.heap.size, 2, none⟩ = some (.int .i64 coff) ∧ V.cell? ⟨wr.heap.size, 3, none⟩ = some (.slice bo blen bcap)) := fun V h1 h2 => by
        obtain ⟨z0, z1, z2, z3⟩ := cls4_cells h2
        exact ⟨(prg_cell h1).1, z0, z1, z2, z3⟩
      refine wp_region_last (by kernel_rfl) (fun V => V.cell? ⟨w.heap.size + 2, 0, none⟩ = some (.slice va j vc) ∧ V.cell? ⟨wr.heap.size, 0, none⟩ = some (.string cp) ∧ V.cell? ⟨wr.heap.size, 1, none⟩ = some (.slice cao clen ccap) ∧ V.cell? ⟨wr.heap.size, 2, none⟩ = some (.int .i64 coff) ∧ V.cell? ⟨wr.heap.size, 3, none⟩ = some (.slice bo blen bcap)) 12 ?_
      have HS1 := HSof.out Z.drew HZ.out.q2 hTk
      refine wpAnyM_take (i := 0) (v := ?_) rfl (by kernel_rfl) (by kernel_rfl) (by kernel_rfl) (by kernel_rfl) (fun _ _ _ h => h) HS1 (Or.inl ⟨by rfl, ?_⟩) ?_
      rotate_left
      · (intro w hSw; (try dsimp only at hSw); go_simp; try with_reducible rfl)
      simp only [Act.put, List.setIfInBounds_toArray, List.set_cons_zero, List.set_cons_succ]
      refine wpAnyM_take (i := 1) (v := ?_) rfl (by kernel_rfl) (by kernel_rfl) (by kernel_rfl) (by kernel_rfl) (fun _ _ _ h => h) HS1 (Or.inl ⟨by rfl, ?_⟩) ?_
      rotate_left
      · (intro w hSw; (try dsimp only at hSw); go_simp; try with_reducible rfl)
      simp only [Act.put, List.setIfInBounds_toArray, List.set_cons_zero, List.set_cons_succ]
      refine wpAnyM_take (i := 2) (v := ?_) rfl (by kernel_rfl) (by kernel_rfl) (by kernel_rfl) (by kernel_rfl) (fun _ _ _ h => h) HS1 (Or.inl ⟨by rfl, ?_⟩) ?_
      rotate_left
      · (intro w hSw; (try dsimp only at hSw); go_simp; try with_reducible rfl)
      simp only [Act.put, List.setIfInBounds_toArray, List.set_cons_zero, List.set_cons_succ]
      refine wpAnyM_take (i := 3) (v := ?_) rfl (by kernel_rfl) (by kernel_rfl) (by kernel_rfl) (by kernel_rfl) (fun _ _ _ h => h) HS1 (Or.inl ⟨by rfl, ?_⟩) ?_
      rotate_left
      · (intro w hSw; (try dsimp only at hSw); go_simp; try with_reducible rfl)
      simp only [Act.put, List.setIfInBounds_toArray, List.set_cons_zero, List.set_cons_succ]
      refine wpAnyM_take (i := 5) (v := ?_) rfl (by kernel_rfl) (by kernel_rfl) (by kernel_rfl) (by kernel_rfl) (fun _ _ _ h => h) HS1 (Or.inl ⟨by rfl, ?_⟩) ?_
      rotate_left
      · (intro w hSw; (try dsimp only at hSw); go_simp; try with_reducible rfl)
      simp only [Act.put, List.setIfInBounds_toArray, List.set_cons_zero, List.set_cons_succ]
      refine wpAnyM_take (i := 6) (v := ?_) rfl (by kernel_rfl) (by kernel_rfl) (by kernel_rfl) (by kernel_rfl) (fun _ _ _ h => h) HS1 (Or.inl ⟨by rfl, ?_⟩) ?_
      rotate_left
      · (intro w hSw; (try dsimp only at hSw); go_simp; try with_reducible rfl)
      simp only [Act.put, List.setIfInBounds_toArray, List.set_cons_zero, List.set_cons_succ]
      refine wpAnyM_one (i := 4) (by kernel_rfl) rfl (fun K hK => ?_)
      go_simp
      refine (HMd.out Z.drew HBz.out.drew).mono ?_
      intro e w3 hq
      obtain ⟨⟨yp, yv, yoff, yts⟩, rfl, hpur, hok, hb3⟩ := hq
      obtain ⟨ya, yc, rfl, -⟩ := (show Lst elTrm _ _ yv yts from hok.2.2).shape
      have HPu := hide hpur
      have HB3 := hide (HBz.out.drew.trans (hb3.mono HBz.out.size))
      have HZ3 := hide (HZ.out.kept ((Below.refl _ _).drew.trans (hb3.mono (by simp))))
      have hTk3 : w3.heap[wr.heap.size]? = some (.cells #[.string cp, .slice cao clen ccap, .int .i64 coff, .slice bo blen bcap] 88 (0, 0)) := (hb3.block _ (Array.getElem?_eq_some_iff.1 hTk).1).trans hTk
      have HS3 := HSof.out w3 HZ3.out.q2 hTk3
      have hz3 : wr.heap.size ≤ Z.drew.heap.size := HBz.out.size
      unfold Atx.val
      refine hK.out _ _ HS3 (fun _ => ?_)
      clear hK K HS1 hb3 hpur
      try simp only [Act.put, List.setIfInBounds_toArray, List.set_cons_zero, List.set_cons_succ]
      refine wpAnyM_one (i := 7) (by kernel_rfl) rfl (fun K hK => ?_)
      go_simp
      refine (HBd.out w3 HB3.out).mono ?_
      intro e w4 hq
      obtain ⟨bv, rfl, bs, hpb, hbl, hgb, hb4⟩ := hq
      obtain ⟨ba, bc, rfl, -⟩ := hgb.shape
      have HPb := hide hpb
      have HZ4 := hide (HZ3.out.kept hb4)
      have hTk4 : w4.heap[wr.heap.size]? = some (.cells #[.string cp, .slice cao clen ccap, .int .i64 coff, .slice bo blen bcap] 88 (0, 0)) := (hb4.block _ (Array.getElem?_eq_some_iff.1 hTk3).1).trans hTk3
      have HS4 := HSof.out w4 HZ4.out.q2 hTk4
      have HOk : Hid (elClx.ok (w4.alloc (.cells #[.string yp, .slice ya yts.length yc, .int .i64 yoff, .slice ba bs.length bc] 88)) (fun k => w.heap.size + 3 ≤ k ∧ (Value.slice va j vc).ownBlock ≠ some k) ⟨⟨yp, .slice ya yts.length yc, yoff, yts⟩, .slice ba bs.length bc, bs⟩) :=
        cls_here4 (U := wr.heap.size) (elAtx.move hok fun b hlt hF => ⟨Nat.le_trans hz3 hF, hb4.block b hlt⟩) ((hgb.new (by omega)).move fun b hlt hF => ⟨Nat.le_trans HB3.out.size hF, rfl⟩) hw3 hob
      refine hK.out _ _ HS4 (fun _ => ?_)
      clear hK K HS3 hb4 hpb hgb hok hTk3
      try simp only [Act.put, List.setIfInBounds_toArray, List.set_cons_zero, List.set_cons_succ]
      refine wpAnyM_take (i := 8) (v := ?_) rfl (by kernel_rfl) (by kernel_rfl) (by kernel_rfl) (by kernel_rfl) (fun _ _ _ h => h) HS4 (Or.inl ⟨by rfl, ?_⟩) ?_
      rotate_left
      · (intro w hSw; (try dsimp only at hSw); go_simp; try with_reducible rfl)
      simp only [Act.put, List.setIfInBounds_toArray, List.set_cons_zero, List.set_cons_succ]
      have HZ5 := hide (HZ4.out.kept (belowA w4 (.cells #[.string yp, .slice ya yts.length yc, .int .i64 yoff, .slice ba bs.length bc] 88)))
      have hTk5 : (w4.alloc (.cells #[.string yp, .slice ya yts.length yc, .int .i64 yoff, .slice ba bs.length bc] 88)).heap[wr.heap.size]? = some (.cells #[.string cp, .slice cao clen ccap, .int .i64 coff, .slice bo blen bcap] 88 (0, 0)) := ((belowA w4 _).block _ (Array.getElem?_eq_some_iff.1 hTk4).1).trans hTk4
      have HS5 := HSof.out _ HZ5.out.q2 hTk5
      refine wpAnyM_one (i := 9) (by kernel_rfl) rfl (fun K hK => ?_)
      go_simp
      refine hK.out _ _ HS5 (fun _ => ?_)
      clear hK K HS4
      refine wpAnyM_one (i := 10) (by kernel_rfl) rfl (fun K hK => ?_)
      obtain ⟨i0, hi0', hz0, hz1, hz2⟩ := info_parts Tryz.infoCls
      refine step_push (w0 := w4.alloc (.cells #[.string yp, .slice ya yts.length yc, .int .i64 yoff, .slice ba bs.length bc] 88)) elClx (by rfl) _ _ _ (by rfl) (w.heap.size + 3) 88 i0 _ 72 Tryz.underlying45 hi0' hz0 hz1 hz2 rfl (by decide) (.slice va j vc) xs j HLn.out (by rfl) HZ5.out.gr ⟨⟨yp, .slice ya yts.length yc, yoff, yts⟩, .slice ba bs.length bc, bs⟩ w4.heap.size 1 (by rfl) (fun j u hu => new_cells (cs := #[.string yp, .slice ya yts.length yc, .int .i64 yoff, .slice ba bs.length bc]) j u hu) HOk.out (by omega) (Below.refl _ _) HZ5.out.hi ?_
      intro g cap' w5 HG5 HB5 HGr
      clear HB5 hi0' hz0 hz1 hz2 i0
      have hb5 := HZ5.out.far2 HGr.out
      have hc5 := HZ5.out.far HGr.out hTk5 (fun e => by have := hob _ e; omega)
      have HS6 := HSof.out w5 hb5 hc5
      have HZ6 := hide (HZ5.out.push HGr.out HG5.out)
      refine hK.out _ _ HS6 (fun _ => ?_)
      clear hK K HS5 HSof HZ5 HZ4 HZ3 HGr HG5 HOk
      obtain ⟨k5, z5⟩ := prg_cell hb5
      clear hb5 hc5 hTk hTk4 hTk5
      try simp only [Act.put, List.setIfInBounds_toArray, List.set_cons_zero, List.set_cons_succ]
      refine wpAnyM_take (i := 11) (v := ?_) rfl (by kernel_rfl) (by kernel_rfl) (by kernel_rfl) (by kernel_rfl) (fun _ _ _ h => h) HS6 (Or.inl ⟨by rfl, ?_⟩) ?_
      rotate_left
      · (intro w hSw; (try dsimp only at hSw); go_simp; try with_reducible rfl)
      simp only [Act.put, List.setIfInBounds_toArray, List.set_cons_zero, List.set_cons_succ]
      clear HS6
      refine wpAnyM_end (by kernel_rfl) rfl (by kernel_rfl) (fun K hK => ?_)
      go_simp
      refine hK.out _ _ ?_
      clear hK K
      go_wp2
      go_roundw
      case rel =>
        refine ⟨j + 1, xs ++ [⟨⟨yp, .slice ya yts.length yc, yoff, yts⟩, .slice ba bs.length bc, bs⟩], some ⟨g, 0, none⟩, cap', by omega, by go_num, ?_, ?_, HZ6⟩
        · show List.length _ = _; rw [List.length_append, HLn.out]; rfl
        · show List.map _ _ = _
          rw [List.map_append, HQ.out, HSn.out, HCl.out, ← HPu.out, ← HPb.out]
          rfl
      case measure => simp [intOf]; omega
    · have hje : j = min cs.length 512 := by omega
      have HTk : Hid (xs.map Clx.pur = prg4 cs) := by
        show _ = _
        rw [HQ.out]
        unfold prg4
        rcases Nat.le_total cs.length 512 with h1 | h1
        · rw [List.take_of_length_le (by omega), List.take_of_length_le h1]
        · rw [show j = 512 by omega]
      have hl5 : xs.length ≤ 512 := by have := HLn.out; omega
      have HL5 := hide hl5
      have HFin := hide HP.out.fin
      obtain ⟨k0, l0⟩ := prg_cell HP.out.q1
      obtain ⟨m0, -⟩ := prg_cell HP.out.q2
      have hend : ¬ ((j : Int) < (len : Int)) ∨ ((j : Int) < (len : Int) ∧ ¬ (j : Int) < 512) := by omega
      clear hn hj hlt hje hl5 HQ HLn HR
      rcases hend with hi | ⟨hi, hi8⟩ <;>
      · go_wp2
        refine bodyPost_ret (prg4Res _ (w.heap.size + 1) _ _ rfl HFin.out.1) rfl ?_
        exact ⟨_, rfl, xs, HTk.out, HL5.out, HFin.out.2.1, HFin.out.2.2⟩
end Go.Proofs.YtchhophblejmeaaGreatDoor

namespace Go.Proofs.YtchhophblejmeaaGreatDoor
set_option linter.unusedSimpArgs false
set_option linter.unusedVariables false
open Go.RowKit

set_option maxRecDepth 100000 in
set_option maxHeartbeats 8000000 in
theorem sameProg4 {w : World} {F G : Nat → Prop} {v1 v2 : Value} {l m : List Clx} (h1 : Lst elClx w F v1 l) (h2 : Lst elClx w G v2 m) (hp : l.map (fun x => x.pur.st) = m.map (fun x => x.pur.st)) :
    Calls Tryz.prog 19 #[.agg #[v1], .agg #[v2]] w fun e w' => e = .returned (.bool true) ∧ Below w.heap.size w w' := by
  obtain ⟨a1, c1, rfl, -, -, hl1⟩ := h1.shape
  obtain ⟨a2, c2, rfl, -, -, hl2⟩ := h2.shape
  have hl : l.length = m.length := by have := congrArg List.length hp; simpa using this
  have H1 := hide h1.all
  have H2 := hide h2.all
  have HP := hide hp
  have HE := hide hl
  obtain ⟨n, hn⟩ : ∃ n, n = l.length := ⟨_, rfl⟩
  rw [← hl, ← hn]
  rw [← hn] at hl1
  rw [← hl] at H2
  rw [← hn] at H1 H2
  have HN := hide hn
  clear h1 h2 hp hl hl2 hn
  have hnn : ((n : Int) != (n : Int)) = false := by simp
  go_enter Tryz.func19, Tryz.ntmps19
  go_wp2
  obtain ⟨Y, hY⟩ : ∃ Y, Y = (w.alloc (.cells #[.slice a1 n c1] 47)).alloc (.cells #[.slice a2 n c2] 47) := ⟨_, rfl⟩
  have HB0 : Hid (Below w.heap.size w Y) := by rw [hY]; exact below2a _ _ _
  have HPc : Hid (Y.cell? ⟨w.heap.size, 0, none⟩ = some (.slice a1 n c1) ∧ Y.cell? ⟨w.heap.size + 1, 0, none⟩ = some (.slice a2 n c2)) := by
    show _ ∧ _
    rw [hY]
    constructor <;> simp
  rw [← hY]
  clear hY
  go_loopw [5] (fun i wl => ∃ k : Nat, k ≤ n ∧ i = .int .i64 k ∧ Hid (Below Y.heap.size Y wl)) (fun i _ => n - (intOf i).toNat)
  case atStart => exact ⟨0, by omega, rfl, Below.refl _ _⟩
  case round =>
    obtain ⟨k, hk, rfl, HBy⟩ := hrel
    have HB := hide (HB0.out.trans (HBy.out.mono HB0.out.size))
    have s1 := kept_cell HBy.out HPc.out.1
    have s2 := kept_cell HBy.out HPc.out.2
    by_cases hlt : k < n
    · have hi : (k : Int) < (n : Int) := by omega
      have hi0 : (0 : Int) ≤ (k : Int) := by omega
      obtain ⟨b, bo, rfl, -, -, hrow⟩ := (H1.out.kept HB.out).row (by have := HN.out; omega)
      obtain ⟨c, co, rfl, -, -, krow⟩ := (H2.out.kept HB.out).row (by have := HN.out; have := HE.out; omega)
      obtain ⟨x, hx⟩ : ∃ x, l[k]? = some x := ⟨_, List.getElem?_eq_getElem (by have := HN.out; omega)⟩
      obtain ⟨y, hy⟩ : ∃ y, m[k]? = some y := ⟨_, List.getElem?_eq_getElem (by have := HN.out; have := HE.out; omega)⟩
      have hpq := map_at HP.out hx hy
      have x0 := over_cell (hrow k _ hx 0 _ rfl)
      have x1 := over_cell (hrow k _ hx 1 _ rfl)
      have x2 := over_cell (hrow k _ hx 2 _ rfl)
      have x3 := over_cell (hrow k _ hx 3 _ rfl)
      have y0 := over_cell (krow k _ hy 0 _ rfl)
      have y1 := over_cell (krow k _ hy 1 _ rfl)
      have y2 := over_cell (krow k _ hy 2 _ rfl)
      have y3 := over_cell (krow k _ hy 3 _ rfl)
      have hxo := H1.out.ok (List.mem_of_getElem? hx)
      have hyo := H2.out.ok (List.mem_of_getElem? hy)
      obtain ⟨⟨xp, xv, xoff, xts⟩, xb, xls⟩ := x
      obtain ⟨⟨yp, yv, yoff, yts⟩, yb, yls⟩ := y
      simp only [elClx, Nat.add_zero] at x0 x1 x2 x3 y0 y1 y2 y3
      simp only [Clx.pur, Atx.pur, PCls.st, PAtom.st, PCls.mk.injEq, PAtom.mk.injEq, List.map_map] at hpq
      obtain ⟨⟨rfl, hts, -⟩, hpb⟩ := hpq
      have HS := hide (fun W (hb : Below wr.heap.size wr W) => sameAtom4 xp xoff yoff xts yts xv yv (((show Lst elTrm w (fun _ => True) xv xts from hxo.1.2.2).kept HB.out).kept hb) (((show Lst elTrm w (fun _ => True) yv yts from hyo.1.2.2).kept HB.out).kept hb) hts)
      have HT := hide (fun W (hb : Below wr.heap.size wr W) => sameBody4 (((show Lst elLix w (fun _ => True) xb xls from hxo.2).kept HB.out).kept hb) (((show Lst elLix w (fun _ => True) yb yls from hyo.2).kept HB.out).kept hb) hpb)
      have hll : yls.length = xls.length := by have := congrArg List.length hpb; simp only [List.length_map] at this; exact this.symm
      obtain ⟨xa, xc, rfl, -⟩ := (show Lst elTrm w (fun _ => True) xv xts from hxo.1.2.2).shape
      obtain ⟨ya, yc, rfl, -⟩ := (show Lst elTrm w (fun _ => True) yv yts from hyo.1.2.2).shape
      obtain ⟨xd, xe, rfl, -⟩ := (show Lst elLix w (fun _ => True) xb xls from hxo.2).shape
      obtain ⟨yd, ye, rfl, -⟩ := (show Lst elLix w (fun _ => True) yb yls from hyo.2).shape
      clear hrow hx krow hy hxo hyo hts hpb hll
      go_wp2
      refine wp_region_over (fun W => W = wr) (by kernel_rfl) (by kernel_rfl) rfl ?_
      rintro W rfl
      have t1 := over_cell s1
      have t2 := over_cell s2
      clear s1 s2
      repeat (go_big_quiet_step (first | (go_at_call 37; exact calls_over (HS.out _ (over_below _ _))) | (go_at_call 23; exact calls_over (HT.out _ (over_below _ _)))))
      refine wpQuiet_nil ?_
      rintro _ ⟨z, rfl⟩
      have HB3 := hide (HBy.out.trans ((over_below W z).mono HBy.out.size))
      clear x0 x1 x2 x3 y0 y1 y2 y3 t1 t2 HS HT
      go_wp2
      go_roundw
      case rel => exact ⟨k + 1, by omega, by go_num, HB3⟩
      case measure => simp [intOf]; omega
    · obtain rfl : k = n := by omega
      have hi : ¬ (k : Int) < (k : Int) := by omega
      go_wp2
      go_ret
      exact ⟨rfl, HB.out⟩
end Go.Proofs.YtchhophblejmeaaGreatDoor

namespace Go.Proofs.YtchhophblejmeaaGreatDoor
set_option linter.unusedSimpArgs false
set_option linter.unusedVariables false
open Go.RowKit

def strB (l : List UInt8) : ByteArray := ⟨l.toArray⟩
/-- All that is asked of the text of well formed clauses. -/
theorem text_facts {cs : List Clx} {b : List PCls} (hb : cs.map Clx.pur = b) (h1 : ∀ x ∈ b, okC x) (h2 : b.length ≤ 512) :
    progE (cs.map clsOf) = 0 ∧ (progT cs).length ≤ 100000000000000 ∧ Lined (strB (progT cs)) cs.length := by
  have hl : cs.length ≤ 512 := by rw [← hb, List.length_map] at h2; exact h2
  have e := progT_pur cs
  rw [hb] at e
  obtain ⟨c1, c2, c3⟩ := prog_count b h1
  have hbl : b.length = cs.length := by rw [← hb, List.length_map]
  refine ⟨prog_zero (by rw [hb]; exact h1) hl, ?_, ?_⟩
  · rw [e]
    have : b.length * 600000 ≤ 512 * 600000 := Nat.mul_le_mul_right _ h2
    omega
  · have e2 : (strB (progT cs)).data.toList = pprogT b := by rw [e]; simp [strB]
    refine lined_of ?_ ?_ ?_
    · rw [e2]; exact prog_lines b h1 0
    · rw [e2, c1, hbl]
    · rw [e2]; exact c2
theorem fb_zero (w : World) : (binOp .eql 31 (.agg #[.int .i64 0, .int .i64 0, .int .i64 0]) (.agg #[.int .i64 0, .int .i64 0, .int .i64 0])).run Tryz.prog w = .ok (.bool true) w := fq_zero w

set_option maxRecDepth 100000 in
set_option maxHeartbeats 8000000 in
theorem printBack_walk (ao : Option Addr) (len cap : Nat) (cs : List Cls) (w : World) (h : IsClss w ao len cs) (hl : LexLaid w) (ht : TabLaid w) :
    Calls Tryz.prog 6 #[.agg #[.slice ao len cap]] w fun e w' => e = .returned (.bool true) ∧ Below w.heap.size w w' := by
  obtain ⟨hn5, hok5⟩ := prg4_ok h.2.2.1
  have HPg := hide (fun (V : World) (hb : Below w.heap.size w V) => program4 cs cap (h.kept hb))
  have HL := hide hl
  have HTb := hide ht
  have HOk := hide hok5
  have HN5 := hide hn5
  clear hl ht h hn5 hok5
  generalize prg4 cs = P2 at *
  go_enter Tryz.func6, Tryz.ntmps6
  go_wp2_with fail
  have HB0 := hide (belowA w (.cells #[.slice ao len cap] 47))
  refine (HPg.out _ HB0.out).mono ?_
  intro e w4 hq
  obtain ⟨v, rfl, cs2, hpu, hcl, hls0, hb4⟩ := hq
  have hls := hls0.list (by omega)
  have HB4 := hide (HB0.out.trans (hb4.mono HB0.out.size))
  obtain ⟨f1, f2, f3⟩ := text_facts hpu HOk.out HN5.out
  have HT4 := hide (HTb.out.kept HB4.out)
  have HPr := hide (fun V (hb : Below w4.heap.size w4 V) => printProgram hls HT4.out hb f1 f2)
  obtain ⟨va2, vc2, hv, -, -, -⟩ := hls.shape
  rw [hv] at hls
  have HWl := hide (fun V (hb : Below w4.heap.size w4 V) => well_any va2 cs2.length vc2 (cs2.map clsOf) V (clss_of (hls.kept hb)))
  rw [f1] at HWl
  have HLn : Hid (∀ V, Calls Tryz.prog 9 #[.string (strB (progT cs2)), .int .i64 cs2.length] V fun e w' => e = .returned (.bool true) ∧ Below V.heap.size V w') := fun V => (lines_any _ cs2.length V f3 (by show (progT cs2).toArray.size ≤ _; rw [List.size_toArray]; omega)).mono fun e w' ⟨h1, h2⟩ => ⟨h1, by rw [h2]; exact Below.refl _ _⟩
  have HLs := hide hls
  have HPu := hide hpu
  have HT2 := hide (progT_pur cs2)
  rw [hv] at HPr ⊢
  subst hv
  clear hpu hls hls0 hb4 f1 f3
  obtain ⟨T2, hT2⟩ : ∃ T2, T2 = strB (progT cs2) := ⟨_, rfl⟩
  have e1 : (⟨(progT cs2).toArray⟩ : ByteArray) = T2 := hT2.symm
  have hsz : T2.size ≤ 100000000000000 := by rw [hT2]; show (progT cs2).toArray.size ≤ _; rw [List.size_toArray]; exact f2
  rw [e1] at HPr
  rw [← hT2] at HLn
  have HTT := hide hT2
  clear e1 hT2 f2
  obtain ⟨n2, hn2⟩ : ∃ n2, n2 = cs2.length := ⟨_, rfl⟩
  rw [← hn2] at HPr HWl HLn HLs ⊢
  have HN2 := hide hn2
  clear hn2 HPg
  go_wp2_with fail
  have HB5 : Hid (Below w4.heap.size w4 (w4.alloc (.cells #[.slice va2 n2 vc2] 47))) := belowA _ _
  have c0 : (w4.alloc (.cells #[.slice va2 n2 vc2] 47)).cell? ⟨w4.heap.size, 0, none⟩ = some (.slice va2 n2 vc2) := by simp
  generalize w4.alloc (.cells #[.slice va2 n2 vc2] 47) = W5 at *
  refine (HPr.out W5 HB5.out).mono ?_
  rintro e w6 ⟨rfl, hb6⟩
  have HB6 := hide (HB5.out.trans (hb6.mono HB5.out.size))
  have c6 := kept_cell hb6 c0
  clear hb6 c0 HB5
  go_wp2_with fail
  refine (HWl.out w6 HB6.out).mono ?_
  rintro e w7 ⟨rfl, hb7⟩
  have HB6b := hide (HB6.out.trans (hb7.mono HB6.out.size))
  have c6b := kept_cell hb7 c6
  clear hb7 c6
  go_wp2_with fail
  refine (HLn.out w7).mono ?_
  rintro e W7 ⟨rfl, hb8⟩
  have HB7 := hide (HB6b.out.trans (hb8.mono HB6b.out.size))
  have c7 := kept_cell hb8 c6b
  clear hb8 c6b HWl HLn HB6 HB6b
  by_cases hlong : 65536 < T2.size
  · have hi : (65536 : Int) < (T2.size : Int) := by omega
    go_wp2
    go_ret
    exact ⟨rfl, HB4.out.trans (HB7.out.mono HB4.out.size)⟩
  · have hi : ¬ (65536 : Int) < (T2.size : Int) := by omega
    have hT : T2.data.toList = pprogT P2 := by rw [HTT.out, ← HPu.out, ← HT2.out]; simp [strB]
    obtain ⟨P3, hP3, hst⟩ := prt_prog hT HOk.out HN5.out (by omega)
    have HB8 := hide (HB4.out.trans (HB7.out.mono HB4.out.size))
    have HL8 := hide (HL.out.kept HB8.out)
    clear hT
    go_wp2_with fail
    refine (parseProgram_any T2 W7 HL8.out (by omega)).mono ?_
    intro e w9 hq
    obtain ⟨v3, cs3, he, hpu3, hcl3, hls3, hb9⟩ := readProg_ok hq hP3
    unfold faultV at he
    subst he
    have HB9 := hide (HB8.out.trans (hb9.mono HB8.out.size))
    have hsame : cs2.map (fun x => x.pur.st) = cs3.map (fun x => x.pur.st) := by
      have e1 : cs2.map (fun x => x.pur.st) = P2.map PCls.st := by rw [← HPu.out, List.map_map]; rfl
      have e2 : cs3.map (fun x => x.pur.st) = P3.map PCls.st := by rw [← hpu3, List.map_map]; rfl
      rw [e1, e2, hst]
    have HLs9 := hide ((HLs.out.kept HB7.out).kept hb9)
    have HLs3 := hide hls3.all
    have HSm := hide (fun V (hb : Below w9.heap.size w9 V) => sameProg4 (HLs9.out.kept hb) (HLs3.out.kept hb) hsame)
    have c9 := kept_cell hb9 c7
    obtain ⟨va3, vc3, hv, -, -, -⟩ := hls3.shape
    subst hv
    clear hq hP3 hst hpu3 hcl3 hls3 hb9 hsame c7
    generalize cs3.length = n3 at *
    have hz := fb_zero
    have c9b := kept_cell (below2a w9 (.cells #[.slice va3 n3 vc3] 47) (.cells #[.int .i64 0, .int .i64 0, .int .i64 0] 31)) c9
    have HBa := hide (below2a w9 (.cells #[.slice va3 n3 vc3] 47) (.cells #[.int .i64 0, .int .i64 0, .int .i64 0] 31))
    clear c9
    go_wp2_with fail
    refine (HSm.out _ HBa.out).mono ?_
    rintro e wa ⟨rfl, hba⟩
    have HBb := hide (HBa.out.trans (hba.mono HBa.out.size))
    clear hba c9b
    go_wp2
    go_ret
    exact ⟨rfl, HB9.out.trans (HBb.out.mono HB9.out.size)⟩
end Go.Proofs.YtchhophblejmeaaGreatDoor
