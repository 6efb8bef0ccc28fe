/- What core.clauseOf answers. -/
import Derived.Test.YthbfkbkcfcpibaaCoreRAtom
import Derived.Test.YthbfkbkcfcpibaaRegionLast
import Derived.Deep.AppendLies
namespace Go.Proofs.Ythbfkbkcfcpibaa
set_option linter.unusedSimpArgs false
set_option linter.unusedVariables false
open Go.RowKit

/-- A literal as plain data. -/
structure LD where
  k : Int
  p : ByteArray
  off : Int
  ts : List Trm
  op : Int
  l : Trm
  r : Trm
  o : Int
def Lix.d (x : Lix) : LD := ⟨x.k, x.a.p, x.a.off, x.a.ts, x.op, x.l, x.r, x.off⟩
def atomL (k : Int) (ps : List Prd) (cs : List Con) (vs : List ByteArray) (p : Pat) : LD := ⟨k, nameP ps p.q, 0, p.ss.map (tP cs vs), 0, noT, noT, 0⟩
def testL (cs : List Con) (vs : List ByteArray) (t : Tes) : LD := ⟨3, ⟨#[]⟩, 0, [], t.op, tP cs vs t.l, tP cs vs t.r, 0⟩
def bodyP (ps : List Prd) (cs : List Con) (r : Rul) : List LD := r.ps.map (atomL 1 ps cs r.vs) ++ r.ts.map (testL cs r.vs) ++ r.ns.map (atomL 2 ps cs r.vs)

/-- A clause that came back: its head and body as they must be, all in new memory. -/
def IsClause (w w' : World) (ps : List Prd) (cs : List Con) (r : Rul) (hv bv : Value) : Prop :=
  Lst elTrm w' (fun b => w.heap.size ≤ b) hv (r.h.ss.map (tP cs r.vs)) ∧ ∃ L : List Lix, Lst elLix w' (fun b => w.heap.size ≤ b) bv L ∧ L.map Lix.d = bodyP ps cs r

theorem nil_size : (⟨#[]⟩ : ByteArray).size ≤ 140737488351232 := by decide
theorem I64_1 : I64 1 := ⟨by decide, by decide⟩
theorem I64_2 : I64 2 := ⟨by decide, by decide⟩
theorem I64_3 : I64 3 := ⟨by decide, by decide⟩
theorem nameP_ok {ps : List Prd} (h : ∀ p ∈ ps, p.s.size ≤ 140737488351232) (q : Int) : (nameP ps q).size ≤ 140737488351232 := by
  unfold nameP
  cases hx : idx ps q with
  | none => decide
  | some x =>
    obtain ⟨k, _, _, h2⟩ := idx_some hx
    exact h x (List.mem_of_getElem? h2)
theorem Try.infoLit7 : (Try.prog.info? 68).map (fun i => (i.zero, i.size, i.bytes)) = some (some (.agg #[.int .i64 0, .string ⟨#[]⟩, .slice none 0 0, .int .i64 0, .int .i64 0, .int .i64 0, .int .i64 0, .string ⟨#[]⟩, .int .i64 0, .int .i64 0, .int .i64 0, .string ⟨#[]⟩, .int .i64 0, .int .i64 0]), 14, 152) := by kernel_rfl

set_option maxRecDepth 100000 in
set_option maxHeartbeats 4000000 in
theorem clauseOf_any {w : World} {pv cv rv fv : Value} {ps : List Prd} {cs : List Con} {r : Rul} (hp : Has elPrd w pv ps) (hc : Has elCon w cv cs) (hr : elRul.ok w (fun _ => True) r) (hw : wholeR ps cs r = true) (hn : r.ps.length + r.ts.length + r.ns.length < 1073741824) :
    Calls Try.prog 16 #[.agg #[pv, cv, rv, fv], .agg #[.int .i64 r.h.q, r.h.v, r.pv, r.tv, r.nv, r.vv, .int .i64 r.c]] w fun e w' => (∃ hv bv, e = .returned (.agg #[.string (nameP ps r.h.q), hv, .int .i64 0, bv]) ∧ IsClause w w' ps cs r hv bv) ∧ Below w.heap.size w w' := by
  obtain ⟨⟨q, hv, hs⟩, pw, l1, tv, l2, nv, l3, vv, vs, cl⟩ := r
  obtain ⟨r0, r1, r2, r3, r4, r5⟩ := elRul_ok hr
  dsimp only at r0 r1 r2 r3 r4 r5 hn ⊢
  unfold wholeR at hw
  simp only [Bool.and_eq_true] at hw
  obtain ⟨w0, w1, w2, w3⟩ := hw
  obtain ⟨ha, hcap, hg, -, -, -⟩ := (elPat_ok r0).2.shape
  dsimp only at hg
  subst hg
  obtain ⟨pa, pc, rfl, -, -, -⟩ := r1.shape
  obtain ⟨ta, tc, rfl, -, -, -⟩ := r2.shape
  obtain ⟨na, nc, rfl, -, -, -⟩ := r3.shape
  have HR0 := hide r0
  have HR1 := hide r1
  have HR2 := hide r2
  have HR3 := hide r3
  have HR4 := hide r4
  have HP := hide hp
  have HC := hide hc
  have HW0 := hide w0
  have HW1 := hide w1
  have HW2 := hide w2
  have HW3 := hide w3
  clear hr r0 r1 r2 r3 r4 r5 hp hc w0 w1 w2 w3
  go_enter Try.func16, Try.ntmps16
  obtain ⟨Y, hY⟩ : ∃ Y, Y = (((w.alloc (.cells #[pv, cv, rv, fv] 27)).alloc (.cells #[.int .i64 q, .slice ha hs.length hcap, .slice pa l1.length pc, .slice ta l2.length tc, .slice na l3.length nc, vv, .int .i64 cl] 60)).alloc (.cells #[.string ⟨#[]⟩, .slice none 0 0, .int .i64 0, .slice none 0 0] 33)) := ⟨_, rfl⟩
  have HSz : Hid (Y.heap.size = w.heap.size + 1 + 1 + 1) := by show _ = _; rw [hY]; simp
  have HB0 : Hid (Below w.heap.size w Y) := by rw [hY]; exact below3 w _ _ _
  have HX : Hid (coreAt Y w.heap.size pv cv rv fv ∧ ruleAt Y (w.heap.size + 1) q (.slice ha hs.length hcap) (.slice pa l1.length pc) (.slice ta l2.length tc) (.slice na l3.length nc) vv cl ∧ Y.heap[w.heap.size + 1 + 1]? = some (.cells #[.string ⟨#[]⟩, .slice none 0 0, .int .i64 0, .slice none 0 0] 33 (0, 0))) := by
    show _ ∧ _
    rw [hY]
    refine ⟨(coreAt_new _ _ _ _ _ _).kept (belo2 _ _ _), (ruleAt_new _ _ _ _ _ _ _ _ _ (by simp)).kept (belo1 _ _), ?_⟩
    have h1 := heap_alloc_new ((w.alloc (.cells #[pv, cv, rv, fv] 27)).alloc (.cells #[.int .i64 q, .slice ha hs.length hcap, .slice pa l1.length pc, .slice ta l2.length tc, .slice na l3.length nc, vv, .int .i64 cl] 60)) (.cells #[.string ⟨#[]⟩, .slice none 0 0, .int .i64 0, .slice none 0 0] 33)
    rw [size_alloc1, size_alloc1] at h1
    exact h1
  go_upto_region 1 with fail
  rw [← hY]
  clear hY
  obtain ⟨⟨x0, x1, x2, x3⟩, ⟨z0, z1, z2, z3, z4, z5, z6⟩, -⟩ := HX.out
  go_wp2_with fail
  refine (atomOf_any (HP.out.kept HB0.out) (HC.out.kept HB0.out) (HR4.out.kept HB0.out) (elPat.kept HR0.out HB0.out) HW0.out).mono ?_
  rintro e w1 ⟨v1, rfl, hl, h1⟩
  obtain ⟨va, vc, hg, -, -, -⟩ := hl.shape
  rw [List.length_map] at hg
  subst hg
  have HB1 := hide (HB0.out.trans (h1.mono HB0.out.size))
  have HBy := hide h1
  have HH := hide hl
  clear h1 hl x0 x1 x2 x3 z0 z1 z2 z3 z4 z5 z6
  have z2 := (HX.out.2.1.kept (HBy.out.alloc HBy.out.size (.cells #[.string (nameP ps q), .slice va hs.length vc, .int .i64 0, .slice none 0 0] 33))).2.2.1
  go_wp2
  clear z2
  have HNm := hide (fun q' => nameP_ok (ps := ps) (fun p hp => (HP.out.ok hp).1) q')
  obtain ⟨nm, hnm⟩ : ∃ nm, nameP ps q = nm := ⟨_, rfl⟩
  have HN := hide hnm
  rw [hnm]
  clear hnm
  have HA0 : Hid ((w1.alloc (.cells #[.string nm, .slice va hs.length vc, .int .i64 0, .slice none 0 0] 33)).heap[w1.heap.size]? = some (.cells #[.string nm, .slice va hs.length vc, .int .i64 0, .slice none 0 0] 33 (0, 0))) := heap_alloc_new _ _
  have HBz0 : Hid (Below w1.heap.size w1 (w1.alloc (.cells #[.string nm, .slice va hs.length vc, .int .i64 0, .slice none 0 0] 33))) := belo1 _ _
  go_loopw [7, 21] (fun _ i wl => ∃ k : Nat, ∃ ba bc, ∃ L : List Lix, k ≤ l1.length ∧ i = .int .i64 k ∧ Hid (Grow elLix 68 (w1.heap.size + 1) wl (.slice ba L.length bc) L) ∧ Hid (wl.heap[w1.heap.size]? = some (.cells #[.string nm, .slice va hs.length vc, .int .i64 0, .slice ba L.length bc] 33 (0, 0))) ∧ Hid (L.map Lix.d = [] ++ (l1.take k).map (atomL 1 ps cs vs)) ∧ Hid (Below w1.heap.size w1 wl)) (fun _ i _ => l1.length - (intOf i).toNat)
  case atStart => exact ⟨0, none, 0, [], by omega, rfl, Grow.nil _ _ _ _, HA0.out, rfl, HBz0.out⟩
  case round =>
    obtain ⟨k, ba, bc, L, hk, rfl, HG, HA, HD, HB⟩ := hrel
    have hsz : w1.heap.size + 1 ≤ wr.heap.size := lt_of_heap HA.out
    have HBw : Hid (Below w.heap.size w wr) := HB1.out.trans (HB.out.mono HB1.out.size)
    have HBy2 : Hid (Below Y.heap.size Y wr) := HBy.out.trans (HB.out.mono HBy.out.size)
    by_cases hlt : k < l1.length
    · have hi : (k : Int) < (l1.length : Int) := by omega
      have hi0 : (0 : Int) ≤ (k : Int) := by omega
      obtain ⟨b, off, rfl, -, -, hrow⟩ := HR1.out.row (by omega)
      obtain ⟨p, hp⟩ : ∃ s, l1[k]? = some s := ⟨_, List.getElem?_eq_getElem hlt⟩
      have HOk := hide (HR1.out.ok (List.mem_of_getElem? hp))
      have x0 := kept_cell HBw.out (hrow k p hp 0 _ rfl)
      have x1 := kept_cell HBw.out (hrow k p hp 1 _ rfl)
      simp only [elPat, Nat.add_zero] at x0 x1
      have HTk : Hid ((l1.take (k + 1)).map (atomL 1 ps cs vs) = (l1.take k).map (atomL 1 ps cs vs) ++ [atomL 1 ps cs vs p]) := by show _ = _; rw [List.take_add_one, hp, List.map_append]; rfl
      have HWp := hide (List.all_eq_true.1 HW1.out p (List.mem_of_getElem? hp))
      have HLl : Hid (L.length < 1073741824) := by
        show _ < _
        have := congrArg List.length HD.out
        simp only [List.length_map, List.length_append, List.length_take, List.length_nil] at this
        omega
      clear hrow hp
      obtain ⟨pq, pvv, ss⟩ := p
      obtain ⟨ga, gc, hg, -, -, -⟩ := (elPat_ok HOk.out).2.shape
      dsimp only at hg
      subst hg
      dsimp only at x0 x1
      obtain ⟨Z, hZ⟩ : ∃ Z, Z = wr.alloc (.cells #[.int .i64 pq, .slice ga ss.length gc] 56) := ⟨_, rfl⟩
      have HZ : Hid (Below wr.heap.size wr Z) := by rw [hZ]; exact belo1 _ _
      have HZs : Hid (Z.heap.size = wr.heap.size + 1) := by show _ = _; rw [hZ]; simp
      have HPz : Hid (Z.cell? ⟨wr.heap.size, 0, none⟩ = some (.int .i64 pq) ∧ Z.cell? ⟨wr.heap.size, 1, none⟩ = some (.slice ga ss.length gc)) := by show _ ∧ _; rw [hZ]; refine ⟨?_, ?_⟩ <;> simp
      have HSc : Hid (∀ V : World, Below Z.heap.size Z V → V.cell? ⟨w.heap.size, 0, none⟩ = some pv ∧ V.cell? ⟨w.heap.size, 1, none⟩ = some cv ∧ V.cell? ⟨w.heap.size, 2, none⟩ = some rv ∧ V.cell? ⟨w.heap.size, 3, none⟩ = some fv ∧ V.cell? ⟨w.heap.size + 1, 0, none⟩ = some (.int .i64 q) ∧ V.cell? ⟨w.heap.size + 1, 1, none⟩ = some (.slice ha hs.length hcap) ∧ V.cell? ⟨w.heap.size + 1, 2, none⟩ = some (.slice (some ⟨b, off, none⟩) l1.length pc) ∧ V.cell? ⟨w.heap.size + 1, 3, none⟩ = some (.slice ta l2.length tc) ∧ V.cell? ⟨w.heap.size + 1, 4, none⟩ = some (.slice na l3.length nc) ∧ V.cell? ⟨w.heap.size + 1, 5, none⟩ = some vv ∧ V.cell? ⟨w.heap.size + 1, 6, none⟩ = some (.int .i64 cl) ∧ V.cell? ⟨wr.heap.size, 0, none⟩ = some (.int .i64 pq) ∧ V.cell? ⟨wr.heap.size, 1, none⟩ = some (.slice ga ss.length gc) ∧ V.cell? ⟨w1.heap.size, 3, none⟩ = some (.slice ba L.length bc)) := fun V hV => by
        have hYV := HBy2.out.trans ((HZ.out.trans (hV.mono HZ.out.size)).mono HBy2.out.size)
        obtain ⟨c0, c1, c2, c3⟩ := HX.out.1.kept hYV
        obtain ⟨r0, r1, r2, r3, r4, r5, r6⟩ := HX.out.2.1.kept hYV
        obtain ⟨s0, s1⟩ := HPz.out
        exact ⟨c0, c1, c2, c3, r0, r1, r2, r3, r4, r5, r6, kept_cell hV s0, kept_cell hV s1, kept_cell hV (kept_cell HZ.out (by simp [World.cell?, HA.out]))⟩
      have HBz := hide (HBw.out.trans (HZ.out.mono HBw.out.size))
      have HCa : Hid (∀ V : World, Below w.heap.size w V → Calls Try.prog 28 #[.agg #[pv, cv, rv, fv], .agg #[.int .i64 q, .slice ha hs.length hcap, .slice (some ⟨b, off, none⟩) l1.length pc, .slice ta l2.length tc, .slice na l3.length nc, vv, .int .i64 cl], .agg #[.int .i64 pq, .slice ga ss.length gc]] V fun e w' => ∃ v, e = .returned (.agg #[.string (nameP ps pq), v, .int .i64 0]) ∧ Lst elTrm w' (fun b => V.heap.size ≤ b) v (ss.map (tP cs vs)) ∧ Below V.heap.size V w') := fun V hV => atomOf_any (p := ⟨pq, .slice ga ss.length gc, ss⟩) (HP.out.kept hV) (HC.out.kept hV) (HR4.out.kept hV) (elPat.kept HOk.out hV) HWp.out
      obtain ⟨i0, hi0', hz0, hz1, hz2⟩ := info_parts Try.infoLit7
      go_upto_region 5 with fail
      rw [← hZ]
      clear hZ x0 x1
      refine wp_region_last (by kernel_rfl) (fun V => V.cell? ⟨w.heap.size, 0, none⟩ = some pv ∧ V.cell? ⟨w.heap.size, 1, none⟩ = some cv ∧ V.cell? ⟨w.heap.size, 2, none⟩ = some rv ∧ V.cell? ⟨w.heap.size, 3, none⟩ = some fv ∧ V.cell? ⟨w.heap.size + 1, 0, none⟩ = some (.int .i64 q) ∧ V.cell? ⟨w.heap.size + 1, 1, none⟩ = some (.slice ha hs.length hcap) ∧ V.cell? ⟨w.heap.size + 1, 2, none⟩ = some (.slice (some ⟨b, off, none⟩) l1.length pc) ∧ V.cell? ⟨w.heap.size + 1, 3, none⟩ = some (.slice ta l2.length tc) ∧ V.cell? ⟨w.heap.size + 1, 4, none⟩ = some (.slice na l3.length nc) ∧ V.cell? ⟨w.heap.size + 1, 5, none⟩ = some vv ∧ V.cell? ⟨w.heap.size + 1, 6, none⟩ = some (.int .i64 cl) ∧ V.cell? ⟨wr.heap.size, 0, none⟩ = some (.int .i64 pq) ∧ V.cell? ⟨wr.heap.size, 1, none⟩ = some (.slice ga ss.length gc) ∧ V.cell? ⟨w1.heap.size, 3, none⟩ = some (.slice ba L.length bc)) 10 ?_
      have HS1 := HSc.out Z.drew (Below.refl _ Z).drew
      refine wpAnyM_take (i := 0) (v := ?_) rfl (by kernel_rfl) (by kernel_rfl) (by kernel_rfl) (by kernel_rfl) (fun _ _ _ h => h) HS1 (Or.inl ⟨by rfl, ?_⟩) ?_
      rotate_left
      · (intro w hSw; (try dsimp only at hSw); go_simp; try with_reducible rfl)
      simp only [Act.put, List.setIfInBounds_toArray, List.set_cons_zero, List.set_cons_succ]
      refine wpAnyM_take (i := 1) (v := ?_) rfl (by kernel_rfl) (by kernel_rfl) (by kernel_rfl) (by kernel_rfl) (fun _ _ _ h => h) HS1 (Or.inl ⟨by rfl, ?_⟩) ?_
      rotate_left
      · (intro w hSw; (try dsimp only at hSw); go_simp; try with_reducible rfl)
      simp only [Act.put, List.setIfInBounds_toArray, List.set_cons_zero, List.set_cons_succ]
      refine wpAnyM_take (i := 2) (v := ?_) rfl (by kernel_rfl) (by kernel_rfl) (by kernel_rfl) (by kernel_rfl) (fun _ _ _ h => h) HS1 (Or.inl ⟨by rfl, ?_⟩) ?_
      rotate_left
      · (intro w hSw; (try dsimp only at hSw); go_simp; try with_reducible rfl)
      simp only [Act.put, List.setIfInBounds_toArray, List.set_cons_zero, List.set_cons_succ]
      refine wpAnyM_take (i := 3) (v := ?_) rfl (by kernel_rfl) (by kernel_rfl) (by kernel_rfl) (by kernel_rfl) (fun _ _ _ h => h) HS1 (Or.inl ⟨by rfl, ?_⟩) ?_
      rotate_left
      · (intro w hSw; (try dsimp only at hSw); go_simp; try with_reducible rfl)
      simp only [Act.put, List.setIfInBounds_toArray, List.set_cons_zero, List.set_cons_succ]
      refine wpAnyM_take (i := 4) (v := ?_) rfl (by kernel_rfl) (by kernel_rfl) (by kernel_rfl) (by kernel_rfl) (fun _ _ _ h => h) HS1 (Or.inl ⟨by rfl, ?_⟩) ?_
      rotate_left
      · (intro w hSw; (try dsimp only at hSw); go_simp; try with_reducible rfl)
      simp only [Act.put, List.setIfInBounds_toArray, List.set_cons_zero, List.set_cons_succ]
      refine wpAnyM_one (i := 5) (by kernel_rfl) rfl (fun K hK => ?_)
      go_simp
      refine (HCa.out _ HBz.out.drew).mono ?_
      rintro e w2 ⟨v2, rfl, hl2, h2⟩
      obtain ⟨ua, uc, hu, -, -, -⟩ := hl2.shape
      rw [List.length_map] at hu
      subst hu
      have HB2 : Hid (Below Z.heap.size Z w2) := ((Below.refl _ Z).drew).trans h2
      have HL2 := hide hl2
      clear h2 hl2 HS1
      have HS2 := HSc.out w2 HB2.out
      refine hK.out _ _ HS2 (fun _ => ?_)
      clear hK K
      try simp only [Act.put, List.setIfInBounds_toArray, List.set_cons_zero, List.set_cons_succ]
      refine wpAnyM_one (i := 6) (by kernel_rfl) rfl (fun K hK => ?_)
      go_simp
      refine hK.out _ _ HS2 (fun _ => ?_)
      clear hK K
      have HS3 := HSc.out (w2.alloc (.cells #[.int .i64 1, .string (nameP ps pq), .slice ua ss.length uc, .int .i64 0, .int .i64 0, .int .i64 0, .int .i64 0, .string ⟨#[]⟩, .int .i64 0, .int .i64 0, .int .i64 0, .string ⟨#[]⟩, .int .i64 0, .int .i64 0] 68)) (HB2.out.alloc HB2.out.size _)
      refine wpAnyM_one (i := 7) (by kernel_rfl) rfl (fun K hK => ?_)
      go_simp
      refine hK.out _ _ HS3 (fun _ => ?_)
      clear hK K
      have HOw := hide (HG.out.kept ((HZ.out.trans (HB2.out.mono HZ.out.size)).trans ((belo1 w2 (.cells #[.int .i64 1, .string (nameP ps pq), .slice ua ss.length uc, .int .i64 0, .int .i64 0, .int .i64 0, .int .i64 0, .string ⟨#[]⟩, .int .i64 0, .int .i64 0, .int .i64 0, .string ⟨#[]⟩, .int .i64 0, .int .i64 0] 68)).mono (Nat.le_trans HZ.out.size HB2.out.size))))
      have hzs := HZs.out
      have hz2s := HB2.out.size
      refine wpAnyM_one (i := 8) (by kernel_rfl) rfl (fun K hK => ?_)
      refine step_append_lies _ (by rfl) _ _ _ (by rfl) (w1.heap.size + 1) 68 i0 _ 14 152 Try.underlying31 hi0' hz0 hz1 hz2 rfl (by decide) (.slice ba L.length bc) L.length (L.flatMap elLix.cells) (by rfl) HOw.out.1 ⟨w2.heap.size, 0, none⟩ 1 1 [.int .i64 1, .string (nameP ps pq), .slice ua ss.length uc, .int .i64 0, .int .i64 0, .int .i64 0, .int .i64 0, .string ⟨#[]⟩, .int .i64 0, .int .i64 0, .int .i64 0, .string ⟨#[]⟩, .int .i64 0, .int .i64 0] (by rfl) (by rfl) (World.news_of_block (cs := #[.int .i64 1, .string (nameP ps pq), .slice ua ss.length uc, .int .i64 0, .int .i64 0, .int .i64 0, .int .i64 0, .string ⟨#[]⟩, .int .i64 0, .int .i64 0, .int .i64 0, .string ⟨#[]⟩, .int .i64 0, .int .i64 0]) (t := 68) (fr := (0, 0)) (heap_alloc_new w2 _)) (by simp [Value.oneCell']) (by omega) (by have := HLl.out; unfold maxLen; omega) (by have := HLl.out; omega) (by simp; omega) (w2.heap.size + 1) (by simp) ?_
      intro gg cap2 w5 hown5 hgrow hat hlt5
      have HG5 := hide (HOw.out.push (x := (⟨1, ⟨nameP ps pq, .slice ua ss.length uc, 0, ss.map (tP cs vs)⟩, 0, noT, noT, 0⟩ : Lix)) ⟨I64_1, ⟨HNm.out pq, I64_0, (HL2.out.move (G := fun b => w1.heap.size + 1 ≤ b ∧ (Value.slice ba L.length bc).ownBlock ≠ some b) fun b _ hF => ⟨⟨by have hF' : Z.heap.size ≤ b := hF; rw [HZs.out] at hF'; omega, fun e => by have := own_lt6 HG.out.1 b e; have hF' : Z.heap.size ≤ b := hF; rw [HZs.out] at hF'; omega⟩, rfl⟩).move fun b hlt hF => ⟨hF, heap_alloc_old _ _ hlt⟩⟩, I64_0, noT_ok, noT_ok, I64_0⟩ rfl (size_alloc1 w2 _) hown5 hgrow hat)
      have hlow : ∀ b, b < w1.heap.size + 1 → w5.heap[b]? = wr.heap[b]? := fun b hb => by rw [HOw.out.low hgrow hb (by simp; omega), heap_alloc_old _ _ (by omega), HB2.out.block _ (by omega), HZ.out.block _ (by omega)]
      have HA5 : Hid (w5.heap[w1.heap.size]? = some (.cells #[.string nm, .slice va hs.length vc, .int .i64 0, .slice ba L.length bc] 33 (0, 0))) := by show _ = _; rw [hlow _ (by omega)]; exact HA.out
      have HB5 : Hid (Below w1.heap.size w1 w5) := (((HB.out.trans (HZ.out.mono HB.out.size)).trans (HB2.out.mono (Nat.le_trans HB.out.size HZ.out.size))).alloc (by omega) _).grown hgrow (by simp; omega) (fun j hj => by have := own_new HG.out.1 j hj; omega)
      have HS5 : w5.cell? ⟨w.heap.size, 0, none⟩ = some pv ∧ w5.cell? ⟨w.heap.size, 1, none⟩ = some cv ∧ w5.cell? ⟨w.heap.size, 2, none⟩ = some rv ∧ w5.cell? ⟨w.heap.size, 3, none⟩ = some fv ∧ w5.cell? ⟨w.heap.size + 1, 0, none⟩ = some (.int .i64 q) ∧ w5.cell? ⟨w.heap.size + 1, 1, none⟩ = some (.slice ha hs.length hcap) ∧ w5.cell? ⟨w.heap.size + 1, 2, none⟩ = some (.slice (some ⟨b, off, none⟩) l1.length pc) ∧ w5.cell? ⟨w.heap.size + 1, 3, none⟩ = some (.slice ta l2.length tc) ∧ w5.cell? ⟨w.heap.size + 1, 4, none⟩ = some (.slice na l3.length nc) ∧ w5.cell? ⟨w.heap.size + 1, 5, none⟩ = some vv ∧ w5.cell? ⟨w.heap.size + 1, 6, none⟩ = some (.int .i64 cl) ∧ w5.cell? ⟨wr.heap.size, 0, none⟩ = some (.int .i64 pq) ∧ w5.cell? ⟨wr.heap.size, 1, none⟩ = some (.slice ga ss.length gc) ∧ w5.cell? ⟨w1.heap.size, 3, none⟩ = some (.slice ba L.length bc) := by
        have hx := HSc.out Z (Below.refl _ _)
        have hq : w5.heap[wr.heap.size]? = Z.heap[wr.heap.size]? := by rw [hgrow.block wr.heap.size (by simp; omega) (fun e => by have := own_lt6 HG.out.1 _ e.symm; omega), heap_alloc_old _ _ (by omega), HB2.out.block _ (by omega)]
        have hle := HB1.out.size
        have hle2 := HBy.out.size
        rw [HSz.out] at hle2
        have hcell : ∀ b o, b < w1.heap.size + 1 → w5.cell? ⟨b, o, none⟩ = Z.cell? ⟨b, o, none⟩ := fun b o hb => World.cell?_of_block (by show w5.heap[b]? = Z.heap[b]?; rw [hlow b hb, HZ.out.block _ (by omega)])
        have hcell2 : ∀ o, w5.cell? ⟨wr.heap.size, o, none⟩ = Z.cell? ⟨wr.heap.size, o, none⟩ := fun o => World.cell?_of_block hq
        refine ⟨?_, ?_, ?_, ?_, ?_, ?_, ?_, ?_, ?_, ?_, ?_, ?_, ?_, ?_⟩ <;> first | (rw [hcell _ _ (by omega)]; simp only [hx]) | (rw [hcell2]; simp only [hx])
      clear hown5 hgrow hat hlt5 HS3
      have ha5 : w5.cell? ⟨w1.heap.size, 3, none⟩ = some (.slice ba L.length bc) := by simp [World.cell?, HA5.out]
      have hf5 : w5.frozen? ⟨w1.heap.size, 3, none⟩ = false := by simp [World.frozen?, HA5.out]
      refine hK.out _ _ HS5 (fun _ => ?_)
      clear hK K
      try simp only [Act.put, List.setIfInBounds_toArray, List.set_cons_zero, List.set_cons_succ]
      refine wpAnyM_one (i := 9) (by kernel_rfl) rfl (fun K hK => ?_)
      go_simp
      refine hK.out _ _ HS5 (fun _ => ?_)
      clear hK K
      clear HS5 HS2 HSc
      refine wpAnyM_end (by kernel_rfl) rfl (by kernel_rfl) (fun K hK => ?_)
      go_simp
      refine hK.out _ _ ?_
      clear hK K
      go_wp2
      go_roundw
      case rel =>
        refine ⟨k + 1, some ⟨gg, 0, none⟩, cap2, L ++ [(⟨1, ⟨nameP ps pq, .slice ua ss.length uc, 0, ss.map (tP cs vs)⟩, 0, noT, noT, 0⟩ : Lix)], by omega, by go_num, ?_, ?_, ?_, HB5.out.setCell (by dsimp only; omega) _⟩
        · rw [List.length_append]
          exact HG5.out.above fun b hb _ => heap_other (by omega)
        · show _ = _
          rw [List.length_append]
          exact heap_set1 HA5.out
        · show _ = _
          rw [HTk.out, List.map_append, HD.out, ← List.append_assoc]
          rfl
      case measure => simp [intOf]; omega
    · obtain rfl : k = l1.length := by omega
      have hi : ¬ (l1.length : Int) < (l1.length : Int) := by omega
      rw [List.take_of_length_le (Nat.le_refl _)] at HD
      rw [List.nil_append] at HD
      have z3 := (HX.out.2.1.kept HBy2.out).2.2.2.1
      clear HBw
      rename_i wr1
      go_wp2
      clear z3
      go_loopw [9, 39] (fun _ i wl => ∃ k : Nat, ∃ ba bc, ∃ L : List Lix, k ≤ l2.length ∧ i = .int .i64 k ∧ Hid (Grow elLix 68 (w1.heap.size + 1) wl (.slice ba L.length bc) L) ∧ Hid (wl.heap[w1.heap.size]? = some (.cells #[.string nm, .slice va hs.length vc, .int .i64 0, .slice ba L.length bc] 33 (0, 0))) ∧ Hid (L.map Lix.d = l1.map (atomL 1 ps cs vs) ++ (l2.take k).map (testL cs vs)) ∧ Hid (Below w1.heap.size w1 wl)) (fun _ i _ => l2.length - (intOf i).toNat)
      case atStart => exact ⟨0, ba, bc, L, by omega, rfl, HG, HA, by show _ = _; rw [HD.out]; simp, HB⟩
      case round =>
        obtain ⟨k, ba, bc, L, hk, rfl, HG, HA, HD, HB⟩ := hrel
        have hsz : w1.heap.size + 1 ≤ wr.heap.size := lt_of_heap HA.out
        have HBw : Hid (Below w.heap.size w wr) := HB1.out.trans (HB.out.mono HB1.out.size)
        have HBy2 : Hid (Below Y.heap.size Y wr) := HBy.out.trans (HB.out.mono HBy.out.size)
        by_cases hlt : k < l2.length
        · have hi : (k : Int) < (l2.length : Int) := by omega
          have hi0 : (0 : Int) ≤ (k : Int) := by omega
          obtain ⟨b, off, rfl, -, -, hrow⟩ := HR2.out.row (by omega)
          obtain ⟨p, hp⟩ : ∃ s, l2[k]? = some s := ⟨_, List.getElem?_eq_getElem hlt⟩
          have HOk := hide (HR2.out.ok (List.mem_of_getElem? hp))
          have x0 := kept_cell HBw.out (hrow k p hp 0 _ rfl)
          have x1 := kept_cell HBw.out (hrow k p hp 1 _ rfl)
          have x2 := kept_cell HBw.out (hrow k p hp 2 _ rfl)
          have x3 := kept_cell HBw.out (hrow k p hp 3 _ rfl)
          have x4 := kept_cell HBw.out (hrow k p hp 4 _ rfl)
          simp only [elTes, Nat.add_zero] at x0 x1 x2 x3 x4
          have HTk : Hid ((l2.take (k + 1)).map (testL cs vs) = (l2.take k).map (testL cs vs) ++ [testL cs vs p]) := by show _ = _; rw [List.take_add_one, hp, List.map_append]; rfl
          have HWp := hide (List.all_eq_true.1 HW3.out p (List.mem_of_getElem? hp))
          have HLl : Hid (L.length < 1073741824) := by
            show _ < _
            have := congrArg List.length HD.out
            simp only [List.length_map, List.length_append, List.length_take, List.length_nil] at this
            omega
          clear hrow hp
          obtain ⟨op, ⟨lv, ln⟩, ⟨rw', rn⟩⟩ := p
          dsimp only at x0 x1 x2 x3 x4
          obtain ⟨Z, hZ⟩ : ∃ Z, Z = wr.alloc (.cells #[.int .i64 op, .bool lv, .int .i64 ln, .bool rw', .int .i64 rn] 74) := ⟨_, rfl⟩
          have HZ : Hid (Below wr.heap.size wr Z) := by rw [hZ]; exact belo1 _ _
          have HZs : Hid (Z.heap.size = wr.heap.size + 1) := by show _ = _; rw [hZ]; simp
          have HPz : Hid (Z.cell? ⟨wr.heap.size, 0, none⟩ = some (.int .i64 op) ∧ Z.cell? ⟨wr.heap.size, 1, none⟩ = some (.bool lv) ∧ Z.cell? ⟨wr.heap.size, 2, none⟩ = some (.int .i64 ln) ∧ Z.cell? ⟨wr.heap.size, 3, none⟩ = some (.bool rw') ∧ Z.cell? ⟨wr.heap.size, 4, none⟩ = some (.int .i64 rn)) := by show _ ∧ _; rw [hZ]; refine ⟨?_, ?_, ?_, ?_, ?_⟩ <;> simp
          have HSc : Hid (∀ V : World, Below Z.heap.size Z V → V.cell? ⟨w.heap.size, 0, none⟩ = some pv ∧ V.cell? ⟨w.heap.size, 1, none⟩ = some cv ∧ V.cell? ⟨w.heap.size, 2, none⟩ = some rv ∧ V.cell? ⟨w.heap.size, 3, none⟩ = some fv ∧ V.cell? ⟨w.heap.size + 1, 0, none⟩ = some (.int .i64 q) ∧ V.cell? ⟨w.heap.size + 1, 1, none⟩ = some (.slice ha hs.length hcap) ∧ V.cell? ⟨w.heap.size + 1, 2, none⟩ = some (.slice pa l1.length pc) ∧ V.cell? ⟨w.heap.size + 1, 3, none⟩ = some (.slice (some ⟨b, off, none⟩) l2.length tc) ∧ V.cell? ⟨w.heap.size + 1, 4, none⟩ = some (.slice na l3.length nc) ∧ V.cell? ⟨w.heap.size + 1, 5, none⟩ = some vv ∧ V.cell? ⟨w.heap.size + 1, 6, none⟩ = some (.int .i64 cl) ∧ V.cell? ⟨wr.heap.size, 0, none⟩ = some (.int .i64 op) ∧ V.cell? ⟨wr.heap.size, 1, none⟩ = some (.bool lv) ∧ V.cell? ⟨wr.heap.size, 2, none⟩ = some (.int .i64 ln) ∧ V.cell? ⟨wr.heap.size, 3, none⟩ = some (.bool rw') ∧ V.cell? ⟨wr.heap.size, 4, none⟩ = some (.int .i64 rn) ∧ V.cell? ⟨w1.heap.size, 3, none⟩ = some (.slice ba L.length bc)) := fun V hV => by
            have hYV := HBy2.out.trans ((HZ.out.trans (hV.mono HZ.out.size)).mono HBy2.out.size)
            obtain ⟨c0, c1, c2, c3⟩ := HX.out.1.kept hYV
            obtain ⟨r0, r1, r2, r3, r4, r5, r6⟩ := HX.out.2.1.kept hYV
            obtain ⟨s0, s1, s2, s3, s4⟩ := HPz.out
            exact ⟨c0, c1, c2, c3, r0, r1, r2, r3, r4, r5, r6, kept_cell hV s0, kept_cell hV s1, kept_cell hV s2, kept_cell hV s3, kept_cell hV s4, kept_cell hV (kept_cell HZ.out (by simp [World.cell?, HA.out]))⟩
          have HBz := hide (HBw.out.trans (HZ.out.mono HBw.out.size))
          have HCa : Hid (∀ V : World, Below w.heap.size w V → ∀ v n, (⟨v, n⟩ : Slo) ∈ [(⟨lv, ln⟩ : Slo), ⟨rw', rn⟩] → Calls Try.prog 29 #[.agg #[pv, cv, rv, fv], .agg #[.int .i64 q, .slice ha hs.length hcap, .slice pa l1.length pc, .slice (some ⟨b, off, none⟩) l2.length tc, .slice na l3.length nc, vv, .int .i64 cl], .agg #[.bool v, .int .i64 n]] V fun e w' => e = .returned (tP cs vs ⟨v, n⟩).val ∧ Below V.heap.size V w') := fun V hV v n hm => termOf_any (s := ⟨v, n⟩) (HC.out.kept hV) (HR4.out.kept hV) (tP_some (List.all_eq_true.1 HWp.out _ hm))
          have HTo := hide (And.intro (tP_ok (cs := cs) (vs := vs) (fun c hc => HC.out.ok hc) (fun s hs => HR4.out.ok hs) ⟨lv, ln⟩) (tP_ok (cs := cs) (vs := vs) (fun c hc => HC.out.ok hc) (fun s hs => HR4.out.ok hs) ⟨rw', rn⟩))
          have hm1 : (⟨lv, ln⟩ : Slo) ∈ [(⟨lv, ln⟩ : Slo), ⟨rw', rn⟩] := by simp
          have hm2 : (⟨rw', rn⟩ : Slo) ∈ [(⟨lv, ln⟩ : Slo), ⟨rw', rn⟩] := by simp
          have HC1 := hide (fun V hV => HCa.out V hV lv ln hm1)
          have HC2 := hide (fun V hV => HCa.out V hV rw' rn hm2)
          have HDl : Hid (testL cs vs ⟨op, ⟨lv, ln⟩, ⟨rw', rn⟩⟩ = ⟨3, ⟨#[]⟩, 0, [], op, tP cs vs ⟨lv, ln⟩, tP cs vs ⟨rw', rn⟩, 0⟩) := rfl
          generalize tP cs vs ⟨lv, ln⟩ = t1 at *
          generalize tP cs vs ⟨rw', rn⟩ = t2 at *
          obtain ⟨t1k, t1n, t1s, t1o⟩ := t1
          obtain ⟨t2k, t2n, t2s, t2o⟩ := t2
          unfold Trm.val at HC1 HC2
          clear HCa hm1 hm2
          obtain ⟨i0, hi0', hz0, hz1, hz2⟩ := info_parts Try.infoLit7
          go_upto_region 10 with fail
          rw [← hZ]
          clear hZ x0 x1 x2 x3 x4
          refine wp_region_last (by kernel_rfl) (fun V => V.cell? ⟨w.heap.size, 0, none⟩ = some pv ∧ V.cell? ⟨w.heap.size, 1, none⟩ = some cv ∧ V.cell? ⟨w.heap.size, 2, none⟩ = some rv ∧ V.cell? ⟨w.heap.size, 3, none⟩ = some fv ∧ V.cell? ⟨w.heap.size + 1, 0, none⟩ = some (.int .i64 q) ∧ V.cell? ⟨w.heap.size + 1, 1, none⟩ = some (.slice ha hs.length hcap) ∧ V.cell? ⟨w.heap.size + 1, 2, none⟩ = some (.slice pa l1.length pc) ∧ V.cell? ⟨w.heap.size + 1, 3, none⟩ = some (.slice (some ⟨b, off, none⟩) l2.length tc) ∧ V.cell? ⟨w.heap.size + 1, 4, none⟩ = some (.slice na l3.length nc) ∧ V.cell? ⟨w.heap.size + 1, 5, none⟩ = some vv ∧ V.cell? ⟨w.heap.size + 1, 6, none⟩ = some (.int .i64 cl) ∧ V.cell? ⟨wr.heap.size, 0, none⟩ = some (.int .i64 op) ∧ V.cell? ⟨wr.heap.size, 1, none⟩ = some (.bool lv) ∧ V.cell? ⟨wr.heap.size, 2, none⟩ = some (.int .i64 ln) ∧ V.cell? ⟨wr.heap.size, 3, none⟩ = some (.bool rw') ∧ V.cell? ⟨wr.heap.size, 4, none⟩ = some (.int .i64 rn) ∧ V.cell? ⟨w1.heap.size, 3, none⟩ = some (.slice ba L.length bc)) 18 ?_
          have HS1 := HSc.out Z.drew (Below.refl _ Z).drew
          refine wpAnyM_take (i := 0) (v := ?_) rfl (by kernel_rfl) (by kernel_rfl) (by kernel_rfl) (by kernel_rfl) (fun _ _ _ h => h) HS1 (Or.inl ⟨by rfl, ?_⟩) ?_
          rotate_left
          · (intro w hSw; (try dsimp only at hSw); go_simp; try with_reducible rfl)
          simp only [Act.put, List.setIfInBounds_toArray, List.set_cons_zero, List.set_cons_succ]
          refine wpAnyM_take (i := 1) (v := ?_) rfl (by kernel_rfl) (by kernel_rfl) (by kernel_rfl) (by kernel_rfl) (fun _ _ _ h => h) HS1 (Or.inl ⟨by rfl, ?_⟩) ?_
          rotate_left
          · (intro w hSw; (try dsimp only at hSw); go_simp; try with_reducible rfl)
          simp only [Act.put, List.setIfInBounds_toArray, List.set_cons_zero, List.set_cons_succ]
          refine wpAnyM_take (i := 2) (v := ?_) rfl (by kernel_rfl) (by kernel_rfl) (by kernel_rfl) (by kernel_rfl) (fun _ _ _ h => h) HS1 (Or.inl ⟨by rfl, ?_⟩) ?_
          rotate_left
          · (intro w hSw; (try dsimp only at hSw); go_simp; try with_reducible rfl)
          simp only [Act.put, List.setIfInBounds_toArray, List.set_cons_zero, List.set_cons_succ]
          refine wpAnyM_take (i := 3) (v := ?_) rfl (by kernel_rfl) (by kernel_rfl) (by kernel_rfl) (by kernel_rfl) (fun _ _ _ h => h) HS1 (Or.inl ⟨by rfl, ?_⟩) ?_
          rotate_left
          · (intro w hSw; (try dsimp only at hSw); go_simp; try with_reducible rfl)
          simp only [Act.put, List.setIfInBounds_toArray, List.set_cons_zero, List.set_cons_succ]
          refine wpAnyM_take (i := 4) (v := ?_) rfl (by kernel_rfl) (by kernel_rfl) (by kernel_rfl) (by kernel_rfl) (fun _ _ _ h => h) HS1 (Or.inl ⟨by rfl, ?_⟩) ?_
          rotate_left
          · (intro w hSw; (try dsimp only at hSw); go_simp; try with_reducible rfl)
          simp only [Act.put, List.setIfInBounds_toArray, List.set_cons_zero, List.set_cons_succ]
          refine wpAnyM_take (i := 5) (v := ?_) rfl (by kernel_rfl) (by kernel_rfl) (by kernel_rfl) (by kernel_rfl) (fun _ _ _ h => h) HS1 (Or.inl ⟨by rfl, ?_⟩) ?_
          rotate_left
          · (intro w hSw; (try dsimp only at hSw); go_simp; try with_reducible rfl)
          simp only [Act.put, List.setIfInBounds_toArray, List.set_cons_zero, List.set_cons_succ]
          refine wpAnyM_take (i := 6) (v := ?_) rfl (by kernel_rfl) (by kernel_rfl) (by kernel_rfl) (by kernel_rfl) (fun _ _ _ h => h) HS1 (Or.inl ⟨by rfl, ?_⟩) ?_
          rotate_left
          · (intro w hSw; (try dsimp only at hSw); go_simp; try with_reducible rfl)
          simp only [Act.put, List.setIfInBounds_toArray, List.set_cons_zero, List.set_cons_succ]
          refine wpAnyM_take (i := 7) (v := ?_) rfl (by kernel_rfl) (by kernel_rfl) (by kernel_rfl) (by kernel_rfl) (fun _ _ _ h => h) HS1 (Or.inl ⟨by rfl, ?_⟩) ?_
          rotate_left
          · (intro w hSw; (try dsimp only at hSw); go_simp; try with_reducible rfl)
          simp only [Act.put, List.setIfInBounds_toArray, List.set_cons_zero, List.set_cons_succ]
          refine wpAnyM_take (i := 9) (v := ?_) rfl (by kernel_rfl) (by kernel_rfl) (by kernel_rfl) (by kernel_rfl) (fun _ _ _ h => h) HS1 (Or.inl ⟨by rfl, ?_⟩) ?_
          rotate_left
          · (intro w hSw; (try dsimp only at hSw); go_simp; try with_reducible rfl)
          simp only [Act.put, List.setIfInBounds_toArray, List.set_cons_zero, List.set_cons_succ]
          refine wpAnyM_take (i := 10) (v := ?_) rfl (by kernel_rfl) (by kernel_rfl) (by kernel_rfl) (by kernel_rfl) (fun _ _ _ h => h) HS1 (Or.inl ⟨by rfl, ?_⟩) ?_
          rotate_left
          · (intro w hSw; (try dsimp only at hSw); go_simp; try with_reducible rfl)
          simp only [Act.put, List.setIfInBounds_toArray, List.set_cons_zero, List.set_cons_succ]
          refine wpAnyM_take (i := 11) (v := ?_) rfl (by kernel_rfl) (by kernel_rfl) (by kernel_rfl) (by kernel_rfl) (fun _ _ _ h => h) HS1 (Or.inl ⟨by rfl, ?_⟩) ?_
          rotate_left
          · (intro w hSw; (try dsimp only at hSw); go_simp; try with_reducible rfl)
          simp only [Act.put, List.setIfInBounds_toArray, List.set_cons_zero, List.set_cons_succ]
          refine wpAnyM_take (i := 12) (v := ?_) rfl (by kernel_rfl) (by kernel_rfl) (by kernel_rfl) (by kernel_rfl) (fun _ _ _ h => h) HS1 (Or.inl ⟨by rfl, ?_⟩) ?_
          rotate_left
          · (intro w hSw; (try dsimp only at hSw); go_simp; try with_reducible rfl)
          simp only [Act.put, List.setIfInBounds_toArray, List.set_cons_zero, List.set_cons_succ]
          refine wpAnyM_one (i := 8) (by kernel_rfl) rfl (fun K hK => ?_)
          go_simp
          refine (HC1.out _ HBz.out.drew).mono ?_
          rintro e w2 ⟨rfl, h2⟩
          have HB2 : Hid (Below Z.heap.size Z w2) := ((Below.refl _ Z).drew).trans h2
          clear h2 HS1
          have HS2 := HSc.out w2 HB2.out
          refine hK.out _ _ HS2 (fun _ => ?_)
          clear hK K
          try simp only [Act.put, List.setIfInBounds_toArray, List.set_cons_zero, List.set_cons_succ]
          refine wpAnyM_one (i := 13) (by kernel_rfl) rfl (fun K hK => ?_)
          go_simp
          refine (HC2.out _ (HBz.out.trans (HB2.out.mono HBz.out.size))).mono ?_
          rintro e w3 ⟨rfl, h2⟩
          have HB3 : Hid (Below Z.heap.size Z w3) := HB2.out.trans (h2.mono HB2.out.size)
          clear h2 HS2 HB2
          have HB2 := HB3
          have HS2 := HSc.out w3 HB2.out
          refine hK.out _ _ HS2 (fun _ => ?_)
          clear hK K
          try simp only [Act.put, List.setIfInBounds_toArray, List.set_cons_zero, List.set_cons_succ]
          refine wpAnyM_one (i := 14) (by kernel_rfl) rfl (fun K hK => ?_)
          go_simp
          refine hK.out _ _ HS2 (fun _ => ?_)
          clear hK K
          have HS3 := HSc.out (w3.alloc (.cells #[.int .i64 3, .string ⟨#[]⟩, .slice none 0 0, .int .i64 0, .int .i64 op, .int .i64 t1k, .int .i64 t1n, .string t1s, .int .i64 t1o, .int .i64 t2k, .int .i64 t2n, .string t2s, .int .i64 t2o, .int .i64 0] 68)) (HB2.out.alloc HB2.out.size _)
          refine wpAnyM_one (i := 15) (by kernel_rfl) rfl (fun K hK => ?_)
          go_simp
          refine hK.out _ _ HS3 (fun _ => ?_)
          clear hK K
          have HOw := hide (HG.out.kept ((HZ.out.trans (HB2.out.mono HZ.out.size)).trans ((belo1 w3 (.cells #[.int .i64 3, .string ⟨#[]⟩, .slice none 0 0, .int .i64 0, .int .i64 op, .int .i64 t1k, .int .i64 t1n, .string t1s, .int .i64 t1o, .int .i64 t2k, .int .i64 t2n, .string t2s, .int .i64 t2o, .int .i64 0] 68)).mono (Nat.le_trans HZ.out.size HB2.out.size))))
          have hzs := HZs.out
          have hz2s := HB2.out.size
          refine wpAnyM_one (i := 16) (by kernel_rfl) rfl (fun K hK => ?_)
          refine step_append_lies _ (by rfl) _ _ _ (by rfl) (w1.heap.size + 1) 68 i0 _ 14 152 Try.underlying31 hi0' hz0 hz1 hz2 rfl (by decide) (.slice ba L.length bc) L.length (L.flatMap elLix.cells) (by rfl) HOw.out.1 ⟨w3.heap.size, 0, none⟩ 1 1 [.int .i64 3, .string ⟨#[]⟩, .slice none 0 0, .int .i64 0, .int .i64 op, .int .i64 t1k, .int .i64 t1n, .string t1s, .int .i64 t1o, .int .i64 t2k, .int .i64 t2n, .string t2s, .int .i64 t2o, .int .i64 0] (by rfl) (by rfl) (World.news_of_block (cs := #[.int .i64 3, .string ⟨#[]⟩, .slice none 0 0, .int .i64 0, .int .i64 op, .int .i64 t1k, .int .i64 t1n, .string t1s, .int .i64 t1o, .int .i64 t2k, .int .i64 t2n, .string t2s, .int .i64 t2o, .int .i64 0]) (t := 68) (fr := (0, 0)) (heap_alloc_new w3 _)) (by simp [Value.oneCell']) (by omega) (by have := HLl.out; unfold maxLen; omega) (by have := HLl.out; omega) (by simp; omega) (w3.heap.size + 1) (by simp) ?_
          intro gg cap2 w5 hown5 hgrow hat hlt5
          have HG5 := hide (HOw.out.push (x := (⟨3, ⟨⟨#[]⟩, .slice none 0 0, 0, []⟩, op, ⟨t1k, t1n, t1s, t1o⟩, ⟨t2k, t2n, t2s, t2o⟩, 0⟩ : Lix)) ⟨I64_3, ⟨nil_size, I64_0, Lst.nil _ _ _⟩, HOk.out.1, HTo.out.1, HTo.out.2, I64_0⟩ rfl (size_alloc1 w3 _) hown5 hgrow hat)
          have hlow : ∀ b, b < w1.heap.size + 1 → w5.heap[b]? = wr.heap[b]? := fun b hb => by rw [HOw.out.low hgrow hb (by simp; omega), heap_alloc_old _ _ (by omega), HB2.out.block _ (by omega), HZ.out.block _ (by omega)]
          have HA5 : Hid (w5.heap[w1.heap.size]? = some (.cells #[.string nm, .slice va hs.length vc, .int .i64 0, .slice ba L.length bc] 33 (0, 0))) := by show _ = _; rw [hlow _ (by omega)]; exact HA.out
          have HB5 : Hid (Below w1.heap.size w1 w5) := (((HB.out.trans (HZ.out.mono HB.out.size)).trans (HB2.out.mono (Nat.le_trans HB.out.size HZ.out.size))).alloc (by omega) _).grown hgrow (by simp; omega) (fun j hj => by have := own_new HG.out.1 j hj; omega)
          have HS5 : w5.cell? ⟨w.heap.size, 0, none⟩ = some pv ∧ w5.cell? ⟨w.heap.size, 1, none⟩ = some cv ∧ w5.cell? ⟨w.heap.size, 2, none⟩ = some rv ∧ w5.cell? ⟨w.heap.size, 3, none⟩ = some fv ∧ w5.cell? ⟨w.heap.size + 1, 0, none⟩ = some (.int .i64 q) ∧ w5.cell? ⟨w.heap.size + 1, 1, none⟩ = some (.slice ha hs.length hcap) ∧ w5.cell? ⟨w.heap.size + 1, 2, none⟩ = some (.slice pa l1.length pc) ∧ w5.cell? ⟨w.heap.size + 1, 3, none⟩ = some (.slice (some ⟨b, off, none⟩) l2.length tc) ∧ w5.cell? ⟨w.heap.size + 1, 4, none⟩ = some (.slice na l3.length nc) ∧ w5.cell? ⟨w.heap.size + 1, 5, none⟩ = some vv ∧ w5.cell? ⟨w.heap.size + 1, 6, none⟩ = some (.int .i64 cl) ∧ w5.cell? ⟨wr.heap.size, 0, none⟩ = some (.int .i64 op) ∧ w5.cell? ⟨wr.heap.size, 1, none⟩ = some (.bool lv) ∧ w5.cell? ⟨wr.heap.size, 2, none⟩ = some (.int .i64 ln) ∧ w5.cell? ⟨wr.heap.size, 3, none⟩ = some (.bool rw') ∧ w5.cell? ⟨wr.heap.size, 4, none⟩ = some (.int .i64 rn) ∧ w5.cell? ⟨w1.heap.size, 3, none⟩ = some (.slice ba L.length bc) := by
            have hx := HSc.out Z (Below.refl _ _)
            have hq : w5.heap[wr.heap.size]? = Z.heap[wr.heap.size]? := by rw [hgrow.block wr.heap.size (by simp; omega) (fun e => by have := own_lt6 HG.out.1 _ e.symm; omega), heap_alloc_old _ _ (by omega), HB2.out.block _ (by omega)]
            have hle := HB1.out.size
            have hle2 := HBy.out.size
            rw [HSz.out] at hle2
            have hcell : ∀ b o, b < w1.heap.size + 1 → w5.cell? ⟨b, o, none⟩ = Z.cell? ⟨b, o, none⟩ := fun b o hb => World.cell?_of_block (by show w5.heap[b]? = Z.heap[b]?; rw [hlow b hb, HZ.out.block _ (by omega)])
            have hcell2 : ∀ o, w5.cell? ⟨wr.heap.size, o, none⟩ = Z.cell? ⟨wr.heap.size, o, none⟩ := fun o => World.cell?_of_block hq
            refine ⟨?_, ?_, ?_, ?_, ?_, ?_, ?_, ?_, ?_, ?_, ?_, ?_, ?_, ?_, ?_, ?_, ?_⟩ <;> first | (rw [hcell _ _ (by omega)]; simp only [hx]) | (rw [hcell2]; simp only [hx])
          clear hown5 hgrow hat hlt5 HS3
          have ha5 : w5.cell? ⟨w1.heap.size, 3, none⟩ = some (.slice ba L.length bc) := by simp [World.cell?, HA5.out]
          have hf5 : w5.frozen? ⟨w1.heap.size, 3, none⟩ = false := by simp [World.frozen?, HA5.out]
          refine hK.out _ _ HS5 (fun _ => ?_)
          clear hK K
          try simp only [Act.put, List.setIfInBounds_toArray, List.set_cons_zero, List.set_cons_succ]
          refine wpAnyM_one (i := 17) (by kernel_rfl) rfl (fun K hK => ?_)
          go_simp
          refine hK.out _ _ HS5 (fun _ => ?_)
          clear hK K
          clear HS5 HS2 HSc
          refine wpAnyM_end (by kernel_rfl) rfl (by kernel_rfl) (fun K hK => ?_)
          go_simp
          refine hK.out _ _ ?_
          clear hK K
          go_wp2
          go_roundw
          case rel =>
            refine ⟨k + 1, some ⟨gg, 0, none⟩, cap2, L ++ [(⟨3, ⟨⟨#[]⟩, .slice none 0 0, 0, []⟩, op, ⟨t1k, t1n, t1s, t1o⟩, ⟨t2k, t2n, t2s, t2o⟩, 0⟩ : Lix)], by omega, by go_num, ?_, ?_, ?_, HB5.out.setCell (by dsimp only; omega) _⟩
            · rw [List.length_append]
              exact HG5.out.above fun b hb _ => heap_other (by omega)
            · show _ = _
              rw [List.length_append]
              exact heap_set1 HA5.out
            · show _ = _
              rw [HTk.out, List.map_append, HD.out, ← List.append_assoc, HDl.out]
              rfl
          case measure => simp [intOf]; omega
        · obtain rfl : k = l2.length := by omega
          have hi : ¬ (l2.length : Int) < (l2.length : Int) := by omega
          rw [List.take_of_length_le (Nat.le_refl _)] at HD
          have z4 := (HX.out.2.1.kept HBy2.out).2.2.2.2.1
          clear HBw
          go_wp2
          clear z4
          go_loopw [11, 65] (fun _ i wl => ∃ k : Nat, ∃ ba bc, ∃ L : List Lix, k ≤ l3.length ∧ i = .int .i64 k ∧ Hid (Grow elLix 68 (w1.heap.size + 1) wl (.slice ba L.length bc) L) ∧ Hid (wl.heap[w1.heap.size]? = some (.cells #[.string nm, .slice va hs.length vc, .int .i64 0, .slice ba L.length bc] 33 (0, 0))) ∧ Hid (L.map Lix.d = (l1.map (atomL 1 ps cs vs) ++ l2.map (testL cs vs)) ++ (l3.take k).map (atomL 2 ps cs vs)) ∧ Hid (Below w1.heap.size w1 wl)) (fun _ i _ => l3.length - (intOf i).toNat)
          case atStart => exact ⟨0, ba, bc, L, by omega, rfl, HG, HA, by show _ = _; rw [HD.out]; simp, HB⟩
          case round =>
            obtain ⟨k, ba, bc, L, hk, rfl, HG, HA, HD, HB⟩ := hrel
            have hsz : w1.heap.size + 1 ≤ wr.heap.size := lt_of_heap HA.out
            have HBw : Hid (Below w.heap.size w wr) := HB1.out.trans (HB.out.mono HB1.out.size)
            have HBy2 : Hid (Below Y.heap.size Y wr) := HBy.out.trans (HB.out.mono HBy.out.size)
            by_cases hlt : k < l3.length
            · have hi : (k : Int) < (l3.length : Int) := by omega
              have hi0 : (0 : Int) ≤ (k : Int) := by omega
              obtain ⟨b, off, rfl, -, -, hrow⟩ := HR3.out.row (by omega)
              obtain ⟨p, hp⟩ : ∃ s, l3[k]? = some s := ⟨_, List.getElem?_eq_getElem hlt⟩
              have HOk := hide (HR3.out.ok (List.mem_of_getElem? hp))
              have x0 := kept_cell HBw.out (hrow k p hp 0 _ rfl)
              have x1 := kept_cell HBw.out (hrow k p hp 1 _ rfl)
              simp only [elPat, Nat.add_zero] at x0 x1
              have HTk : Hid ((l3.take (k + 1)).map (atomL 2 ps cs vs) = (l3.take k).map (atomL 2 ps cs vs) ++ [atomL 2 ps cs vs p]) := by show _ = _; rw [List.take_add_one, hp, List.map_append]; rfl
              have HWp := hide (List.all_eq_true.1 HW2.out p (List.mem_of_getElem? hp))
              have HLl : Hid (L.length < 1073741824) := by
                show _ < _
                have := congrArg List.length HD.out
                simp only [List.length_map, List.length_append, List.length_take, List.length_nil] at this
                omega
              clear hrow hp
              obtain ⟨pq, pvv, ss⟩ := p
              obtain ⟨ga, gc, hg, -, -, -⟩ := (elPat_ok HOk.out).2.shape
              dsimp only at hg
              subst hg
              dsimp only at x0 x1
              obtain ⟨Z, hZ⟩ : ∃ Z, Z = wr.alloc (.cells #[.int .i64 pq, .slice ga ss.length gc] 56) := ⟨_, rfl⟩
              have HZ : Hid (Below wr.heap.size wr Z) := by rw [hZ]; exact belo1 _ _
              have HZs : Hid (Z.heap.size = wr.heap.size + 1) := by show _ = _; rw [hZ]; simp
              have HPz : Hid (Z.cell? ⟨wr.heap.size, 0, none⟩ = some (.int .i64 pq) ∧ Z.cell? ⟨wr.heap.size, 1, none⟩ = some (.slice ga ss.length gc)) := by show _ ∧ _; rw [hZ]; refine ⟨?_, ?_⟩ <;> simp
              have HSc : Hid (∀ V : World, Below Z.heap.size Z V → V.cell? ⟨w.heap.size, 0, none⟩ = some pv ∧ V.cell? ⟨w.heap.size, 1, none⟩ = some cv ∧ V.cell? ⟨w.heap.size, 2, none⟩ = some rv ∧ V.cell? ⟨w.heap.size, 3, none⟩ = some fv ∧ V.cell? ⟨w.heap.size + 1, 0, none⟩ = some (.int .i64 q) ∧ V.cell? ⟨w.heap.size + 1, 1, none⟩ = some (.slice ha hs.length hcap) ∧ V.cell? ⟨w.heap.size + 1, 2, none⟩ = some (.slice pa l1.length pc) ∧ V.cell? ⟨w.heap.size + 1, 3, none⟩ = some (.slice ta l2.length tc) ∧ V.cell? ⟨w.heap.size + 1, 4, none⟩ = some (.slice (some ⟨b, off, none⟩) l3.length nc) ∧ V.cell? ⟨w.heap.size + 1, 5, none⟩ = some vv ∧ V.cell? ⟨w.heap.size + 1, 6, none⟩ = some (.int .i64 cl) ∧ V.cell? ⟨wr.heap.size, 0, none⟩ = some (.int .i64 pq) ∧ V.cell? ⟨wr.heap.size, 1, none⟩ = some (.slice ga ss.length gc) ∧ V.cell? ⟨w1.heap.size, 3, none⟩ = some (.slice ba L.length bc)) := fun V hV => by
                have hYV := HBy2.out.trans ((HZ.out.trans (hV.mono HZ.out.size)).mono HBy2.out.size)
                obtain ⟨c0, c1, c2, c3⟩ := HX.out.1.kept hYV
                obtain ⟨r0, r1, r2, r3, r4, r5, r6⟩ := HX.out.2.1.kept hYV
                obtain ⟨s0, s1⟩ := HPz.out
                exact ⟨c0, c1, c2, c3, r0, r1, r2, r3, r4, r5, r6, kept_cell hV s0, kept_cell hV s1, kept_cell hV (kept_cell HZ.out (by simp [World.cell?, HA.out]))⟩
              have HBz := hide (HBw.out.trans (HZ.out.mono HBw.out.size))
              have HCa : Hid (∀ V : World, Below w.heap.size w V → Calls Try.prog 28 #[.agg #[pv, cv, rv, fv], .agg #[.int .i64 q, .slice ha hs.length hcap, .slice pa l1.length pc, .slice ta l2.length tc, .slice (some ⟨b, off, none⟩) l3.length nc, vv, .int .i64 cl], .agg #[.int .i64 pq, .slice ga ss.length gc]] V fun e w' => ∃ v, e = .returned (.agg #[.string (nameP ps pq), v, .int .i64 0]) ∧ Lst elTrm w' (fun b => V.heap.size ≤ b) v (ss.map (tP cs vs)) ∧ Below V.heap.size V w') := fun V hV => atomOf_any (p := ⟨pq, .slice ga ss.length gc, ss⟩) (HP.out.kept hV) (HC.out.kept hV) (HR4.out.kept hV) (elPat.kept HOk.out hV) HWp.out
              obtain ⟨i0, hi0', hz0, hz1, hz2⟩ := info_parts Try.infoLit7
              go_upto_region 15 with fail
              rw [← hZ]
              clear hZ x0 x1
              refine wp_region_last (by kernel_rfl) (fun V => V.cell? ⟨w.heap.size, 0, none⟩ = some pv ∧ V.cell? ⟨w.heap.size, 1, none⟩ = some cv ∧ V.cell? ⟨w.heap.size, 2, none⟩ = some rv ∧ V.cell? ⟨w.heap.size, 3, none⟩ = some fv ∧ V.cell? ⟨w.heap.size + 1, 0, none⟩ = some (.int .i64 q) ∧ V.cell? ⟨w.heap.size + 1, 1, none⟩ = some (.slice ha hs.length hcap) ∧ V.cell? ⟨w.heap.size + 1, 2, none⟩ = some (.slice pa l1.length pc) ∧ V.cell? ⟨w.heap.size + 1, 3, none⟩ = some (.slice ta l2.length tc) ∧ V.cell? ⟨w.heap.size + 1, 4, none⟩ = some (.slice (some ⟨b, off, none⟩) l3.length nc) ∧ V.cell? ⟨w.heap.size + 1, 5, none⟩ = some vv ∧ V.cell? ⟨w.heap.size + 1, 6, none⟩ = some (.int .i64 cl) ∧ V.cell? ⟨wr.heap.size, 0, none⟩ = some (.int .i64 pq) ∧ V.cell? ⟨wr.heap.size, 1, none⟩ = some (.slice ga ss.length gc) ∧ V.cell? ⟨w1.heap.size, 3, none⟩ = some (.slice ba L.length bc)) 10 ?_
              have HS1 := HSc.out Z.drew (Below.refl _ Z).drew
              refine wpAnyM_take (i := 0) (v := ?_) rfl (by kernel_rfl) (by kernel_rfl) (by kernel_rfl) (by kernel_rfl) (fun _ _ _ h => h) HS1 (Or.inl ⟨by rfl, ?_⟩) ?_
              rotate_left
              · (intro w hSw; (try dsimp only at hSw); go_simp; try with_reducible rfl)
              simp only [Act.put, List.setIfInBounds_toArray, List.set_cons_zero, List.set_cons_succ]
              refine wpAnyM_take (i := 1) (v := ?_) rfl (by kernel_rfl) (by kernel_rfl) (by kernel_rfl) (by kernel_rfl) (fun _ _ _ h => h) HS1 (Or.inl ⟨by rfl, ?_⟩) ?_
              rotate_left
              · (intro w hSw; (try dsimp only at hSw); go_simp; try with_reducible rfl)
              simp only [Act.put, List.setIfInBounds_toArray, List.set_cons_zero, List.set_cons_succ]
              refine wpAnyM_take (i := 2) (v := ?_) rfl (by kernel_rfl) (by kernel_rfl) (by kernel_rfl) (by kernel_rfl) (fun _ _ _ h => h) HS1 (Or.inl ⟨by rfl, ?_⟩) ?_
              rotate_left
              · (intro w hSw; (try dsimp only at hSw); go_simp; try with_reducible rfl)
              simp only [Act.put, List.setIfInBounds_toArray, List.set_cons_zero, List.set_cons_succ]
              refine wpAnyM_take (i := 3) (v := ?_) rfl (by kernel_rfl) (by kernel_rfl) (by kernel_rfl) (by kernel_rfl) (fun _ _ _ h => h) HS1 (Or.inl ⟨by rfl, ?_⟩) ?_
              rotate_left
              · (intro w hSw; (try dsimp only at hSw); go_simp; try with_reducible rfl)
              simp only [Act.put, List.setIfInBounds_toArray, List.set_cons_zero, List.set_cons_succ]
              refine wpAnyM_take (i := 4) (v := ?_) rfl (by kernel_rfl) (by kernel_rfl) (by kernel_rfl) (by kernel_rfl) (fun _ _ _ h => h) HS1 (Or.inl ⟨by rfl, ?_⟩) ?_
              rotate_left
              · (intro w hSw; (try dsimp only at hSw); go_simp; try with_reducible rfl)
              simp only [Act.put, List.setIfInBounds_toArray, List.set_cons_zero, List.set_cons_succ]
              refine wpAnyM_one (i := 5) (by kernel_rfl) rfl (fun K hK => ?_)
              go_simp
              refine (HCa.out _ HBz.out.drew).mono ?_
              rintro e w2 ⟨v2, rfl, hl2, h2⟩
              obtain ⟨ua, uc, hu, -, -, -⟩ := hl2.shape
              rw [List.length_map] at hu
              subst hu
              have HB2 : Hid (Below Z.heap.size Z w2) := ((Below.refl _ Z).drew).trans h2
              have HL2 := hide hl2
              clear h2 hl2 HS1
              have HS2 := HSc.out w2 HB2.out
              refine hK.out _ _ HS2 (fun _ => ?_)
              clear hK K
              try simp only [Act.put, List.setIfInBounds_toArray, List.set_cons_zero, List.set_cons_succ]
              refine wpAnyM_one (i := 6) (by kernel_rfl) rfl (fun K hK => ?_)
              go_simp
              refine hK.out _ _ HS2 (fun _ => ?_)
              clear hK K
              have HS3 := HSc.out (w2.alloc (.cells #[.int .i64 2, .string (nameP ps pq), .slice ua ss.length uc, .int .i64 0, .int .i64 0, .int .i64 0, .int .i64 0, .string ⟨#[]⟩, .int .i64 0, .int .i64 0, .int .i64 0, .string ⟨#[]⟩, .int .i64 0, .int .i64 0] 68)) (HB2.out.alloc HB2.out.size _)
              refine wpAnyM_one (i := 7) (by kernel_rfl) rfl (fun K hK => ?_)
              go_simp
              refine hK.out _ _ HS3 (fun _ => ?_)
              clear hK K
              have HOw := hide (HG.out.kept ((HZ.out.trans (HB2.out.mono HZ.out.size)).trans ((belo1 w2 (.cells #[.int .i64 2, .string (nameP ps pq), .slice ua ss.length uc, .int .i64 0, .int .i64 0, .int .i64 0, .int .i64 0, .string ⟨#[]⟩, .int .i64 0, .int .i64 0, .int .i64 0, .string ⟨#[]⟩, .int .i64 0, .int .i64 0] 68)).mono (Nat.le_trans HZ.out.size HB2.out.size))))
              have hzs := HZs.out
              have hz2s := HB2.out.size
              refine wpAnyM_one (i := 8) (by kernel_rfl) rfl (fun K hK => ?_)
              refine step_append_lies _ (by rfl) _ _ _ (by rfl) (w1.heap.size + 1) 68 i0 _ 14 152 Try.underlying31 hi0' hz0 hz1 hz2 rfl (by decide) (.slice ba L.length bc) L.length (L.flatMap elLix.cells) (by rfl) HOw.out.1 ⟨w2.heap.size, 0, none⟩ 1 1 [.int .i64 2, .string (nameP ps pq), .slice ua ss.length uc, .int .i64 0, .int .i64 0, .int .i64 0, .int .i64 0, .string ⟨#[]⟩, .int .i64 0, .int .i64 0, .int .i64 0, .string ⟨#[]⟩, .int .i64 0, .int .i64 0] (by rfl) (by rfl) (World.news_of_block (cs := #[.int .i64 2, .string (nameP ps pq), .slice ua ss.length uc, .int .i64 0, .int .i64 0, .int .i64 0, .int .i64 0, .string ⟨#[]⟩, .int .i64 0, .int .i64 0, .int .i64 0, .string ⟨#[]⟩, .int .i64 0, .int .i64 0]) (t := 68) (fr := (0, 0)) (heap_alloc_new w2 _)) (by simp [Value.oneCell']) (by omega) (by have := HLl.out; unfold maxLen; omega) (by have := HLl.out; omega) (by simp; omega) (w2.heap.size + 1) (by simp) ?_
              intro gg cap2 w5 hown5 hgrow hat hlt5
              have HG5 := hide (HOw.out.push (x := (⟨2, ⟨nameP ps pq, .slice ua ss.length uc, 0, ss.map (tP cs vs)⟩, 0, noT, noT, 0⟩ : Lix)) ⟨I64_2, ⟨HNm.out pq, I64_0, (HL2.out.move (G := fun b => w1.heap.size + 1 ≤ b ∧ (Value.slice ba L.length bc).ownBlock ≠ some b) fun b _ hF => ⟨⟨by have hF' : Z.heap.size ≤ b := hF; rw [HZs.out] at hF'; omega, fun e => by have := own_lt6 HG.out.1 b e; have hF' : Z.heap.size ≤ b := hF; rw [HZs.out] at hF'; omega⟩, rfl⟩).move fun b hlt hF => ⟨hF, heap_alloc_old _ _ hlt⟩⟩, I64_0, noT_ok, noT_ok, I64_0⟩ rfl (size_alloc1 w2 _) hown5 hgrow hat)
              have hlow : ∀ b, b < w1.heap.size + 1 → w5.heap[b]? = wr.heap[b]? := fun b hb => by rw [HOw.out.low hgrow hb (by simp; omega), heap_alloc_old _ _ (by omega), HB2.out.block _ (by omega), HZ.out.block _ (by omega)]
              have HA5 : Hid (w5.heap[w1.heap.size]? = some (.cells #[.string nm, .slice va hs.length vc, .int .i64 0, .slice ba L.length bc] 33 (0, 0))) := by show _ = _; rw [hlow _ (by omega)]; exact HA.out
              have HB5 : Hid (Below w1.heap.size w1 w5) := (((HB.out.trans (HZ.out.mono HB.out.size)).trans (HB2.out.mono (Nat.le_trans HB.out.size HZ.out.size))).alloc (by omega) _).grown hgrow (by simp; omega) (fun j hj => by have := own_new HG.out.1 j hj; omega)
              have HS5 : w5.cell? ⟨w.heap.size, 0, none⟩ = some pv ∧ w5.cell? ⟨w.heap.size, 1, none⟩ = some cv ∧ w5.cell? ⟨w.heap.size, 2, none⟩ = some rv ∧ w5.cell? ⟨w.heap.size, 3, none⟩ = some fv ∧ w5.cell? ⟨w.heap.size + 1, 0, none⟩ = some (.int .i64 q) ∧ w5.cell? ⟨w.heap.size + 1, 1, none⟩ = some (.slice ha hs.length hcap) ∧ w5.cell? ⟨w.heap.size + 1, 2, none⟩ = some (.slice pa l1.length pc) ∧ w5.cell? ⟨w.heap.size + 1, 3, none⟩ = some (.slice ta l2.length tc) ∧ w5.cell? ⟨w.heap.size + 1, 4, none⟩ = some (.slice (some ⟨b, off, none⟩) l3.length nc) ∧ w5.cell? ⟨w.heap.size + 1, 5, none⟩ = some vv ∧ w5.cell? ⟨w.heap.size + 1, 6, none⟩ = some (.int .i64 cl) ∧ w5.cell? ⟨wr.heap.size, 0, none⟩ = some (.int .i64 pq) ∧ w5.cell? ⟨wr.heap.size, 1, none⟩ = some (.slice ga ss.length gc) ∧ w5.cell? ⟨w1.heap.size, 3, none⟩ = some (.slice ba L.length bc) := by
                have hx := HSc.out Z (Below.refl _ _)
                have hq : w5.heap[wr.heap.size]? = Z.heap[wr.heap.size]? := by rw [hgrow.block wr.heap.size (by simp; omega) (fun e => by have := own_lt6 HG.out.1 _ e.symm; omega), heap_alloc_old _ _ (by omega), HB2.out.block _ (by omega)]
                have hle := HB1.out.size
                have hle2 := HBy.out.size
                rw [HSz.out] at hle2
                have hcell : ∀ b o, b < w1.heap.size + 1 → w5.cell? ⟨b, o, none⟩ = Z.cell? ⟨b, o, none⟩ := fun b o hb => World.cell?_of_block (by show w5.heap[b]? = Z.heap[b]?; rw [hlow b hb, HZ.out.block _ (by omega)])
                have hcell2 : ∀ o, w5.cell? ⟨wr.heap.size, o, none⟩ = Z.cell? ⟨wr.heap.size, o, none⟩ := fun o => World.cell?_of_block hq
                refine ⟨?_, ?_, ?_, ?_, ?_, ?_, ?_, ?_, ?_, ?_, ?_, ?_, ?_, ?_⟩ <;> first | (rw [hcell _ _ (by omega)]; simp only [hx]) | (rw [hcell2]; simp only [hx])
              clear hown5 hgrow hat hlt5 HS3
              have ha5 : w5.cell? ⟨w1.heap.size, 3, none⟩ = some (.slice ba L.length bc) := by simp [World.cell?, HA5.out]
              have hf5 : w5.frozen? ⟨w1.heap.size, 3, none⟩ = false := by simp [World.frozen?, HA5.out]
              refine hK.out _ _ HS5 (fun _ => ?_)
              clear hK K
              try simp only [Act.put, List.setIfInBounds_toArray, List.set_cons_zero, List.set_cons_succ]
              refine wpAnyM_one (i := 9) (by kernel_rfl) rfl (fun K hK => ?_)
              go_simp
              refine hK.out _ _ HS5 (fun _ => ?_)
              clear hK K
              clear HS5 HS2 HSc
              refine wpAnyM_end (by kernel_rfl) rfl (by kernel_rfl) (fun K hK => ?_)
              go_simp
              refine hK.out _ _ ?_
              clear hK K
              go_wp2
              go_roundw
              case rel =>
                refine ⟨k + 1, some ⟨gg, 0, none⟩, cap2, L ++ [(⟨2, ⟨nameP ps pq, .slice ua ss.length uc, 0, ss.map (tP cs vs)⟩, 0, noT, noT, 0⟩ : Lix)], by omega, by go_num, ?_, ?_, ?_, HB5.out.setCell (by dsimp only; omega) _⟩
                · rw [List.length_append]
                  exact HG5.out.above fun b hb _ => heap_other (by omega)
                · show _ = _
                  rw [List.length_append]
                  exact heap_set1 HA5.out
                · show _ = _
                  rw [HTk.out, List.map_append, HD.out, ← List.append_assoc]
                  rfl
              case measure => simp [intOf]; omega
            · obtain rfl : k = l3.length := by omega
              have hi : ¬ (l3.length : Int) < (l3.length : Int) := by omega
              rw [List.take_of_length_le (Nat.le_refl _)] at HD
              have hsz3 : w.heap.size + 1 + 1 + 1 ≤ w1.heap.size := by have := HBy.out.size; rw [HSz.out] at this; exact this
              have ha0 : wr.cell? ⟨w1.heap.size, 0, none⟩ = some (.string nm) := by simp [World.cell?, HA.out]
              have ha1 : wr.cell? ⟨w1.heap.size, 1, none⟩ = some (.slice va hs.length vc) := by simp [World.cell?, HA.out]
              have ha2 : wr.cell? ⟨w1.heap.size, 2, none⟩ = some (.int .i64 0) := by simp [World.cell?, HA.out]
              have ha3 : wr.cell? ⟨w1.heap.size, 3, none⟩ = some (.slice ba L.length bc) := by simp [World.cell?, HA.out]
              have HRb : Hid (wr.heap[w.heap.size + 1 + 1]? = some (.cells #[.string ⟨#[]⟩, .slice none 0 0, .int .i64 0, .slice none 0 0] 33 (0, 0))) := by show _ = _; rw [HBy2.out.block _ (by rw [HSz.out]; omega)]; exact HX.out.2.2
              have hb0 : wr.cell? ⟨w.heap.size + 1 + 1, 0, none⟩ = some (.string ⟨#[]⟩) := by simp [World.cell?, HRb.out]
              have hb1 : wr.cell? ⟨w.heap.size + 1 + 1, 1, none⟩ = some (.slice none 0 0) := by simp [World.cell?, HRb.out]
              have hb2 : wr.cell? ⟨w.heap.size + 1 + 1, 2, none⟩ = some (.int .i64 0) := by simp [World.cell?, HRb.out]
              have hb3 : wr.cell? ⟨w.heap.size + 1 + 1, 3, none⟩ = some (.slice none 0 0) := by simp [World.cell?, HRb.out]
              have hf0 : wr.frozen? ⟨w.heap.size + 1 + 1, 0, none⟩ = false := by simp [World.frozen?, HRb.out]
              have hf1 : wr.frozen? ⟨w.heap.size + 1 + 1, 1, none⟩ = false := by simp [World.frozen?, HRb.out]
              have hf2 : wr.frozen? ⟨w.heap.size + 1 + 1, 2, none⟩ = false := by simp [World.frozen?, HRb.out]
              have hf3 : wr.frozen? ⟨w.heap.size + 1 + 1, 3, none⟩ = false := by simp [World.frozen?, HRb.out]
              have HLl : Hid (L.length < 1073741824) := by
                show _ < _
                have := congrArg List.length HD.out
                simp only [List.length_map, List.length_append] at this
                omega
              go_wp2
              refine bodyPost_ret (v := .agg #[.string nm, .slice va hs.length vc, .int .i64 0, .slice ba L.length bc]) (by simp [results, Try.results16, go_sem, hb0, hb1, hb2, hb3]) rfl ⟨⟨.slice va hs.length vc, .slice ba L.length bc, by rw [HN.out], ?_, L, ?_, ?_⟩, (((HBw.out.setCell (by dsimp only; omega) _).setCell (by dsimp only; omega) _).setCell (by dsimp only; omega) _).setCell (by dsimp only; omega) _⟩
              · refine HH.out.move fun b hb hF => ?_
                have hF' : Y.heap.size ≤ b := hF
                rw [HSz.out] at hF'
                refine ⟨by omega, ?_⟩
                rw [heap_other (by omega), heap_other (by omega), heap_other (by omega), heap_other (by omega)]
                exact HB.out.block b hb
              · refine (HG.out.new HLl.out).move fun b hb hF => ?_
                have hF' : w1.heap.size + 1 ≤ b := hF
                refine ⟨by omega, ?_⟩
                rw [heap_other (by omega), heap_other (by omega), heap_other (by omega), heap_other (by omega)]
              · exact HD.out
end Go.Proofs.Ythbfkbkcfcpibaa
