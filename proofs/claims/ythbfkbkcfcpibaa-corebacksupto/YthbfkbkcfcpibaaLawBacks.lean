/- edictlaw07.CoreBacks returns true. -/
import Derived.Test.YthbfkbkcfcpibaaCoreRBack
import Derived.Test.YthbfkbkcfcpibaaCoreSame
import Derived.Test.YthbfkbkcfcpibaaCoreRFact
import Derived.Test.YthbfkbkcfcpibaaConEq
namespace Go.Proofs.Ythbfkbkcfcpibaa
set_option linter.unusedSimpArgs false
set_option linter.unusedVariables false
open Go.RowKit

/-- What comes back, as plain data: the head's name and terms, the body, the number. -/
def backD (ps : List Prd) (cs : List Con) (rs : List Rul) (n : Int) : ByteArray × List Trm × List LD × Int := match idx rs n with
  | none => (⟨#[]⟩, [], [], 50)
  | some r => if wholeR ps cs r then (nameP ps r.h.q, r.h.ss.map (tP cs r.vs), bodyP ps cs r, 0) else (⟨#[]⟩, [], [], 2)
theorem BackRes.look {w w' : World} {ps : List Prd} {cs : List Con} {rs : List Rul} {n : Int} {e : Ending} (h : BackRes w w' ps cs rs n e) :
    ∃ nm ht en ha hc ba bc, ∃ L : List Lix, e = .returned (.tuple #[.agg #[.string nm, .slice ha ht.length hc, .int .i64 0, .slice ba L.length bc], .int .i64 en]) ∧ Has elTrm w' (.slice ha ht.length hc) ht ∧ Has elLix w' (.slice ba L.length bc) L ∧ (nm, ht, L.map Lix.d, en) = backD ps cs rs n := by
  unfold backD
  rcases h with ⟨h1, h2⟩ | ⟨r, h1, h2, h3⟩ | ⟨r, h1, h2, hv, bv, h3, h4, L, h5, h6⟩
  · rw [h1]
    exact ⟨_, [], 50, none, 0, none, 0, [], h2, Lst.nil _ _ _, Lst.nil _ _ _, rfl⟩
  · rw [h1]
    dsimp only
    rw [h2]
    exact ⟨_, [], 2, none, 0, none, 0, [], h3, Lst.nil _ _ _, Lst.nil _ _ _, rfl⟩
  · rw [h1]
    dsimp only
    rw [h2]
    obtain ⟨ha, hc, rfl, -⟩ := h4.shape
    obtain ⟨ba, bc, rfl, -⟩ := h5.shape
    exact ⟨_, _, 0, ha, hc, ba, bc, L, h3, h4.all, h5.all, by rw [h6]; rfl⟩
def factD (ps : List Prd) (cs : List Con) (r : Roe) : ByteArray × List Con × Int := if rowW ps cs r then (nameP ps r.q, r.l.map (cP cs), 0) else (⟨#[]⟩, [], 2)
theorem FactRes.look {w w' : World} {ps : List Prd} {cs : List Con} {r : Roe} {e : Ending} (h : FactRes w w' ps cs r e) :
    ∃ nm l en a c, e = .returned (.tuple #[.agg #[.string nm, .slice a l.length c], .int .i64 en]) ∧ Lst elCon w' (fun b => w.heap.size ≤ b) (.slice a l.length c) l ∧ (nm, l, en) = factD ps cs r := by
  unfold factD
  rcases h with ⟨h1, h2⟩ | ⟨h1, v, h2, h3⟩
  · rw [h1]
    exact ⟨_, [], 2, none, 0, h2, Lst.nil _ _ _, rfl⟩
  · rw [h1]
    obtain ⟨a, c, rfl, -⟩ := h3.shape
    exact ⟨_, _, 0, a, c, h2, h3, rfl⟩

theorem heap_set2 {w : World} {b : Nat} {t : TypeId} {fr : Nat × Nat} {a0 a1 v0 v1 : Value} (h : w.heap[b]? = some (.cells #[a0, a1] t fr)) : ((w.setCell ⟨b, 0, none⟩ v0).setCell ⟨b, 1, none⟩ v1).heap[b]? = some (.cells #[v0, v1] t fr) := heap_set1 (heap_set1 h)

set_option maxRecDepth 100000 in
set_option maxHeartbeats 4000000 in
theorem coreBacks_walk (c : Cor) (lv : Value) (l : List Roe) (w : World) (hc : c.ok w) (hb : ∀ r ∈ c.rs, r.ps.length + r.ts.length + r.ns.length < 1073741824) (hl : Has elRoe w lv l) :
    Calls Try.prog 3 #[c.val, lv] w fun e w' => e = .returned (.bool true) ∧ Below w.heap.size w w' := by
  obtain ⟨pv, ps, cv, cs, rv, rs, fv, fs⟩ := c
  obtain ⟨h1, h2, h3, h4⟩ := hc
  unfold Cor.val
  dsimp only at h1 h2 h3 h4 hb ⊢
  obtain ⟨ra, rc, rfl, -, -, hlen⟩ := h3.shape
  obtain ⟨la, lc, rfl, -, -, hlen2⟩ := hl.shape
  have HP := hide h1
  have HC := hide h2
  have HR := hide h3
  have HL := hide hl
  have HBg : Hid (∀ r ∈ rs, bigR r) := hb
  clear h1 h2 h3 h4 hl hb
  go_enter Try.func3, Try.ntmps3
  go_wp2
  obtain ⟨Y, hY⟩ : ∃ Y, Y = w.alloc (.cells #[pv, cv, .slice ra rs.length rc, fv] 27) := ⟨_, rfl⟩
  have HB0 : Hid (Below w.heap.size w Y) := by rw [hY]; exact belo1 _ _
  have HX : Hid (coreAt Y w.heap.size pv cv (.slice ra rs.length rc) fv) := by rw [hY]; exact coreAt_new _ _ _ _ _ _
  rw [← hY]
  clear hY
  go_loopw [5, 6, 7, 8, 9] (fun i _ _ _ _ wl => ∃ k : Nat, k ≤ rs.length + 2 ∧ i = .int .i64 ((k : Int) - 1) ∧ Hid (Below Y.heap.size Y wl)) (fun i _ _ _ _ _ => rs.length + 2 - (intOf i + 1).toNat)
  case atStart => exact ⟨0, by omega, rfl, Below.refl _ _⟩
  case round =>
    obtain ⟨k, hk, rfl, HB⟩ := hrel
    have HBw := hide (HB0.out.trans (HB.out.mono HB0.out.size))
    obtain ⟨x0, x1, x2, x3⟩ := HX.out.kept HB.out
    by_cases hlt : k < rs.length + 2
    · have hi : ((k : Int) - 1) ≤ (rs.length : Int) := by omega
      go_wp2_with fail
      refine (back_any (HP.out.kept HBw.out) (HC.out.kept HBw.out) (HR.out.kept HBw.out) HBg.out).mono ?_
      rintro e w1 ⟨hr1, hb1⟩
      obtain ⟨nm, ht, en, ha, hc, ba, bc, L, rfl, k1, k2, k3⟩ := hr1.look
      have HB1 := hide (HB.out.trans (hb1.mono HB.out.size))
      have HB1w := hide (HBw.out.trans (hb1.mono HBw.out.size))
      have HK1 := hide k1
      have HK2 := hide k2
      have HK3 := hide k3
      clear hr1 hb1 k1 k2 k3 x0 x1 x2 x3
      obtain ⟨x0, x1, x2, x3⟩ := HX.out.kept (HB1.out.alloc HB1.out.size (.cells #[.string nm, .slice ha ht.length hc, .int .i64 0, .slice ba L.length bc] 33))
      go_wp2_with fail
      obtain ⟨Z, hZ⟩ : ∃ Z, Z = w1.alloc (.cells #[.string nm, .slice ha ht.length hc, .int .i64 0, .slice ba L.length bc] 33) := ⟨_, rfl⟩
      have hbz : Below w1.heap.size w1 Z := by rw [hZ]; exact belo1 _ _
      have HBz := hide (HB1.out.trans (hbz.mono HB1.out.size))
      have HBzw := hide (HB1w.out.trans (hbz.mono HB1w.out.size))
      have HZb : Hid (Z.heap[w1.heap.size]? = some (.cells #[.string nm, .slice ha ht.length hc, .int .i64 0, .slice ba L.length bc] 33 (0, 0))) := by rw [hZ]; exact heap_alloc_new _ _
      have HK1z := hide (HK1.out.kept hbz)
      have HK2z := hide (HK2.out.kept hbz)
      rw [← hZ]
      clear hZ hbz HK1 HK2 HB1 HB1w x0 x1 x2 x3
      refine (rback_any (HP.out.kept HBzw.out) (HC.out.kept HBzw.out) (HR.out.kept HBzw.out) HBg.out).mono ?_
      rintro e w2 ⟨hr2, hb2⟩
      obtain ⟨nm', ht', en', ha', hc', ba', bc', L', rfl, j1, j2, j3⟩ := hr2.look
      have hk3 := HK3.out
      rw [← j3] at hk3
      simp only [Prod.mk.injEq] at hk3
      obtain ⟨rfl, rfl, hd, rfl⟩ := hk3
      have HD := hide hd
      have HB2 := hide (HBz.out.trans (hb2.mono HBz.out.size))
      have HK1y := hide (HK1z.out.kept hb2)
      have HK2y := hide (HK2z.out.kept hb2)
      have HZc : Hid (w2.heap[w1.heap.size]? = some (.cells #[.string nm, .slice ha ht.length hc, .int .i64 0, .slice ba L.length bc] 33 (0, 0))) := by show _ = _; rw [hb2.block _ (lt_of_heap HZb.out)]; exact HZb.out
      have HJ1 := hide j1
      have HJ2 := hide j2
      clear hr2 hb2 j1 j2 j3 hd HK1z HK2z HZb HBz HBzw HK3
      have a0 : ∀ o, (w2.alloc o).cell? ⟨w1.heap.size, 0, none⟩ = some (.string nm) := fun o => kept_cell (belo1 w2 o) (by simp [World.cell?, HZc.out])
      have a1 : ∀ o, (w2.alloc o).cell? ⟨w1.heap.size, 1, none⟩ = some (.slice ha ht.length hc) := fun o => kept_cell (belo1 w2 o) (by simp [World.cell?, HZc.out])
      have a2 : ∀ o, (w2.alloc o).cell? ⟨w1.heap.size, 2, none⟩ = some (.int .i64 0) := fun o => kept_cell (belo1 w2 o) (by simp [World.cell?, HZc.out])
      have a3 : ∀ o, (w2.alloc o).cell? ⟨w1.heap.size, 3, none⟩ = some (.slice ba L.length bc) := fun o => kept_cell (belo1 w2 o) (by simp [World.cell?, HZc.out])
      have hq : (en != en) = false := by simp
      go_wp2_with fail
      refine (clauses_same (HK1y.out.kept (belo1 w2 _)) (HJ1.out.kept (belo1 w2 _)) (HK2y.out.kept (belo1 w2 _)) (HJ2.out.kept (belo1 w2 _)) HD.out).mono ?_
      rintro e w3 ⟨rfl, hb3⟩
      have HB3 := hide ((HB2.out.alloc HB2.out.size _).trans (hb3.mono (Nat.le_trans HB2.out.size (by simp))))
      clear hb3 a0 a1 a2 a3
      go_wp2_with fail
      go_roundw
      case rel => exact ⟨k + 1, by omega, by go_num, HB3⟩
      case measure => simp [intOf]; omega
    · obtain rfl : k = rs.length + 2 := by omega
      have hi : ¬ (((rs.length + 2 : Nat) : Int) - 1) ≤ (rs.length : Int) := by omega
      go_wp2
      clear x0 x1 x2 x3
      clear HBw HR HBg
      have HBr := HB
      clear HB
      generalize wr = W0 at *
      go_loopw [10, 11, 12, 13, 14, 15] (fun i _ _ _ _ _ wl => ∃ k : Nat, k ≤ l.length ∧ i = .int .i64 k ∧ Hid (Below Y.heap.size Y wl)) (fun i _ _ _ _ _ _ => l.length - (intOf i).toNat)
      case atStart => exact ⟨0, by omega, rfl, HBr⟩
      case round =>
        clear HBr
        obtain ⟨k, hk, rfl, HB⟩ := hrel
        have HBw := hide (HB0.out.trans (HB.out.mono HB0.out.size))
        by_cases hlt : k < l.length
        · have hi2 : (k : Int) < (l.length : Int) := by omega
          have hi0 : (0 : Int) ≤ (k : Int) := by omega
          obtain ⟨lb, lo, rfl, -, -, hrow⟩ := HL.out.row (by omega)
          obtain ⟨r, hr⟩ : ∃ s, l[k]? = some s := ⟨_, List.getElem?_eq_getElem hlt⟩
          have y0 := kept_cell HBw.out (hrow k r hr 0 _ rfl)
          have y1 := kept_cell HBw.out (hrow k r hr 1 _ rfl)
          simp only [elRoe, Nat.add_zero] at y0 y1
          have HOk := hide (HL.out.ok (List.mem_of_getElem? hr))
          clear hrow hr
          obtain ⟨q, rv', g⟩ := r
          obtain ⟨ga, gc, hg, -, -, -⟩ := (elRoe_ok HOk.out).2.shape
          dsimp only at hg
          subst hg
          dsimp only at y0 y1
          have HSc : Hid (∀ V : World, Below wr.heap.size wr V → V.cell? ⟨w.heap.size, 0, none⟩ = some pv ∧ V.cell? ⟨w.heap.size, 1, none⟩ = some cv ∧ V.cell? ⟨w.heap.size, 2, none⟩ = some (.slice ra rs.length rc) ∧ V.cell? ⟨w.heap.size, 3, none⟩ = some fv ∧ V.cell? ⟨lb, lo + k * 2, none⟩ = some (.int .i64 q) ∧ V.cell? ⟨lb, lo + k * 2 + 1, none⟩ = some (.slice ga g.length gc)) := fun V hV => by
            obtain ⟨c0, c1, c2, c3⟩ := (HX.out.kept HB.out).kept hV
            exact ⟨c0, c1, c2, c3, kept_cell hV y0, kept_cell hV y1⟩
          clear y0 y1
          have HF1 : Hid (∀ V : World, Below w.heap.size w V → Calls Try.prog 8 #[.agg #[pv, cv, .slice ra rs.length rc, fv], .agg #[.int .i64 q, .slice ga g.length gc]] V fun e w' => (∃ nm l en a c, e = .returned (.tuple #[.agg #[.string nm, .slice a l.length c], .int .i64 en]) ∧ Lst elCon w' (fun b => V.heap.size ≤ b) (.slice a l.length c) l ∧ (nm, l, en) = factD ps cs ⟨q, .slice ga g.length gc, g⟩) ∧ Below V.heap.size V w') := fun V hV => (fact_any (r := ⟨q, .slice ga g.length gc, g⟩) (HP.out.kept hV) (HC.out.kept hV) (elRoe.kept HOk.out hV)).mono fun e w' h => ⟨h.1.look, h.2⟩
          have HF2 : Hid (∀ V : World, Below w.heap.size w V → Calls Try.prog 9 #[.agg #[pv, cv, .slice ra rs.length rc, fv], .agg #[.int .i64 q, .slice ga g.length gc]] V fun e w' => (∃ nm l en a c, e = .returned (.tuple #[.agg #[.string nm, .slice a l.length c], .int .i64 en]) ∧ Lst elCon w' (fun b => V.heap.size ≤ b) (.slice a l.length c) l ∧ (nm, l, en) = factD ps cs ⟨q, .slice ga g.length gc, g⟩) ∧ Below V.heap.size V w') := fun V hV => (rfact_any (r := ⟨q, .slice ga g.length gc, g⟩) (HP.out.kept hV) (HC.out.kept hV) (elRoe.kept HOk.out hV)).mono fun e w' h => ⟨h.1.look, h.2⟩
          have HOwr : Hid (Below wr.heap.size wr wr) := Below.refl _ _
          have HQwr := HBw
          go_upto_region 11 with fail
          go_cut [11, 12] (fun qa qb wx => ∃ T n1 l1 e1 a1 c1, qa = .pointer (some ⟨T, 0, none⟩) ∧ qb = .int .i64 e1 ∧ Hid (wx.heap[T]? = some (.cells #[.string n1, .slice a1 l1.length c1] 39 (0, 0))) ∧ Hid (Has elCon wx (.slice a1 l1.length c1) l1) ∧ Hid ((n1, l1, e1) = factD ps cs ⟨q, .slice ga g.length gc, g⟩) ∧ Hid (Below wr.heap.size wr wx))
          case first =>
            go_region_held3 (fun V => V.cell? ⟨w.heap.size, 0, none⟩ = some pv ∧ V.cell? ⟨w.heap.size, 1, none⟩ = some cv ∧ V.cell? ⟨w.heap.size, 2, none⟩ = some (.slice ra rs.length rc) ∧ V.cell? ⟨w.heap.size, 3, none⟩ = some fv ∧ V.cell? ⟨lb, lo + k * 2, none⟩ = some (.int .i64 q) ∧ V.cell? ⟨lb, lo + k * 2 + 1, none⟩ = some (.slice ga g.length gc))
              (first
                | exact HSc.out _ HOwr.out
                | exact HSc.out _ HOwr.out.drew
                | exact HSc.out _ (HOwr.out.trans (HB2.out.mono HOwr.out.size))
                | exact HSc.out _ (HOwr.out.drew.alloc HOwr.out.size _)
                | exact HSc.out _ ((HOwr.out.trans (HB2.out.mono HOwr.out.size)).alloc (Nat.le_trans HOwr.out.size HB2.out.size) _)
                | exact HSc.out _ (HOwr.out.trans (((HB2.out.setCell (Nat.le_refl _) _).setCell (Nat.le_refl _) _).mono HOwr.out.size)))
              (first
                | (go_at_call 8; refine (HF1.out _ (by first | exact HQwr.out.drew | exact (HQwr.out.alloc HQwr.out.size _).drew)).mono ?_; rintro e w2 ⟨⟨n1, l1, e1, a1, c1, rfl, hh, hd⟩, h2⟩; have HB2 : Hid (Below wr.heap.size wr w2) := (by first | exact ((Below.refl _ wr).drew).trans h2 | exact (((Below.refl _ wr).alloc (Nat.le_refl _) _).drew).trans (h2.mono (by simp))); have HHh := hide hh; have HHd := hide hd; try (have hbx : w2.heap[wr.heap.size]? = some (.cells #[.string ⟨#[]⟩, .slice none 0 0] 39 (0, 0)) := (by rw [h2.block _ (by simp)]; exact heap_alloc_new wr _); have hy0 : w2.cell? ⟨wr.heap.size, 0, none⟩ = some (.string ⟨#[]⟩) := (by simp [World.cell?, hbx]); have hy1 : w2.cell? ⟨wr.heap.size, 1, none⟩ = some (.slice none 0 0) := (by simp [World.cell?, hbx]); have hf0 : w2.frozen? ⟨wr.heap.size, 0, none⟩ = false := (by simp [World.frozen?, hbx]); have hf1 : w2.frozen? ⟨wr.heap.size, 1, none⟩ = false := (by simp [World.frozen?, hbx]); have HBX := hide hbx; clear hbx); clear h2 hh hd))
            all_goals (go_wp2; go_meet)
            · exact ⟨w2.heap.size, n1, l1, e1, a1, c1, rfl, rfl, heap_alloc_new _ _, HHh.out.all.kept (belo1 _ _), HHd, HB2.out.alloc HB2.out.size _⟩
            · exact ⟨wr.heap.size, n1, l1, e1, a1, c1, rfl, rfl, heap_set2 HBX.out, HHh.out.move (fun b hb hF => ⟨trivial, by have hF' : wr.heap.size + 1 ≤ b := (by simpa using hF); rw [heap_other (by omega), heap_other (by omega)]⟩), HHd, (HB2.out.setCell (Nat.le_refl _) _).setCell (Nat.le_refl _) _⟩
          case rest =>
            obtain ⟨T1, n1, l1, e1, a1, c1, rfl, rfl, HT1, HH1, HD1, HBa⟩ := hcut
            generalize wc = wa at *
            have HOwa : Hid (Below wr.heap.size wr wa) := HBa
            have HQwa := hide (HBw.out.trans (HBa.out.mono HBw.out.size))
            go_upto_region 12 with fail
            go_cut [13, 14] (fun qa qb wx => ∃ T n2 l2 e2 a2 c2, qa = .pointer (some ⟨T, 0, none⟩) ∧ qb = .int .i64 e2 ∧ Hid (wx.heap[T]? = some (.cells #[.string n2, .slice a2 l2.length c2] 39 (0, 0))) ∧ Hid (Has elCon wx (.slice a2 l2.length c2) l2) ∧ Hid ((n2, l2, e2) = factD ps cs ⟨q, .slice ga g.length gc, g⟩) ∧ Hid (Below wa.heap.size wa wx))
            case first =>
              go_region_held3 (fun V => V.cell? ⟨w.heap.size, 0, none⟩ = some pv ∧ V.cell? ⟨w.heap.size, 1, none⟩ = some cv ∧ V.cell? ⟨w.heap.size, 2, none⟩ = some (.slice ra rs.length rc) ∧ V.cell? ⟨w.heap.size, 3, none⟩ = some fv ∧ V.cell? ⟨lb, lo + k * 2, none⟩ = some (.int .i64 q) ∧ V.cell? ⟨lb, lo + k * 2 + 1, none⟩ = some (.slice ga g.length gc))
                (first
                  | exact HSc.out _ HOwa.out
                  | exact HSc.out _ HOwa.out.drew
                  | exact HSc.out _ (HOwa.out.trans (HB2.out.mono HOwa.out.size))
                  | exact HSc.out _ (HOwa.out.drew.alloc HOwa.out.size _)
                  | exact HSc.out _ ((HOwa.out.trans (HB2.out.mono HOwa.out.size)).alloc (Nat.le_trans HOwa.out.size HB2.out.size) _)
                  | exact HSc.out _ (HOwa.out.trans (((HB2.out.setCell (Nat.le_refl _) _).setCell (Nat.le_refl _) _).mono HOwa.out.size)))
                (first
                  | (go_at_call 9; refine (HF2.out _ (by first | exact HQwa.out.drew | exact (HQwa.out.alloc HQwa.out.size _).drew)).mono ?_; rintro e w2 ⟨⟨n2, l2, e2, a2, c2, rfl, hh, hd⟩, h2⟩; have HB2 : Hid (Below wa.heap.size wa w2) := (by first | exact ((Below.refl _ wa).drew).trans h2 | exact (((Below.refl _ wa).alloc (Nat.le_refl _) _).drew).trans (h2.mono (by simp))); have HHh := hide hh; have HHd := hide hd; try (have hbx : w2.heap[wa.heap.size]? = some (.cells #[.string ⟨#[]⟩, .slice none 0 0] 39 (0, 0)) := (by rw [h2.block _ (by simp)]; exact heap_alloc_new wa _); have hy0 : w2.cell? ⟨wa.heap.size, 0, none⟩ = some (.string ⟨#[]⟩) := (by simp [World.cell?, hbx]); have hy1 : w2.cell? ⟨wa.heap.size, 1, none⟩ = some (.slice none 0 0) := (by simp [World.cell?, hbx]); have hf0 : w2.frozen? ⟨wa.heap.size, 0, none⟩ = false := (by simp [World.frozen?, hbx]); have hf1 : w2.frozen? ⟨wa.heap.size, 1, none⟩ = false := (by simp [World.frozen?, hbx]); have HBX := hide hbx; clear hbx); clear h2 hh hd))
              all_goals (go_wp2; go_meet)
              · exact ⟨w2.heap.size, n2, l2, e2, a2, c2, rfl, rfl, heap_alloc_new _ _, HHh.out.all.kept (belo1 _ _), HHd, HB2.out.alloc HB2.out.size _⟩
              · exact ⟨wa.heap.size, n2, l2, e2, a2, c2, rfl, rfl, heap_set2 HBX.out, HHh.out.move (fun b hb hF => ⟨trivial, by have hF' : wa.heap.size + 1 ≤ b := (by simpa using hF); rw [heap_other (by omega), heap_other (by omega)]⟩), HHd, (HB2.out.setCell (Nat.le_refl _) _).setCell (Nat.le_refl _) _⟩
            case rest =>
              obtain ⟨T2, n2, l2, e2, a2, c2, rfl, rfl, HT2, HH2, HD2, HBb⟩ := hcut
              generalize wc = wb at *
              have hdd := HD1.out
              rw [← HD2.out] at hdd
              simp only [Prod.mk.injEq] at hdd
              obtain ⟨rfl, rfl, rfl⟩ := hdd
              have HB3 := hide (HB.out.trans ((HBa.out.trans (HBb.out.mono HBa.out.size)).mono HB.out.size))
              have HT1b : Hid (wb.heap[T1]? = some (.cells #[.string n1, .slice a1 l1.length c1] 39 (0, 0))) := by show _ = _; rw [HBb.out.block _ (lt_of_heap HT1.out)]; exact HT1.out
              have HH1b := hide (HH1.out.kept HBb.out)
              obtain ⟨-, -, -, -, -, hl1⟩ := HH2.out.shape
              clear HSc HF1 HF2 HOwr HQwr HOwa HQwa HD1 HD2 HH1 HBa HBb HB HBw HT1
              have q0 : wb.cell? ⟨T1, 0, none⟩ = some (.string n1) := by simp [World.cell?, HT1b.out]
              have q1 : wb.cell? ⟨T1, 1, none⟩ = some (.slice a1 l1.length c1) := by simp [World.cell?, HT1b.out]
              have q2 : wb.cell? ⟨T2, 0, none⟩ = some (.string n1) := by simp [World.cell?, HT2.out]
              have q3 : wb.cell? ⟨T2, 1, none⟩ = some (.slice a2 l1.length c2) := by simp [World.cell?, HT2.out]
              have hq1 : (e1 != e1) = false := by simp
              have hq2 : (n1.toList != n1.toList) = false := by simp
              go_wp2
              clear q0 q1 q2 q3
              generalize wr = Wr at *
              go_loopw [15] (fun i wl => ∃ j : Nat, j ≤ l1.length ∧ i = .int .i64 j ∧ Hid (Below wb.heap.size wb wl)) (fun i _ => l1.length - (intOf i).toNat)
              case atStart => exact ⟨0, by omega, rfl, Below.refl _ _⟩
              case round =>
                obtain ⟨j, hj, rfl, HBj⟩ := hrel
                have q1 : wr.cell? ⟨T1, 1, none⟩ = some (.slice a1 l1.length c1) := kept_cell HBj.out (by simp [World.cell?, HT1b.out])
                have q3 : wr.cell? ⟨T2, 1, none⟩ = some (.slice a2 l1.length c2) := kept_cell HBj.out (by simp [World.cell?, HT2.out])
                by_cases hlj : j < l1.length
                · have hij : (j : Int) < (l1.length : Int) := by omega
                  have hij0 : (0 : Int) ≤ (j : Int) := by omega
                  obtain ⟨b1, o1, rfl, -, -, hr1⟩ := HH1b.out.row (by omega)
                  obtain ⟨b2, o2, rfl, -, -, hr2⟩ := HH2.out.row (by omega)
                  obtain ⟨x, hx⟩ : ∃ x, l1[j]? = some x := ⟨_, List.getElem?_eq_getElem hlj⟩
                  have x0 := over_cell (kept_cell HBj.out (hr1 j x hx 0 _ rfl))
                  have x1 := over_cell (kept_cell HBj.out (hr1 j x hx 1 _ rfl))
                  have x2 := over_cell (kept_cell HBj.out (hr1 j x hx 2 _ rfl))
                  have y0 := over_cell (kept_cell HBj.out (hr2 j x hx 0 _ rfl))
                  have y1 := over_cell (kept_cell HBj.out (hr2 j x hx 1 _ rfl))
                  have y2 := over_cell (kept_cell HBj.out (hr2 j x hx 2 _ rfl))
                  simp only [elCon, Nat.add_zero] at x0 x1 x2 y0 y1 y2
                  have hs := neqCon x x
                  rw [conEq_refl, Bool.not_true] at hs
                  clear hr1 hr2 hx
                  go_wp2
                  have q1' := over_cell q1
                  have q3' := over_cell q3
                  clear q1 q3
                  refine wp_region_over (fun W => W = wr) (by kernel_rfl) (by kernel_rfl) rfl ?_
                  rintro W rfl
                  repeat (go_big_quiet_step (first | fail))
                  refine wpQuiet_nil ?_
                  rintro _ ⟨z, rfl⟩
                  have HB4 := hide (HBj.out.trans ((over_below W z).mono HBj.out.size))
                  clear x0 x1 x2 y0 y1 y2 q1' q3'
                  go_wp2
                  go_roundw
                  case rel => exact ⟨j + 1, by omega, by go_num, HB4⟩
                  case measure => simp [intOf]; omega
                · obtain rfl : j = l1.length := by omega
                  have hij : ¬ (l1.length : Int) < (l1.length : Int) := by omega
                  have HB4 := hide (HB3.out.trans (HBj.out.mono HB3.out.size))
                  go_wp2
                  go_roundw
                  case rel => exact ⟨k + 1, by omega, by go_num, HB4⟩
                  case measure => simp [intOf]; omega
        · obtain rfl : k = l.length := by omega
          have hi2 : ¬ (l.length : Int) < (l.length : Int) := by omega
          go_wp2
          go_ret
          exact ⟨rfl, HBw.out⟩
end Go.Proofs.Ythbfkbkcfcpibaa
