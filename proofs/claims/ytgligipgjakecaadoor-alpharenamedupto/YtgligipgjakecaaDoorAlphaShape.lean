/- alpha.firstPlace, noShape, Shape. -/
import Derived.Test.YtgligipgjakecaaDoorAlphaValid
import Derived.Test.YtgligipgjakecaaDoorAlphaSame
import Derived.Test.YtgligipgjakecaaDoorPatPure
import Derived.Test.YtgligipgjakecaaDoorValMap
namespace Go.Proofs.YtgligipgjakecaaDoor
set_option linter.unusedSimpArgs false
set_option linter.unusedVariables false
open Go.RowKit Go.Maps

theorem lawInt10 : Keyed Tryd.prog 3 := int_keyed Tryd.underlying3
theorem zeroInt10 (w : World) : (zeroValue 3).run Tryd.prog w = .ok (.int .i64 0) w := by kernel_rfl
theorem wfInt10 {x : Int} (h : I64 x) : (Lit.int .i64 x).wf = true := by
  obtain ⟨h1, h2⟩ := h
  simp [Lit.wf, IntKind.min, IntKind.max, IntKind.signed, IntKind.bits]; omega
theorem FirstM.new {V : Lit → Option Value} {ss : List Slo} {k : Nat} {s : Slo} (h : FirstM V ss k) (hs : ss[k]? = some s) (hv : s.v = true) (hlt : ¬ firstI ss s.n < k) : V (.int .i64 s.n) = none ∧ firstI ss s.n = k ∧ FirstM (setV V (.int .i64 s.n) (some (.int .i64 (k : Int)))) ss (k + 1) := by
  have hf := (first_at hs hv).1
  have hk : firstI ss s.n = k := by omega
  refine ⟨by rw [h, if_neg hlt], hk, fun x => ?_⟩
  by_cases hx : x = s.n
  · subst hx
    rw [setV_same, hk, if_pos (by omega)]
  · rw [setV_other _ _ (fun e => hx (by simpa using e)), h x]
    by_cases h1 : firstI ss x < k
    · rw [if_pos h1, if_pos (by omega)]
    · rw [if_neg h1, if_neg ?_]
      intro h2
      have h3 : firstI ss x = k := by omega
      have h4 := (List.getElem?_eq_some_iff.1 hs).1
      obtain ⟨t, ht, htv, htn⟩ := firstI_at (ss := ss) (n := x) (by omega)
      rw [h3, hs] at ht
      cases ht
      exact hx htn.symm

theorem first_old {w : World} {m n : Nat} {V : Lit → Option Value} {x p : Int} (hM : MapVal Tryd.prog 3 w m n V) (hx : I64 x) {i : Int} (hV : V (.int .i64 x) = some (.int .i64 i)) :
    Calls Tryd.prog 18 #[.map (some m), .int .i64 x, .int .i64 p] w fun e w' => e = .returned (.int .i64 i) ∧ w' = w := by
  have h1 := hM.look_ok (t := 41) lawInt10 Tryd.underlying41 (zeroInt10 w) (keyOf_int_mk Tryd.underlying3 (wfInt10 hx))
  have h2 := hM.look (t := 41) lawInt10 Tryd.underlying41 (zeroInt10 w) (keyOf_int_mk Tryd.underlying3 (wfInt10 hx))
  rw [hV] at h1 h2
  simp only [Option.getD_some, Option.isSome_some] at h1 h2
  clear hM hV
  go_enter Tryd.func18, Tryd.ntmps18
  go_wp2
  go_ret
  exact ⟨rfl, rfl⟩
theorem first_new {w : World} {m n : Nat} {V : Lit → Option Value} {x p : Int} (hM : MapVal Tryd.prog 3 w m n V) (hn : n < 1073741824) (hx : I64 x) (hV : V (.int .i64 x) = none) :
    Calls Tryd.prog 18 #[.map (some m), .int .i64 x, .int .i64 p] w fun e w' => e = .returned (.int .i64 p) ∧ MapVal Tryd.prog 3 w' m (n + 1) (setV V (.int .i64 x) (some (.int .i64 p))) ∧ Only (fun k => k = m) w w' := by
  have h1 := hM.look_ok (t := 41) lawInt10 Tryd.underlying41 (zeroInt10 w) (keyOf_int_mk Tryd.underlying3 (wfInt10 hx))
  rw [hV] at h1
  simp only [Option.getD_none, Option.isSome_none] at h1
  obtain ⟨w2, hup, hM2, hO2⟩ := hM.store (t := 41) lawInt10 Tryd.underlying41 (by unfold maxLen; omega) (keyOf_int_mk Tryd.underlying3 (wfInt10 hx)) (.int .i64 p)
  have h2 := hM2.look (t := 41) lawInt10 Tryd.underlying41 (zeroInt10 w2) (keyOf_int_mk Tryd.underlying3 (wfInt10 hx))
  rw [setV_same] at h2
  simp only [Option.getD_some] at h2
  have HM := hide hM2
  have HO := hide hO2
  clear hM hV hM2 hO2
  go_enter Tryd.func18, Tryd.ntmps18
  go_wp2
  go_ret
  exact ⟨rfl, HM.out, HO.out⟩

theorem noShape_any (w : World) : Calls Tryd.prog 16 #[] w fun e w' => e = .returned (.agg #[.int .i64 (-1), .slice none 0 0]) ∧ Below w.heap.size w w' := by
  have HB := hide (belo1 w (.cells #[.int .i64 (-1), .slice none 0 0] 25))
  go_enter Tryd.func16, Tryd.ntmps16
  go_wp2
  exact bodyPost_ret (v := .agg #[.int .i64 (-1), .slice none 0 0]) (by simp [results, Tryd.results16, go_sem]) rfl ⟨rfl, HB.out⟩

theorem Tryd.infoInt11 : (Tryd.prog.info? 3).map (fun i => (i.zero, i.size, i.bytes)) = some (some (.int .i64 0), 1, 8) := by kernel_rfl
theorem makeInts (n : Nat) (hn : n < 1073741824) : ∃ o, (∀ w : World, (Instr.makeSlice 23 (.int .i64 (n : Int)) (.int .i64 (n : Int))).run Tryd.prog w = .ok (.slice (some ⟨w.heap.size, 0, none⟩) n n) (w.alloc o)) ∧ ∀ w : World, Fill elInt 3 (w.alloc o) w.heap.size n [] := by
  obtain ⟨i0, hi0, hz0, hz1, hz2⟩ := info_parts Tryd.infoInt11
  refine ⟨.cells (madeCells (Value.cells (.int .i64 0)) (n * 1)) 3, fun w => ?_, fun w => ⟨_, heap_alloc_new _ _, ?_, Nat.zero_le _, fun i x h => by simp at h⟩⟩
  · have := run_make (P := Tryd.prog) w 23 3 i0 _ Tryd.underlying23 hi0 hz0 .i64 .i64 (n : Int) (n : Int) (by omega) (by omega) (by rw [hz2]; omega) (by omega)
    rw [hz1] at this
    simpa only [Int.toNat_natCast] using this
  · rw [size_madeCells]; rfl

theorem Fill.onlyK {α : Type} {E : El α} {e : TypeId} {w w' : World} {g n : Nat} {l : List α} {S : Nat → Prop} (h : Fill E e w g n l) (ho : Only S w w') (hs : ¬ S g) : Fill E e w' g n l := h.same (ho.block g h.lt hs)
theorem Fill.again {e : TypeId} {w : World} {g n k : Nat} {l : List Int} {x y : Int} (h : Fill elInt e w g n (l ++ [x])) (hk : l.length = k) (hn : k < n) : Fill elInt e (w.setCell ⟨g, k, none⟩ (.int .i64 y)) g n (l ++ [y]) := by
  have h' : Fill elInt e w g n l := by
    obtain ⟨cur, h1, h2, h3, h4⟩ := h
    refine ⟨cur, h1, h2, by rw [List.length_append] at h3; omega, fun i z hz j u hu => h4 i z (by rw [List.getElem?_append_left (List.getElem?_eq_some_iff.1 hz).1]; exact hz) j u hu⟩
  have h2 := h'.set hk hn y
  have e2 : setAll w g (k * elInt.size) (elInt.cells y) = w.setCell ⟨g, k, none⟩ (.int .i64 y) := by
    show setAll w g (k * 1) [.int .i64 y] = _
    rw [Nat.mul_one]; rfl
  rw [e2] at h2
  exact h2

/-- What Shape answers. -/
def ShapeAns (q : Int) (ss : List Slo) (w w' : World) (e : Ending) : Prop :=
  (ShapeOk q ss ∧ ∃ v, e = .returned (.agg #[.int .i64 q, v]) ∧ Lst elInt w' (fun b => w.heap.size ≤ b) v (shapeC ss)) ∨ (¬ ShapeOk q ss ∧ e = .returned (.agg #[.int .i64 (-1), .slice none 0 0]))

set_option maxRecDepth 100000 in
set_option maxHeartbeats 4000000 in
theorem shape_any {w : World} {q : Int} {v : Value} {ss : List Slo} (h : Has elSlo w v ss) :
    Calls Tryd.prog 6 #[.agg #[.int .i64 q, v]] w fun e w' => ShapeAns q ss w w' e ∧ Below w.heap.size w w' := by
  obtain ⟨va, vc, rfl, -, -, hlen⟩ := h.shape
  have HNo := hide noShape_any
  have hmm := @run_makeMap Tryd.prog
  obtain ⟨o, hmk, hfill⟩ := makeInts ss.length hlen
  have HFill := hide hfill
  clear hfill
  have HBb : Hid (Below w.heap.size w ((w.alloc (.cells #[.int .i64 q, .slice va ss.length vc] 29)).alloc (.cells #[.int .i64 0, .slice none 0 0] 25))) := belot (belo1 w _) (belo1 _ _)
  by_cases hq : q < 0
  · have HN : Hid (¬ ShapeOk q ss) := fun h => by have := h.1; omega
    go_enter Tryd.func6, Tryd.ntmps6
    go_wp2_with (go_at_call 16; refine (HNo.out _).mono ?_; rintro e w2 ⟨rfl, h2⟩; have HB2 := hide (belot HBb.out h2); have hb2 : w2.heap[w.heap.size + 1]? = some (.cells #[.int .i64 0, .slice none 0 0] 25 (0, 0)) := (by rw [h2.block _ (by simp)]; have := heap_alloc_new (w.alloc (.cells #[.int .i64 q, .slice va ss.length vc] 29)) (.cells #[.int .i64 0, .slice none 0 0] 25); simp only [size_alloc10] at this; exact this); have c0 : w2.cell? ⟨w.heap.size + 1, 0, none⟩ = some (.int .i64 0) := (by simp [World.cell?, hb2]); have c1 : w2.cell? ⟨w.heap.size + 1, 1, none⟩ = some (.slice none 0 0) := (by simp [World.cell?, hb2]); have f0 : w2.frozen? ⟨w.heap.size + 1, 0, none⟩ = false := (by simp [World.frozen?, hb2]); have f1 : w2.frozen? ⟨w.heap.size + 1, 1, none⟩ = false := (by simp [World.frozen?, hb2]); clear h2 hb2)
    exact bodyPost_ret (v := .agg #[.int .i64 (-1), .slice none 0 0]) (by simp [results, Tryd.results6, go_sem, c0, c1]) rfl ⟨.inr ⟨HN.out, rfl⟩, (HB2.out.setCell (by dsimp only; omega) _).setCell (by dsimp only; omega) _⟩
  · have HQ : Hid (0 ≤ q) := by show 0 ≤ q; omega
    obtain ⟨g, hg⟩ : ∃ g, w.heap.size + 1 + 1 = g := ⟨_, rfl⟩
    obtain ⟨m, hm⟩ : ∃ m, w.heap.size + 1 + 1 + 1 = m := ⟨_, rfl⟩
    obtain ⟨W, hW⟩ : ∃ W, W = (((w.alloc (.cells #[.int .i64 q, .slice va ss.length vc] 29)).alloc (.cells #[.int .i64 0, .slice none 0 0] 25)).alloc o).alloc (.map #[] 0) := ⟨_, rfl⟩
    have HWb : Hid (Below w.heap.size w W) := by rw [hW]; exact belot (belot HBb.out (belo1 _ _)) (belo1 _ _)
    have HWs : Hid (W.heap.size = m + 1) := by rw [hW]; simp only [size_alloc10]; show _ = _; omega
    have HWF : Hid (Fill elInt 3 W g ss.length []) := by
      have h1 := (HFill.out ((w.alloc (.cells #[.int .i64 q, .slice va ss.length vc] 29)).alloc (.cells #[.int .i64 0, .slice none 0 0] 25))).kept (belo1 _ (.map #[] 0))
      simp only [size_alloc10, hg] at h1
      rw [hW]; exact h1
    have HWM : Hid (MapVal Tryd.prog 3 W m 0 (fun _ => none)) := by
      have h1 := MapVal.made Tryd.prog 3 (((w.alloc (.cells #[.int .i64 q, .slice va ss.length vc] 29)).alloc (.cells #[.int .i64 0, .slice none 0 0] 25)).alloc o)
      simp only [size_alloc10, hm] at h1
      rw [hW]; exact h1
    have HWp : Hid (W.cell? ⟨w.heap.size, 0, none⟩ = some (.int .i64 q) ∧ W.cell? ⟨w.heap.size, 1, none⟩ = some (.slice va ss.length vc)) := by
      rw [hW]
      exact ⟨kept_cell (belot (belot (belo1 _ _) (belo1 _ _)) (belo1 _ _)) (new_cells (cs := #[.int .i64 q, .slice va ss.length vc]) 0 _ rfl), kept_cell (belot (belot (belo1 _ _) (belo1 _ _)) (belo1 _ _)) (new_cells (cs := #[.int .i64 q, .slice va ss.length vc]) 1 _ rfl)⟩
    have HWr : Hid (W.heap[w.heap.size + 1]? = some (.cells #[.int .i64 0, .slice none 0 0] 25 (0, 0))) := by
      have h1 := heap_alloc_new (w.alloc (.cells #[.int .i64 q, .slice va ss.length vc] 29)) (.cells #[.int .i64 0, .slice none 0 0] 25)
      simp only [size_alloc10] at h1
      show _ = _
      rw [hW, (belot (belo1 _ _) (belo1 _ _)).block _ (by simp only [size_alloc10]; omega)]
      exact h1
    have HLs : Hid (Lst elSlo W (fun b => b < w.heap.size) (.slice va ss.length vc) ss) := h.move fun b hb _ => ⟨hb, HWb.out.block b hb⟩
    have HWd := hide hW
    have HGd := hide hg
    have HMd := hide hm
    clear HFill h HBb hW hg hm
    go_enter Tryd.func6, Tryd.ntmps6
    go_wp2
    rw [← HWd.out, HMd.out, HGd.out]
    have hg := HGd.out
    have hm := HMd.out
    clear HWd HGd HMd hmk hmm
    have hgw : w.heap.size + 1 < g := by omega
    have hmg : g < m := by omega
    clear hg hm
    go_loopw [19] (fun i wl => ∃ (k : Nat) (V : Lit → Option Value), k ≤ ss.length ∧ i = .int .i64 k ∧ Hid (∀ s ∈ ss.take k, s.v = false → 0 ≤ s.n) ∧ Hid (FirstM V ss k) ∧ Hid (MapVal Tryd.prog 3 wl m k V) ∧ Hid (Fill elInt 3 wl g ss.length ((ss.take k).map (cellS ss))) ∧ Hid (Only (fun b => b = g ∨ b = m) W wl)) (fun i _ => ss.length - (intOf i).toNat)
    case atStart => exact ⟨0, _, by omega, rfl, (by intro s hs; simp at hs), FirstM.start ss, HWM, (by show Fill _ _ _ _ _ _; simpa using HWF.out), Only.refl _ _⟩
    case round =>
      obtain ⟨k, V, hk, rfl, HP, HFM, HM, HF, HO⟩ := hrel
      have HLr : Hid (Lst elSlo wr (fun b => b < w.heap.size) (.slice va ss.length vc) ss) := HLs.out.move fun b hb hF => ⟨hF, HO.out.block b hb (by omega)⟩
      have HRr : Hid (wr.heap[w.heap.size + 1]? = some (.cells #[.int .i64 0, .slice none 0 0] 25 (0, 0))) := by show _ = _; rw [HO.out.block _ (by have := HWs.out; omega) (by omega)]; exact HWr.out
      have d0 := HO.out.cell HWp.out.1 (by dsimp only; omega)
      have d1 := HO.out.cell HWp.out.2 (by dsimp only; omega)
      have HLk : Hid (((ss.take k).map (cellS ss)).length = k) := by show _ = _; rw [List.length_map, List.length_take]; omega
      have HSz : Hid (m < wr.heap.size) := HM.out.lt
      by_cases hlt : k < ss.length
      · have hi : (k : Int) < (ss.length : Int) := by omega
        have hi0 : (0 : Int) ≤ (k : Int) := by omega
        obtain ⟨b, off, rfl, -, hbw, hrow⟩ := HLr.out.row (by omega)
        obtain ⟨s, hs⟩ : ∃ s, ss[k]? = some s := ⟨_, List.getElem?_eq_getElem hlt⟩
        have y0 := hrow k s hs 0 _ rfl
        have y1 := hrow k s hs 1 _ rfl
        simp only [elSlo, Nat.add_zero] at y0 y1
        have HS := hide hs
        have hsn : I64 s.n := HLr.out.ok (List.mem_of_getElem? hs)
        have HTk : Hid (ss.take (k + 1) = ss.take k ++ [s]) := by show _ = _; rw [List.take_add_one, hs]; rfl
        clear hrow hs
        go_upto_region 8 with fail
        obtain ⟨V1, hV1⟩ : ∃ V1, V1 = wr.alloc (.cells #[.bool s.v, .int .i64 s.n] 37) := ⟨_, rfl⟩
        have HB1 : Hid (Below wr.heap.size wr V1) := by rw [hV1]; exact belo1 _ _
        have e0 : V1.cell? ⟨wr.heap.size, 0, none⟩ = some (.bool s.v) := by rw [hV1]; exact new_cells (cs := #[.bool s.v, .int .i64 s.n]) 0 _ rfl
        have e1 : V1.cell? ⟨wr.heap.size, 1, none⟩ = some (.int .i64 s.n) := by rw [hV1]; exact new_cells (cs := #[.bool s.v, .int .i64 s.n]) 1 _ rfl
        rw [← hV1]
        clear hV1 y0 y1 d0 d1
        have HO1 : Hid (Only (fun b => b = g ∨ b = m) W V1) := HO.out.trans (Only.of_below HB1.out _)
        have HM1 : Hid (MapVal Tryd.prog 3 V1 m k V) := HM.out.same (HB1.out.block _ HM.out.lt)
        have HF1 := hide (HF.out.kept HB1.out)
        obtain ⟨⟨yg, f1⟩, f2⟩ := HF1.out.cell (k := k) (j := 0) hlt (by decide)
        simp only [elInt, Nat.mul_one, Nat.add_zero] at f1 f2
        clear HM HF
        cases hv : s.v with
        | false =>
          rw [hv] at e0
          by_cases hn : s.n < 0
          · have HN : Hid (¬ ShapeOk q ss) := fun h => by have := h.2 s (List.mem_of_getElem? HS.out) hv; omega
            have HR1 : Hid (V1.heap[w.heap.size + 1]? = some (.cells #[.int .i64 0, .slice none 0 0] 25 (0, 0))) := by show _ = _; rw [HB1.out.block _ (by have := HSz.out; omega)]; exact HRr.out
            have HV1w : Hid (Below w.heap.size w V1) := HWb.out.trans (HO1.out.below HWb.out.size (fun b hb => by omega))
            clear f1 f2
            go_wp2_with (go_at_call 16; refine (HNo.out _).mono ?_; rintro e w2 ⟨rfl, h2⟩; have HB2 := hide (belot HV1w.out h2); have hb2 : w2.heap[w.heap.size + 1]? = some (.cells #[.int .i64 0, .slice none 0 0] 25 (0, 0)) := (by rw [h2.block _ (lt_of_block HR1.out)]; exact HR1.out); have r0 : w2.cell? ⟨w.heap.size + 1, 0, none⟩ = some (.int .i64 0) := (by simp [World.cell?, hb2]); have r1 : w2.cell? ⟨w.heap.size + 1, 1, none⟩ = some (.slice none 0 0) := (by simp [World.cell?, hb2]); have q0 : w2.frozen? ⟨w.heap.size + 1, 0, none⟩ = false := (by simp [World.frozen?, hb2]); have q1 : w2.frozen? ⟨w.heap.size + 1, 1, none⟩ = false := (by simp [World.frozen?, hb2]); clear h2 hb2)
            exact bodyPost_ret (v := .agg #[.int .i64 (-1), .slice none 0 0]) (by simp [results, Tryd.results6, go_sem, r0, r1]) rfl ⟨.inr ⟨HN.out, rfl⟩, (HB2.out.setCell (by dsimp only; omega) _).setCell (by dsimp only; omega) _⟩
          · have hn1 : decide (s.n < 0) = false := by simp; omega
            have HFN : Hid (Fill elInt 3 (V1.setCell ⟨g, k, none⟩ (.int .i64 s.n)) g ss.length ((ss.take (k + 1)).map (cellS ss))) := by
              have h2 := HF1.out.set HLk.out hlt s.n
              show Fill _ _ _ _ _ _
              rw [HTk.out, List.map_append]
              have e2 : setAll V1 g (k * elInt.size) (elInt.cells s.n) = V1.setCell ⟨g, k, none⟩ (.int .i64 s.n) := by
                show setAll V1 g (k * 1) [.int .i64 s.n] = _
                rw [Nat.mul_one]; rfl
              rw [e2] at h2
              simpa only [List.map_cons, List.map_nil, cellS_con hv] using h2
            have e0' : (V1.setCell ⟨g, k, none⟩ (.int .i64 s.n)).cell? ⟨wr.heap.size, 0, none⟩ = some (.bool false) := by
              rw [World.cell?_of_block (w := V1) (Below.heap_setCell _ _ _ _ (by have := HSz.out; dsimp only; omega))]; exact e0
            go_wp2
            go_roundw
            case rel => exact ⟨k + 1, V, by omega, by go_num, by show ∀ t ∈ ss.take (k + 1), t.v = false → 0 ≤ t.n; rw [HTk.out]; intro t ht; rcases List.mem_append.1 ht with h1 | h1; exact HP.out t h1; (simp only [List.mem_singleton] at h1; subst h1; intro _; omega), HFM.out.con HS.out hv, (HM1.out.same (Below.heap_setCell _ _ _ _ (by dsimp only; omega))).mono (by omega), HFN, HO1.out.setCell (.inl rfl) _⟩
            case measure => simp [intOf]; omega
        | true =>
          rw [hv] at e0
          have HF2 : Hid (Fill elInt 3 (V1.setCell ⟨g, k, none⟩ (.int .i64 s.n)) g ss.length ((ss.take k).map (cellS ss) ++ [s.n])) := by
            have h2 := HF1.out.set HLk.out hlt s.n
            have e2 : setAll V1 g (k * elInt.size) (elInt.cells s.n) = V1.setCell ⟨g, k, none⟩ (.int .i64 s.n) := by
              show setAll V1 g (k * 1) [.int .i64 s.n] = _
              rw [Nat.mul_one]; rfl
            rw [e2] at h2
            exact h2
          have e0' : (V1.setCell ⟨g, k, none⟩ (.int .i64 s.n)).cell? ⟨wr.heap.size, 0, none⟩ = some (.bool true) := by
            rw [World.cell?_of_block (w := V1) (Below.heap_setCell _ _ _ _ (by have := HSz.out; dsimp only; omega))]; exact e0
          have e1' : (V1.setCell ⟨g, k, none⟩ (.int .i64 s.n)).cell? ⟨wr.heap.size, 1, none⟩ = some (.int .i64 s.n) := by
            rw [World.cell?_of_block (w := V1) (Below.heap_setCell _ _ _ _ (by have := HSz.out; dsimp only; omega))]; exact e1
          have HM2 : Hid (MapVal Tryd.prog 3 (V1.setCell ⟨g, k, none⟩ (.int .i64 s.n)) m k V) := HM1.out.same (Below.heap_setCell _ _ _ _ (by dsimp only; omega))
          have HO2 : Hid (Only (fun b => b = g ∨ b = m) W (V1.setCell ⟨g, k, none⟩ (.int .i64 s.n))) := HO1.out.setCell (.inl rfl) _
          have HPn : Hid (∀ t ∈ ss.take (k + 1), t.v = false → 0 ≤ t.n) := by
            show ∀ t ∈ ss.take (k + 1), t.v = false → 0 ≤ t.n
            rw [HTk.out]
            intro t ht
            rcases List.mem_append.1 ht with h1 | h1
            · exact HP.out t h1
            · simp only [List.mem_singleton] at h1
              subst h1
              intro h2
              rw [hv] at h2; cases h2
          go_upto_region 12 with fail
          clear HF1 HM1 HO1 f1 f2 e0 e1 e0'
          generalize V1.setCell ⟨g, k, none⟩ (.int .i64 s.n) = V2 at HF2 e1' HM2 HO2 ⊢
          by_cases hold : firstI ss s.n < k
          · obtain ⟨hVx, hFn⟩ := HFM.out.old HS.out hv hold
            have HC1 := hide (fun p => first_old (p := p) HM2.out hsn hVx)
            have HFn := hide hFn
            have hfi : I64 ((firstI ss s.n : Nat) : Int) := ⟨by omega, by omega⟩
            have HC2 := hide (like_any hfi)
            obtain ⟨⟨yg, f1⟩, f2⟩ := HF2.out.cell (k := k) (j := 0) hlt (by decide)
            simp only [elInt, Nat.mul_one, Nat.add_zero] at f1 f2
            have HFN : Hid (Fill elInt 3 (V2.setCell ⟨g, k, none⟩ (.int .i64 (-1 - ((firstI ss s.n : Nat) : Int)))) g ss.length ((ss.take (k + 1)).map (cellS ss))) := by
              show Fill _ _ _ _ _ _
              rw [HTk.out, List.map_append]
              have h2 := HF2.out.again (y := -1 - ((firstI ss s.n : Nat) : Int)) HLk.out hlt
              simpa only [List.map_cons, List.map_nil, cellS_var hv] using h2
            clear hVx hFn
            go_wp2_with (first | (go_at_call 18; refine (HC1.out _).mono ?_; rintro e w3 ⟨rfl, hw⟩; have hw := hw.symm; subst hw) | (go_at_call 17; refine (HC2.out _).mono ?_; rintro e w3 ⟨rfl, hw⟩; have hw := hw.symm; subst hw))
            go_roundw
            case rel => exact ⟨k + 1, V, by omega, by go_num, HPn, HFn, (HM2.out.same (Below.heap_setCell _ _ _ _ (by dsimp only; omega))).mono (by omega), HFN, HO2.out.setCell (.inl rfl) _⟩
            case measure => simp [intOf]; omega
          · obtain ⟨hVx, hfk, hFn⟩ := HFM.out.new HS.out hv hold
            have HC1 := hide (first_new (p := (k : Int)) HM2.out (by omega) hsn hVx)
            have HFn := hide hFn
            have HFk := hide hfk
            have hfi : I64 ((k : Nat) : Int) := ⟨by omega, by omega⟩
            have HC2 := hide (like_any hfi)
            clear hVx hFn hfk
            go_wp2_with (first | (go_at_call 18; refine HC1.out.mono ?_; rintro e w3 ⟨rfl, hm3, ho3⟩; have HM3 := hide hm3; have HO3 := hide (HO2.out.trans (ho3.mono (fun _ _ e => .inr e))); have HF3 := hide (HF2.out.onlyK ho3 (by omega)); obtain ⟨⟨yg, f1⟩, f2⟩ := HF3.out.cell (k := k) (j := 0) hlt (by decide); simp only [elInt, Nat.mul_one, Nat.add_zero] at f1 f2; clear hm3 ho3) | (go_at_call 17; refine (HC2.out _).mono ?_; rintro e w4 ⟨rfl, hw⟩; have hw := hw.symm; subst hw))
            have HFN : Hid (Fill elInt 3 (w3.setCell ⟨g, k, none⟩ (.int .i64 (-1 - ((k : Nat) : Int)))) g ss.length ((ss.take (k + 1)).map (cellS ss))) := by
              show Fill _ _ _ _ _ _
              rw [HTk.out, List.map_append]
              have h2 := HF3.out.again (y := -1 - ((k : Nat) : Int)) HLk.out hlt
              simpa only [List.map_cons, List.map_nil, cellS_var hv, HFk.out] using h2
            go_roundw
            case rel => exact ⟨k + 1, _, by omega, by go_num, HPn, HFn, HM3.out.same (Below.heap_setCell _ _ _ _ (by dsimp only; omega)), HFN, HO3.out.setCell (.inl rfl) _⟩
            case measure => simp [intOf]; omega
      · obtain rfl : k = ss.length := by omega
        have hi : ¬ (ss.length : Int) < (ss.length : Int) := by omega
        rw [List.take_of_length_le (Nat.le_refl _)] at HF HP
        have HOk : Hid (ShapeOk q ss) := ⟨HQ.out, HP.out⟩
        have r0 : wr.cell? ⟨w.heap.size + 1, 0, none⟩ = some (.int .i64 0) := by simp [World.cell?, HRr.out]
        have r1 : wr.cell? ⟨w.heap.size + 1, 1, none⟩ = some (.slice none 0 0) := by simp [World.cell?, HRr.out]
        have q0 : wr.frozen? ⟨w.heap.size + 1, 0, none⟩ = false := by simp [World.frozen?, HRr.out]
        have q1 : wr.frozen? ⟨w.heap.size + 1, 1, none⟩ = false := by simp [World.frozen?, HRr.out]
        have HBw : Hid (Below w.heap.size w wr) := HWb.out.trans (HO.out.below HWb.out.size (fun b hb => by omega))
        have HCl : Hid (∀ x ∈ shapeC ss, I64 x) := fun x hx => by
          obtain ⟨i, hi⟩ := List.mem_iff_getElem?.1 hx
          obtain ⟨s, hs, rfl⟩ := shapeC_of hi
          have hlt := (List.getElem?_eq_some_iff.1 hs).1
          cases hv : s.v with
          | true => rw [cellS_var hv]; have := (first_at hs hv).1; exact ⟨by omega, by omega⟩
          | false => rw [cellS_con hv]; exact HLs.out.ok (List.mem_of_getElem? hs)
        go_wp2
        refine bodyPost_ret (v := .agg #[.int .i64 q, .slice (some ⟨g, 0, none⟩) ss.length ss.length]) (by simp [results, Tryd.results6, go_sem, r0, r1]) rfl ⟨.inl ⟨HOk.out, _, rfl, ?_⟩, (HBw.out.setCell (by dsimp only; omega) _).setCell (by dsimp only; omega) _⟩
        have h3 := (HF.out.same (w' := (wr.setCell ⟨w.heap.size + 1, 0, none⟩ (.int .i64 q)).setCell ⟨w.heap.size + 1, 1, none⟩ (.slice (some ⟨g, 0, none⟩) ss.length ss.length)) (by rw [Below.heap_setCell _ _ _ _ (by dsimp only; omega), Below.heap_setCell _ _ _ _ (by dsimp only; omega)])).list (F := fun b => w.heap.size ≤ b) (by rw [List.length_map]) HCl.out (by omega) hlen
        exact h3
end Go.Proofs.YtgligipgjakecaaDoor
