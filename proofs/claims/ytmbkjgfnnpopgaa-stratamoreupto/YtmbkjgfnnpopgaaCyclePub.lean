/- strata.Cycle and Bad, where the edges fit. -/
import Derived.Test.YtmbkjgfnnpopgaaGraphShort
namespace Go.Proofs.Ytmbkjgfnnpopgaa
set_option linter.unusedSimpArgs false
set_option linter.unusedVariables false
open Go.RowKit Go.Maps
set_option maxRecDepth 100000

theorem bad_uniq {n : Nat} {es : List Edg} {H H' : Nat → Int} (hin : ∀ x ∈ es, 0 ≤ x.f ∧ x.f < n ∧ 0 ≤ x.t ∧ x.t < n) (he : ∀ v, v < n → H v = H' v) : findI (badE H) es = findI (badE H') es := by
  have h : es.findIdx? (badE H) = es.findIdx? (badE H') := by
    induction es with
    | nil => rfl
    | cons x l ih =>
      obtain ⟨q1, q2, q3, q4⟩ := hin x (by simp)
      have hx : badE H x = badE H' x := by unfold badE; rw [he _ (by omega), he _ (by omega)]
      rw [List.findIdx?_cons, List.findIdx?_cons, hx, ih (fun y hy => hin y (by simp [hy]))]
  unfold findI
  rw [h]
theorem bad_at {es : List Edg} {H : Nat → Int} (h : 0 ≤ findI (badE H) es) : ∃ (m : Nat) (x : Edg), findI (badE H) es = m ∧ es[m]? = some x ∧ badE H x = true := by
  unfold findI at h ⊢
  cases hf : es.findIdx? (badE H) with
  | none => rw [hf] at h; simp at h
  | some m =>
    obtain ⟨hm, hp, -⟩ := List.findIdx?_eq_some_iff_getElem.1 hf
    exact ⟨m, es[m], rfl, List.getElem?_eq_getElem hm, hp⟩

set_option maxHeartbeats 1000000 in
theorem bad_fit {w : World} {v : Value} {es : List Edg} {n : Nat} (h : Has elEdg w v es) (hfit : fitP n es = true) :
    Calls Try.prog 29 #[.int .i64 (n : Int), v] w fun e w' => ∃ H : Nat → Int, (∀ v, v < n → LeastOf (Ed n (lnkT es)) v (H v)) ∧ e = .returned (.tuple #[.int .i64 (findI (badE H) es), .int .i64 0]) ∧ Below w.heap.size w w' := by
  have hn : n ≤ 128 := by have := (fit_in8 hfit).1; omega
  obtain ⟨va, vc, rfl, -, -, hlen⟩ := h.shape
  have HIn := hide (fit_in8 hfit).2
  have HF := hide (fit_any h n)
  rw [hfit] at HF
  have HL := hide h
  have HFt := hide hfit
  clear h hfit
  go_enter Try.func29, Try.ntmps29
  go_wp2_with (first
    | (go_at_call 39; refine HF.out.mono ?_; rintro e w1 ⟨rfl, h1⟩; have HB1 := hide h1; clear h1)
    | (go_at_call 40; refine (newGraph_any (HL.out.kept HB1.out) HFt.out).mono ?_; rintro e w2 ⟨gl, rfl, h1, h2, h3⟩; have HG2 := hide h2; have HB2 := hide (HB1.out.trans (h3.mono HB1.out.size)); have HL2 := hide ((HL.out.kept HB1.out).kept h3); clear h1 h2 h3)
    | (go_at_call 42; refine (bad_any HG2.out hn HL2.out HIn.out).mono ?_; rintro e w3 ⟨H, h1, rfl, h5⟩; have HB3 := hide (HB2.out.trans (h5.mono HB2.out.size)); have HLe := hide h1; clear h1 h5))
  exact bodyPost_ret (v := .tuple #[.int .i64 (findI (badE H) es), .int .i64 0]) (by simp [results, Try.results29, go_sem]) rfl ⟨H, HLe.out, rfl, HB3.out⟩

theorem own_one {w : World} {base B : Nat} {e : TypeId} {v : Value} (h : w.heap[B]? = some (.cells #[v] e (0, 0))) (hb : base ≤ B) : w.ownsRow base e 1 (.slice (some ⟨B, 0, none⟩) 1 1) 1 [v] :=
  ⟨rfl, .inr ⟨B, 1, #[v], rfl, hb, h, Nat.le_refl _, by decide, rfl, rfl⟩⟩
theorem own_news {w : World} {base n : Nat} {e : TypeId} {v : Value} {xs : List Value} (h : w.ownsRow base e 1 v n xs) : ∃ ao cap, v = .slice ao n cap ∧ (ao = none → n = 0 ∧ cap = 0) ∧ ∀ ad, ao = some ad → ∀ (j : Nat) (u : Value), xs[j]? = some u → w.cell? (ad.add j) = some u := by
  rcases h.2 with ⟨h1, h2⟩ | ⟨g, cap, cur, h1, h2, h3, h4, h5, h6, h7⟩
  · exact ⟨none, 0, by rw [h1, h2], fun _ => ⟨h2, rfl⟩, fun ad e => by cases e⟩
  · refine ⟨_, cap, h1, (fun e => by cases e), fun ad e j u hu => ?_⟩
    cases e
    rw [addr_add, Nat.zero_add]
    rw [← h7, List.getElem?_take] at hu
    split at hu
    · simp only [World.cell?, h3]
      simpa using hu
    · cases hu
theorem grow_join {w w' : World} {base : Nat} {v : Value} {m : Nat} {W : List Int} (hm : I64 (m : Int)) (hW : ∀ x ∈ W, I64 x) (h : w'.ownsRow base 3 1 v (1 + W.length) ([.int .i64 (m : Int)] ++ W.flatMap elInt.cells)) : Grow elInt 3 base w' v ((m : Int) :: W) := by
  refine ⟨?_, fun x hx => ?_⟩
  · have : ((m : Int) :: W).length = 1 + W.length := by simp; omega
    rw [this]
    exact h
  · rcases List.mem_cons.1 hx with rfl | hx
    · exact hm
    · exact hW x hx

theorem ints_len (W : List Int) : (W.flatMap elInt.cells).length = W.length * 1 := by
  induction W with
  | nil => rfl
  | cons x l ih => rw [List.flatMap_cons, List.length_append, ih]; simp [elInt]; omega
theorem ints_one (W : List Int) : ∀ u ∈ W.flatMap elInt.cells, u.oneCell' = true := fun u hu => by
  obtain ⟨x, -, hx⟩ := List.mem_flatMap.1 hu
  simp only [elInt, List.mem_singleton] at hx
  subst hx
  rfl

set_option maxHeartbeats 1000000 in
theorem cycle_bad {w : World} {v : Value} {es : List Edg} {n : Nat} (h : Has elEdg w v es) (hfit : fitP n es = true) (hb : HasBad n es) :
    Calls Try.prog 30 #[.int .i64 (n : Int), v] w fun e w' => ∃ (H : Nat → Int) (wv : Value) (m : Nat) (x : Edg) (W : List Int), (∀ v, v < n → LeastOf (Ed n (lnkT es)) v (H v)) ∧ e = .returned (.tuple #[wv, .int .i64 0]) ∧ Grow elInt 3 w.heap.size w' wv ((m : Int) :: W) ∧ (findI (badE H) es = m ∧ es[m]? = some x ∧ badE H x = true ∧ PathL es x.t.toNat W x.f.toNat ∧ W.length ≤ n) ∧ Below w.heap.size w w' := by
  have hn : n ≤ 128 := by have := (fit_in8 hfit).1; omega
  obtain ⟨va, vc, rfl, -, -, hlen⟩ := h.shape
  have HIn := hide (fit_in8 hfit).2
  have HF := hide (fit_any h n)
  rw [hfit] at HF
  have HL := hide h
  have HFt := hide hfit
  have HBd := hide hb
  clear h hfit hb
  go_enter Try.func30, Try.ntmps30
  go_wp2_with (first
    | (go_at_call 39; refine HF.out.mono ?_; rintro e w1 ⟨rfl, h1⟩; have HB1 := hide h1; clear h1)
    | (go_at_call 40; refine (newGraph_any (HL.out.kept HB1.out) HFt.out).mono ?_; rintro e w2 ⟨gl, rfl, h1, h2, h3⟩; have hbx := belo1 w2 (.cells #[.int .i64 (n : Int), .slice (some ⟨gl, 0, none⟩) (n * n) (n * n)] 66); have HG2 := hide (h2.kept hbx); have hB2 := HB1.out.trans (h3.mono HB1.out.size); have HB2 := hide (hB2.trans (hbx.mono hB2.size)); have HL2 := hide (((HL.out.kept HB1.out).kept h3).kept hbx); have HX0 : Hid ((w2.alloc (.cells #[.int .i64 (n : Int), .slice (some ⟨gl, 0, none⟩) (n * n) (n * n)] 66)).cell? ⟨w2.heap.size, 0, none⟩ = some (.int .i64 (n : Int)) ∧ (w2.alloc (.cells #[.int .i64 (n : Int), .slice (some ⟨gl, 0, none⟩) (n * n) (n * n)] 66)).cell? ⟨w2.heap.size, 1, none⟩ = some (.slice (some ⟨gl, 0, none⟩) (n * n) (n * n))) := (by show _ ∧ _; constructor <;> simp); clear h1 h2 h3 hbx hB2)
    | (go_at_call 42; refine (bad_any HG2.out hn HL2.out HIn.out).mono ?_; rintro e w3 ⟨H, h1, rfl, h5⟩; have x0 := kept_cell h5 HX0.out.1; have x1 := kept_cell h5 HX0.out.2; have HG3 := hide (HG2.out.kept h5); have HB3 := hide (HB2.out.trans (h5.mono HB2.out.size)); have HLe := hide h1; obtain ⟨m, x, hm, hx, hbx⟩ := bad_at ((bad_iff HIn.out h1).2 HBd.out); have HL3 := hide (HL2.out.kept h5); have HM := hide (And.intro hm (And.intro hx hbx)); have hm0 : (0 : Int) ≤ (m : Int) := (by omega); have hm1 : ¬ (m : Int) < 0 := (by omega); rw [hm]; clear h1 h5 hm hx hbx HG2 HB2 HL2 HX0))
  obtain ⟨hx0, hx1, hx2, hx3⟩ := HIn.out x (List.mem_of_getElem? HM.out.2.1)
  have hml : m < es.length := (List.getElem?_eq_some_iff.1 HM.out.2.1).1
  have hmi : (m : Int) < (es.length : Int) := by omega
  obtain ⟨kf, hkf⟩ : ∃ kf : Nat, x.f = kf := ⟨x.f.toNat, by omega⟩
  obtain ⟨kt, hkt⟩ : ∃ kt : Nat, x.t = kt := ⟨x.t.toNat, by omega⟩
  obtain ⟨eb, off, rfl, -, -, hrow⟩ := HL3.out.row (by omega)
  have y0 := hrow m x HM.out.2.1 0 _ rfl
  have y1 := hrow m x HM.out.2.1 1 _ rfl
  simp only [elEdg, Nat.add_zero] at y0 y1
  rw [hkf] at y0
  rw [hkt] at y1
  have hmut : Mut (Ed n (lnkT es)) kf kt := by
    have hb := HM.out.2.2
    unfold badE at hb
    simp only [Bool.and_eq_true, beq_iff_eq] at hb
    have h1 := hb.2
    rw [hkf, hkt, Int.toNat_natCast, Int.toNat_natCast] at h1
    exact (least_eq (HLe.out kf (by omega)) (HLe.out kt (by omega))).1 h1
  have HSh : Hid (∀ V : World, Below w3.heap.size w3 V → Calls Try.prog 47 #[.agg #[.int .i64 (n : Int), .slice (some ⟨gl, 0, none⟩) (n * n) (n * n)], .slice (some ⟨eb, off, none⟩) es.length vc, .int .i64 (kt : Int), .int .i64 (kf : Int)] V fun e w' => ∃ (wv : Value) (W : List Int), e = .returned wv ∧ Grow elInt 3 V.heap.size w' wv W ∧ (PathL es kt W kf ∧ W.length ≤ n) ∧ Below V.heap.size V w') := fun V hV => shortest_any (HG3.out.kept hV) hn (by omega) (by omega) (HL3.out.kept hV) HIn.out hmut.2
  have HPp := hide (And.intro hkf hkt)
  clear hrow hmut hx0 hx1 hx2 hx3
  obtain ⟨i0, hi0, hz0, hz1, hz2⟩ := info_parts Try.infoInt8
  have hbA : Below w3.heap.size w3 w3.drew := (Below.refl _ w3).drew
  have hbB : Below w3.heap.size w3 (w3.drew.alloc (.cells #[.int .i64 (m : Int)] 3)) := ((Below.refl _ w3).drew).alloc (Nat.le_refl _) _
  go_cut [4, 5] (fun t4 t5 wx => ∃ W : List Int, t5 = .int .i64 0 ∧ Hid (Grow elInt 3 w.heap.size wx t4 ((m : Int) :: W)) ∧ Hid (PathL es kt W kf ∧ W.length ≤ n) ∧ Hid (Below w.heap.size w wx))
  case first =>
    go_region_held3 (fun w' => w'.cell? ⟨w2.heap.size, 0, none⟩ = some (.int .i64 (n : Int)) ∧ w'.cell? ⟨w2.heap.size, 1, none⟩ = some (.slice (some ⟨gl, 0, none⟩) (n * n) (n * n)) ∧ w'.cell? ⟨eb, off + m * 4, none⟩ = some (.int .i64 (kf : Int)) ∧ w'.cell? ⟨eb, off + m * 4 + 1, none⟩ = some (.int .i64 (kt : Int)))
      (first | exact ⟨x0, x1, y0, y1⟩ | exact ⟨kept_cell hbB x0, kept_cell hbB x1, kept_cell hbB y0, kept_cell hbB y1⟩ | exact HSk.out | exact HSk2.out | exact HSk4.out)
      (first
        | (go_at_call 47; refine (HSh.out _ (by first | exact hbA | exact hbB)).mono ?_; rintro e V2 ⟨wv, W, rfl, g1, p1, b1⟩
           have HPa := hide p1
           have HWo : Hid (∀ x ∈ W, I64 x) := g1.2
           obtain ⟨ao, cap, rfl, hno, hnw⟩ := own_news g1.1
           have HNo := hide hno
           first
             | (have hk := b1.block w3.heap.size (by show w3.heap.size < (w3.drew.alloc (.cells #[.int .i64 (m : Int)] 3)).heap.size; show _ < (w3.heap.push _).size; rw [Array.size_push]; exact Nat.lt_succ_self _)
                have HOw : Hid (V2.ownsRow w3.heap.size 3 1 (.slice (some ⟨w3.heap.size, 0, none⟩) 1 1) 1 [.int .i64 (m : Int)]) := own_one (hk.trans (heap_alloc_new w3.drew (.cells #[.int .i64 (m : Int)] 3))) (Nat.le_refl _)
                have HNw := hide hnw
                have hbz : Below w3.heap.size w3 V2 := hbB.trans (b1.mono hbB.size)
                have HBz := hide hbz
                have HSk := hide (And.intro (kept_cell hbz x0) (And.intro (kept_cell hbz x1) (And.intro (kept_cell hbz y0) (kept_cell hbz y1))))
                clear hk hbz)
             | (have hb2 : Below w3.heap.size w3 V2 := hbA.trans (b1.mono hbA.size)
                have hbz := hb2.alloc hb2.size (.cells #[.int .i64 (m : Int)] 3)
                have HOw : Hid ((V2.alloc (.cells #[.int .i64 (m : Int)] 3)).ownsRow w3.heap.size 3 1 (.slice (some ⟨V2.heap.size, 0, none⟩) 1 1) 1 [.int .i64 (m : Int)]) := own_one (heap_alloc_new V2 (.cells #[.int .i64 (m : Int)] 3)) hb2.size
                have HNw := hide (fun ad e j u hu => kept_cell (belo1 V2 (.cells #[.int .i64 (m : Int)] 3)) (hnw ad e j u hu))
                have HBz := hide hbz
                have HSk := hide (And.intro (kept_cell hb2 x0) (And.intro (kept_cell hb2 x1) (And.intro (kept_cell hb2 y0) (kept_cell hb2 y1))))
                have HSk2 := hide (And.intro (kept_cell hbz x0) (And.intro (kept_cell hbz x1) (And.intro (kept_cell hbz y0) (kept_cell hbz y1))))
                clear hbz hb2)
           clear g1 p1 b1 hno hnw)
        | (refine step_append_any (by rfl) _ _ 46 (by rfl) w3.heap.size 3 i0 _ 1 8 Try.underlying46 hi0 hz0 hz1 hz2 rfl (by decide) _ 1 [.int .i64 (m : Int)] (by rfl) HOw.out ao W.length cap (W.flatMap elInt.cells) (by rfl) HNo.out (ints_len W) HNw.out (ints_one W) (by have := HPa.out.2; unfold maxLen; omega) (by have := HPa.out.2; omega) HBz.out.size ?_
           intro v4 w4 hown4 hgrow4
           have hbe := below_grown HBz.out HOw.out hgrow4 HBz.out.size
           have HGr := hide ((grow_join (w := w) ⟨by omega, by omega⟩ HWo.out hown4).mono HB3.out.size)
           have HBe := hide (HB3.out.trans (hbe.mono HB3.out.size))
           have HSk4 := hide (And.intro (kept_cell hbe x0) (And.intro (kept_cell hbe x1) (And.intro (kept_cell hbe y0) (kept_cell hbe y1))))
           clear hown4 hgrow4 hbe))
    all_goals (go_wp2; go_meet)
    all_goals exact ⟨W, rfl, HGr, HPa, HBe⟩
  case rest =>
    obtain ⟨W, rfl, HGr, HPa, HBe⟩ := hcut
    go_wp2
    exact bodyPost_ret (v := .tuple #[u4, .int .i64 0]) (by simp [results, Try.results30, go_sem]) rfl ⟨H, u4, m, x, W, HLe.out, rfl, HGr.out, ⟨HM.out.1, HM.out.2.1, HM.out.2.2, by rw [HPp.out.1, HPp.out.2]; simpa using HPa.out.1, HPa.out.2⟩, HBe.out⟩

set_option maxHeartbeats 1000000 in
theorem cycle_good {w : World} {v : Value} {es : List Edg} {n : Nat} (h : Has elEdg w v es) (hfit : fitP n es = true) (hb : ¬ HasBad n es) :
    Calls Try.prog 30 #[.int .i64 (n : Int), v] w fun e w' => e = .returned (.tuple #[.slice none 0 0, .int .i64 0]) ∧ Below w.heap.size w w' := by
  have hn : n ≤ 128 := by have := (fit_in8 hfit).1; omega
  obtain ⟨va, vc, rfl, -, -, hlen⟩ := h.shape
  have HIn := hide (fit_in8 hfit).2
  have HF := hide (fit_any h n)
  rw [hfit] at HF
  have HL := hide h
  have HFt := hide hfit
  have HBd := hide hb
  clear h hfit hb
  go_enter Try.func30, Try.ntmps30
  go_wp2_with (first
    | (go_at_call 39; refine HF.out.mono ?_; rintro e w1 ⟨rfl, h1⟩; have HB1 := hide h1; clear h1)
    | (go_at_call 40; refine (newGraph_any (HL.out.kept HB1.out) HFt.out).mono ?_; rintro e w2 ⟨gl, rfl, h1, h2, h3⟩; have hbx := belo1 w2 (.cells #[.int .i64 (n : Int), .slice (some ⟨gl, 0, none⟩) (n * n) (n * n)] 66); have HG2 := hide (h2.kept hbx); have hB2 := HB1.out.trans (h3.mono HB1.out.size); have HB2 := hide (hB2.trans (hbx.mono hB2.size)); have HL2 := hide (((HL.out.kept HB1.out).kept h3).kept hbx); clear h1 h2 h3 hbx hB2)
    | (go_at_call 42; refine (bad_any HG2.out hn HL2.out HIn.out).mono ?_; rintro e w3 ⟨H, h1, rfl, h5⟩; have HB3 := hide (HB2.out.trans (h5.mono HB2.out.size)); have hge : ¬ 0 ≤ findI (badE H) es := (fun hc => HBd.out ((bad_iff HIn.out h1).1 hc)); obtain ⟨bd, hbd⟩ : ∃ bd, findI (badE H) es = bd := ⟨_, rfl⟩; rw [hbd] at hge ⊢; have hge2 : bd < 0 := (by omega); clear h1 h5 hbd))
  exact bodyPost_ret (v := .tuple #[.slice none 0 0, .int .i64 0]) (by simp [results, Try.results30, go_sem]) rfl ⟨rfl, HB3.out⟩
end Go.Proofs.Ytmbkjgfnnpopgaa
