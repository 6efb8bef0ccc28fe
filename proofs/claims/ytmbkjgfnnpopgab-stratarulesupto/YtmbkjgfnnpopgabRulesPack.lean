/- (strata.graph).shortest: a walk along edges. strata.Cycle and Bad, where the edges fit. Is it a level mapping? The document's Holds and strata.Holds. strata.Holds. Closed walks over a negated edge, said over lists; strata's noEdge and ContainsFunc with it. (By mk_cyc.py.) The document's Cyclic. strata.Cyclic. Level mappings and closed walks exclude each other; what Levels and Cycle answer is such a one. One edge more: what it changes, said over lists. The law of the edges' order: its walk. The law of one edge more: its walk. The law's asked: at the least levels each predicate has a reason that leads back to level 0. The law's below: whether all predicates of rules lie below n. (By mk_below.py.) Edges and the rules that they come from. The law's rulesOf: rules in a list of their own, their patterns too. (By mk_rcopy.py.) The law of the rules' own words: its walk. (By mk_rules.py.) -/
import Derived.Test.YtmbkjgfnnpopgabGraphNear
import Derived.Test.YtmbkjgfnnpopgabEdgeRFit
import Derived.Laws.Cover3
import Derived.Test.YtmbkjgfnnpopgabOrderPure
import Derived.Test.YtmbkjgfnnpopgabRuleEdges

namespace Go.Proofs.Ytmbkjgfnnpopgab
set_option linter.unusedSimpArgs false
set_option linter.unusedVariables false
open Go.RowKit Go.Maps
set_option maxRecDepth 100000

/-- A walk along edges, by their numbers. -/
inductive PathL (es : List Edg) (a : Nat) : List Int → Nat → Prop
  | nil : PathL es a [] a
  | snoc {W : List Int} {b m : Nat} {x : Edg} {t : Nat} : PathL es a W b → es[m]? = some x → x.f = b → x.t = t → PathL es a (W ++ [(m : Int)]) t

theorem PathL.cons {es : List Edg} {a b m t : Nat} {x : Edg} {W : List Int} (h : PathL es t W b) (hm : es[m]? = some x) (hf : x.f = a) (ht : x.t = t) : PathL es a ((m : Int) :: W) b := by
  induction h with
  | nil => exact PathL.snoc (W := []) .nil hm hf ht
  | snoc h h1 h2 h3 ih => exact PathL.snoc (W := (m : Int) :: _) ih h1 h2 h3

theorem lnkF_at {es : List Edg} {u v : Nat} (h : lnkT es u v = true) : ∃ (m : Nat) (x : Edg), lnkF es u v = m ∧ es[m]? = some x ∧ x.f = u ∧ x.t = v := by
  unfold lnkF
  rw [if_pos h]
  unfold findI
  unfold lnkT at h
  cases hf : es.findIdx? (isE u v) with
  | none =>
    rw [List.findIdx?_eq_none_iff] at hf
    obtain ⟨x, hx, hi⟩ := List.any_eq_true.1 h
    have := hf x hx
    rw [hi] at this
    cases this
  | some m =>
    obtain ⟨hm, hp, -⟩ := List.findIdx?_eq_some_iff_getElem.1 hf
    refine ⟨m, es[m], rfl, List.getElem?_eq_getElem hm, ?_⟩
    unfold isE at hp
    simpa using hp

def farOf (gf : Nat) (av : Value) (w : World) : Nat := match w.cell? ⟨gf, (intOf av).toNat, none⟩ with | some (.int .i64 d) => d.toNat | _ => 0
theorem farOf_at {w : World} {gf n a : Nat} {D : Nat → Int} (h : w.rowIs gf 3 n (fun p => .int .i64 (D p))) (ha : a < n) : farOf gf (.int .i64 (a : Int)) w = (D a).toNat := by
  unfold farOf
  have := h.cell ha
  simp only [intOf, Int.toNat_natCast]
  rw [this]

set_option maxHeartbeats 1000000 in
theorem shortest_any {w : World} {gl n c a goal : Nat} {N : Nat → Nat → Bool} {es : List Edg} {v : Value} (h : LinksAt w gl n (lnkT es) N (lnkF es)) (hn : n ≤ 128) (ha : a < n) (hg : goal < n) (he : Has elEdg w v es) (hin : ∀ x ∈ es, 0 ≤ x.f ∧ x.f < n ∧ 0 ≤ x.t ∧ x.t < n) (hr : Reach (Ed n (lnkT es)) a goal) :
    Calls Try.prog 30 #[.agg #[.int .i64 (n : Int), .slice (some ⟨gl, 0, none⟩) (n * n) c], v, .int .i64 (a : Int), .int .i64 (goal : Int)] w fun e w' => ∃ (wv : Value) (W : List Int), e = .returned wv ∧ Grow elInt 3 w.heap.size w' wv W ∧ (PathL es a W goal ∧ W.length ≤ n) ∧ Below w.heap.size w w' := by
  obtain ⟨i0, hi0, hz0, hz1, hz2⟩ := info_parts Try.infoInt8
  obtain ⟨va, vc, rfl, -, -, hlen⟩ := he.shape
  have HL := hide h
  have HE := hide he
  have HIn := hide hin
  have HRe := hide hr
  have hglt := h.lt
  have hb0 := belo1 w (.cells #[.int .i64 (n : Int), .slice (some ⟨gl, 0, none⟩) (n * n) c] 47)
  have HDi := hide (distances_any (c := c) (h.kept hb0) hn hg)
  have HGr : Hid ((w.alloc (.cells #[.int .i64 (n : Int), .slice (some ⟨gl, 0, none⟩) (n * n) c] 47)).heap[w.heap.size]? = some (.cells #[.int .i64 (n : Int), .slice (some ⟨gl, 0, none⟩) (n * n) c] 47 (0, 0))) := heap_alloc_new _ _
  have HB0 := hide hb0
  clear h he hin hr hb0
  go_enter Try.func30, Try.ntmps30
  go_wp2_with (go_at_call 37; refine HDi.out.mono ?_; rintro e w1 ⟨gf, D, rfl, h1, h2, h3⟩; have HR1 := hide h1; have HFa := hide h2; have HG1 : Hid (w1.heap[w.heap.size]? = some (.cells #[.int .i64 (n : Int), .slice (some ⟨gl, 0, none⟩) (n * n) c] 47 (0, 0))) := (by show _ = _; rw [h3.block _ (Array.getElem?_eq_some_iff.1 HGr.out).1]; exact HGr.out); have HB1 := hide (HB0.out.trans (h3.mono HB0.out.size)); clear h1 h2 h3 HDi HGr HB0)
  have HSt : Hid (PathL es a [] a ∧ 0 ≤ D a ∧ (([] : List Int).length : Int) + D a ≤ n) := ⟨.nil, HFa.out.reach HRe.out (by rw [HFa.out.zero]; exact Int.le_refl _), by have := HFa.out.lo a ha; simp; omega⟩
  go_loopw [10, 11] (fun wv av wl => ∃ (b : Nat) (W : List Int), b < n ∧ av = .int .i64 b ∧ Hid (Grow elInt 3 w1.heap.size wl wv W) ∧ Hid (PathL es a W b ∧ 0 ≤ D b ∧ (W.length : Int) + D b ≤ n) ∧ Hid (Below w1.heap.size w1 wl)) (fun _ av wl => farOf gf av wl)
  case atStart => exact ⟨a, [], ha, rfl, Grow.nil _ _ _ _, HSt, Below.refl _ _⟩
  case round =>
    clear HSt
    obtain ⟨b, W, hbn, rfl, HG, HP, HB⟩ := hrel
    have HBw := hide (HB1.out.trans (HB.out.mono HB1.out.size))
    have HRr := hide (HR1.out.of_block (HB.out.block _ HR1.out.lt))
    by_cases hbg : b = goal
    · subst hbg
      have HWl : Hid (PathL es a W b ∧ W.length ≤ n) := ⟨HP.out.1, by have := HP.out.2; omega⟩
      clear HP
      go_wp2
      go_ret
      exact ⟨_, W, rfl, HG.out.mono HB1.out.size, HWl.out, HBw.out⟩
    · have hbg2 : ¬ (b : Int) = (goal : Int) := by omega
      have HGx : Hid (wr.heap[w.heap.size]? = some (.cells #[.int .i64 (n : Int), .slice (some ⟨gl, 0, none⟩) (n * n) c] 47 (0, 0))) := by show _ = _; rw [HB.out.block _ (Array.getElem?_eq_some_iff.1 HG1.out).1]; exact HG1.out
      have x0 : wr.cell? ⟨w.heap.size, 0, none⟩ = some (.int .i64 (n : Int)) := by simp [World.cell?, HGx.out]
      have x1 : wr.cell? ⟨w.heap.size, 1, none⟩ = some (.slice (some ⟨gl, 0, none⟩) (n * n) c) := by simp [World.cell?, HGx.out]
      have HNe := hide (nearer_any (c := c) (HL.out.low HBw.out hglt) hn hbn HRr.out (fun p hp => by have := HFa.out.lo p hp; omega) (fun v _ ht => by obtain ⟨m, x, e, -⟩ := lnkF_at ht; omega))
      have HMu : Hid (farOf gf (.int .i64 (b : Int)) wr = (D b).toNat) := farOf_at HRr.out hbn
      obtain ⟨q, hq⟩ : ∃ q, W.length = q := ⟨_, rfl⟩
      have HLn := hide hq
      obtain ⟨oa, oc, hsh, -, -⟩ := HG.out.shape
      rw [hq] at hsh
      subst hsh
      have hq1 : q ≤ 1000000 := by have := HP.out.2; omega
      clear hq
      go_wp2_with (first
        | (go_at_call 38; refine HNe.out.mono ?_; rintro e w2 ⟨m, rfl, h1, h2⟩
           obtain ⟨v', hv', ht', h0', hd'⟩ := HFa.out.nx b hbn HP.out.2.1 hbg
           obtain ⟨t, ht, hnr, hm⟩ : ∃ t, t < n ∧ nrP (lnkT es) D b t ∧ m = lnkF es b t := by
             rcases h1 with ⟨-, hno⟩ | ⟨-, ⟨t, ht, h3, h4⟩, -⟩
             · exact absurd ⟨ht', hd'⟩ (hno v' hv')
             · exact ⟨t, ht, h3, h4⟩
           obtain ⟨mm, x, hmm, hx, hxf, hxt⟩ := lnkF_at hnr.1
           rw [hmm] at hm
           subst hm
           have hml : mm < es.length := (List.getElem?_eq_some_iff.1 hx).1
           have hmi : (mm : Int) < (es.length : Int) := by omega
           have hmi0 : (0 : Int) ≤ (mm : Int) := by omega
           obtain ⟨eb, off, heb, -, -, hrow⟩ := HE.out.row (by omega)
           subst heb
           have HC := hide (hrow mm x hx 1 _ rfl)
           have HPn : Hid (PathL es a (W ++ [(mm : Int)]) t ∧ 0 ≤ D t ∧ ((W ++ [(mm : Int)]).length : Int) + D t ≤ n) := ⟨HP.out.1.snoc hx hxf hxt, by rw [hnr.2, ← hd']; exact h0', by have := HP.out.2.2; have := hnr.2; simp; omega⟩
           have HDt : Hid ((D t).toNat < (D b).toNat) := by show _ < _; rw [hnr.2]; have : D b - 1 = D v' := hd'.symm; omega
           have HG2 := hide ((HG.out.kept h2).kept (belo1 w2 (.cells #[.int .i64 (mm : Int)] 3)))
           have hb2 := HB.out.trans (h2.mono HB.out.size)
           have HB2 := hide (hb2.alloc hb2.size (.cells #[.int .i64 (mm : Int)] 3))
           have HS := hide hb2.size
           have hxt' := hxt
           have HXt := hide hxt'
           have HBwx := hide HB1.out
           clear h1 h2 hd' h0' ht' hv' hnr hmm hx hxf hrow hb2 HG HB HP HNe x0 x1 hxt')
        | (at_builtin; refine wpList_push (w0 := w1) elInt rfl _ _ 36 rfl w1.heap.size 3 i0 _ 8 Try.underlying36 hi0 hz0 hz1 hz2 rfl (by decide) _ W q HLn.out rfl HG2.out (mm : Int) w2.heap.size 1 rfl (fun j u hu => new_cells j u hu) ⟨by omega, by omega⟩ (by omega) HB2.out (by simp; have := HS.out; omega) ?_))
      intro g' cap' w3 HG3 HB3 HGw
      have y1 := kept_cell (HBwx.out.trans (HB3.out.mono HBwx.out.size)) HC.out
      simp only [elEdg] at y1
      rw [hxt] at y1
      have HR3 := hide (HR1.out.of_block (HB3.out.block _ HR1.out.lt))
      clear HC HGw
      go_wp2
      refine ⟨⟨t, W ++ [(mm : Int)], ht, rfl, HG3, HPn, HB3⟩, ?_⟩
      rw [HMu.out, farOf_at HR3.out ht]
      exact HDt.out
end Go.Proofs.Ytmbkjgfnnpopgab

namespace Go.Proofs.Ytmbkjgfnnpopgab
set_option linter.unusedSimpArgs false
set_option linter.unusedVariables false
open Go.RowKit Go.Maps
set_option maxRecDepth 100000

theorem bad_uniq {n : Nat} {es : List Edg} {H H' : Nat → Int} (hin : ∀ x ∈ es, 0 ≤ x.f ∧ x.f < n ∧ 0 ≤ x.t ∧ x.t < n) (he : ∀ v, v < n → H v = H' v) : findI (badE H) es = findI (badE H') es := by
  have h : es.findIdx? (badE H) = es.findIdx? (badE H') := by
    induction es with
    | nil => rfl
    | cons x l ih =>
      obtain ⟨q1, q2, q3, q4⟩ := hin x (by simp)
      have hx : badE H x = badE H' x := by unfold badE; rw [he _ (by omega), he _ (by omega)]
      rw [List.findIdx?_cons, List.findIdx?_cons, hx, ih (fun y hy => hin y (by simp [hy]))]
  unfold findI
  rw [h]
theorem bad_at {es : List Edg} {H : Nat → Int} (h : 0 ≤ findI (badE H) es) : ∃ (m : Nat) (x : Edg), findI (badE H) es = m ∧ es[m]? = some x ∧ badE H x = true := by
  unfold findI at h ⊢
  cases hf : es.findIdx? (badE H) with
  | none => rw [hf] at h; simp at h
  | some m =>
    obtain ⟨hm, hp, -⟩ := List.findIdx?_eq_some_iff_getElem.1 hf
    exact ⟨m, es[m], rfl, List.getElem?_eq_getElem hm, hp⟩


theorem own_one {w : World} {base B : Nat} {e : TypeId} {v : Value} (h : w.heap[B]? = some (.cells #[v] e (0, 0))) (hb : base ≤ B) : w.ownsRow base e 1 (.slice (some ⟨B, 0, none⟩) 1 1) 1 [v] :=
  ⟨rfl, .inr ⟨B, 1, #[v], rfl, hb, h, Nat.le_refl _, by decide, rfl, rfl⟩⟩
theorem own_news {w : World} {base n : Nat} {e : TypeId} {v : Value} {xs : List Value} (h : w.ownsRow base e 1 v n xs) : ∃ ao cap, v = .slice ao n cap ∧ (ao = none → n = 0 ∧ cap = 0) ∧ ∀ ad, ao = some ad → ∀ (j : Nat) (u : Value), xs[j]? = some u → w.cell? (ad.add j) = some u := by
  rcases h.2 with ⟨h1, h2⟩ | ⟨g, cap, cur, h1, h2, h3, h4, h5, h6, h7⟩
  · exact ⟨none, 0, by rw [h1, h2], fun _ => ⟨h2, rfl⟩, fun ad e => by cases e⟩
  · refine ⟨_, cap, h1, (fun e => by cases e), fun ad e j u hu => ?_⟩
    cases e
    rw [addr_add, Nat.zero_add]
    rw [← h7, List.getElem?_take] at hu
    split at hu
    · simp only [World.cell?, h3]
      simpa using hu
    · cases hu
theorem grow_join {w w' : World} {base : Nat} {v : Value} {m : Nat} {W : List Int} (hm : I64 (m : Int)) (hW : ∀ x ∈ W, I64 x) (h : w'.ownsRow base 3 1 v (1 + W.length) ([.int .i64 (m : Int)] ++ W.flatMap elInt.cells)) : Grow elInt 3 base w' v ((m : Int) :: W) := by
  refine ⟨?_, fun x hx => ?_⟩
  · have : ((m : Int) :: W).length = 1 + W.length := by simp; omega
    rw [this]
    exact h
  · rcases List.mem_cons.1 hx with rfl | hx
    · exact hm
    · exact hW x hx

theorem ints_len (W : List Int) : (W.flatMap elInt.cells).length = W.length * 1 := by
  induction W with
  | nil => rfl
  | cons x l ih => rw [List.flatMap_cons, List.length_append, ih]; simp [elInt]; omega
theorem ints_one (W : List Int) : ∀ u ∈ W.flatMap elInt.cells, u.oneCell' = true := fun u hu => by
  obtain ⟨x, -, hx⟩ := List.mem_flatMap.1 hu
  simp only [elInt, List.mem_singleton] at hx
  subst hx
  rfl

set_option maxHeartbeats 1000000 in
theorem cycle_bad {w : World} {v : Value} {es : List Edg} {n : Nat} (h : Has elEdg w v es) (hfit : fitP n es = true) (hb : HasBad n es) :
    Calls Try.prog 20 #[.int .i64 (n : Int), v] w fun e w' => ∃ (H : Nat → Int) (wv : Value) (m : Nat) (x : Edg) (W : List Int), (∀ v, v < n → LeastOf (Ed n (lnkT es)) v (H v)) ∧ e = .returned (.tuple #[wv, .int .i64 0]) ∧ Grow elInt 3 w.heap.size w' wv ((m : Int) :: W) ∧ (findI (badE H) es = m ∧ es[m]? = some x ∧ badE H x = true ∧ PathL es x.t.toNat W x.f.toNat ∧ W.length ≤ n) ∧ Below w.heap.size w w' := by
  have hn : n ≤ 128 := by have := (fit_in8 hfit).1; omega
  obtain ⟨va, vc, rfl, -, -, hlen⟩ := h.shape
  have HIn := hide (fit_in8 hfit).2
  have HF := hide (fit_any h n)
  rw [hfit] at HF
  have HL := hide h
  have HFt := hide hfit
  have HBd := hide hb
  clear h hfit hb
  go_enter Try.func20, Try.ntmps20
  go_wp2_with (first
    | (go_at_call 13; refine HF.out.mono ?_; rintro e w1 ⟨rfl, h1⟩; have HB1 := hide h1; clear h1)
    | (go_at_call 14; refine (newGraph_any (HL.out.kept HB1.out) HFt.out).mono ?_; rintro e w2 ⟨gl, rfl, h1, h2, h3⟩; have hbx := belo1 w2 (.cells #[.int .i64 (n : Int), .slice (some ⟨gl, 0, none⟩) (n * n) (n * n)] 47); have HG2 := hide (h2.kept hbx); have hB2 := HB1.out.trans (h3.mono HB1.out.size); have HB2 := hide (hB2.trans (hbx.mono hB2.size)); have HL2 := hide (((HL.out.kept HB1.out).kept h3).kept hbx); have HX0 : Hid ((w2.alloc (.cells #[.int .i64 (n : Int), .slice (some ⟨gl, 0, none⟩) (n * n) (n * n)] 47)).cell? ⟨w2.heap.size, 0, none⟩ = some (.int .i64 (n : Int)) ∧ (w2.alloc (.cells #[.int .i64 (n : Int), .slice (some ⟨gl, 0, none⟩) (n * n) (n * n)] 47)).cell? ⟨w2.heap.size, 1, none⟩ = some (.slice (some ⟨gl, 0, none⟩) (n * n) (n * n))) := (by show _ ∧ _; constructor <;> simp); clear h1 h2 h3 hbx hB2)
    | (go_at_call 15; refine (bad_any HG2.out hn HL2.out HIn.out).mono ?_; rintro e w3 ⟨H, h1, rfl, h5⟩; have x0 := kept_cell h5 HX0.out.1; have x1 := kept_cell h5 HX0.out.2; have HG3 := hide (HG2.out.kept h5); have HB3 := hide (HB2.out.trans (h5.mono HB2.out.size)); have HLe := hide h1; obtain ⟨m, x, hm, hx, hbx⟩ := bad_at ((bad_iff HIn.out h1).2 HBd.out); have HL3 := hide (HL2.out.kept h5); have HM := hide (And.intro hm (And.intro hx hbx)); have hm0 : (0 : Int) ≤ (m : Int) := (by omega); have hm1 : ¬ (m : Int) < 0 := (by omega); rw [hm]; clear h1 h5 hm hx hbx HG2 HB2 HL2 HX0))
  obtain ⟨hx0, hx1, hx2, hx3⟩ := HIn.out x (List.mem_of_getElem? HM.out.2.1)
  have hml : m < es.length := (List.getElem?_eq_some_iff.1 HM.out.2.1).1
  have hmi : (m : Int) < (es.length : Int) := by omega
  obtain ⟨kf, hkf⟩ : ∃ kf : Nat, x.f = kf := ⟨x.f.toNat, by omega⟩
  obtain ⟨kt, hkt⟩ : ∃ kt : Nat, x.t = kt := ⟨x.t.toNat, by omega⟩
  obtain ⟨eb, off, rfl, -, -, hrow⟩ := HL3.out.row (by omega)
  have y0 := hrow m x HM.out.2.1 0 _ rfl
  have y1 := hrow m x HM.out.2.1 1 _ rfl
  simp only [elEdg, Nat.add_zero] at y0 y1
  rw [hkf] at y0
  rw [hkt] at y1
  have hmut : Mut (Ed n (lnkT es)) kf kt := by
    have hb := HM.out.2.2
    unfold badE at hb
    simp only [Bool.and_eq_true, beq_iff_eq] at hb
    have h1 := hb.2
    rw [hkf, hkt, Int.toNat_natCast, Int.toNat_natCast] at h1
    exact (least_eq (HLe.out kf (by omega)) (HLe.out kt (by omega))).1 h1
  have HSh : Hid (∀ V : World, Below w3.heap.size w3 V → Calls Try.prog 30 #[.agg #[.int .i64 (n : Int), .slice (some ⟨gl, 0, none⟩) (n * n) (n * n)], .slice (some ⟨eb, off, none⟩) es.length vc, .int .i64 (kt : Int), .int .i64 (kf : Int)] V fun e w' => ∃ (wv : Value) (W : List Int), e = .returned wv ∧ Grow elInt 3 V.heap.size w' wv W ∧ (PathL es kt W kf ∧ W.length ≤ n) ∧ Below V.heap.size V w') := fun V hV => shortest_any (HG3.out.kept hV) hn (by omega) (by omega) (HL3.out.kept hV) HIn.out hmut.2
  have HPp := hide (And.intro hkf hkt)
  clear hrow hmut hx0 hx1 hx2 hx3
  obtain ⟨i0, hi0, hz0, hz1, hz2⟩ := info_parts Try.infoInt8
  have hbA : Below w3.heap.size w3 w3.drew := (Below.refl _ w3).drew
  have hbB : Below w3.heap.size w3 (w3.drew.alloc (.cells #[.int .i64 (m : Int)] 3)) := ((Below.refl _ w3).drew).alloc (Nat.le_refl _) _
  go_cut [4, 5] (fun t4 t5 wx => ∃ W : List Int, t5 = .int .i64 0 ∧ Hid (Grow elInt 3 w.heap.size wx t4 ((m : Int) :: W)) ∧ Hid (PathL es kt W kf ∧ W.length ≤ n) ∧ Hid (Below w.heap.size w wx))
  case first =>
    go_region_held3 (fun w' => w'.cell? ⟨w2.heap.size, 0, none⟩ = some (.int .i64 (n : Int)) ∧ w'.cell? ⟨w2.heap.size, 1, none⟩ = some (.slice (some ⟨gl, 0, none⟩) (n * n) (n * n)) ∧ w'.cell? ⟨eb, off + m * 4, none⟩ = some (.int .i64 (kf : Int)) ∧ w'.cell? ⟨eb, off + m * 4 + 1, none⟩ = some (.int .i64 (kt : Int)))
      (first | exact ⟨x0, x1, y0, y1⟩ | exact ⟨kept_cell hbB x0, kept_cell hbB x1, kept_cell hbB y0, kept_cell hbB y1⟩ | exact HSk.out | exact HSk2.out | exact HSk4.out)
      (first
        | (go_at_call 30; refine (HSh.out _ (by first | exact hbA | exact hbB)).mono ?_; rintro e V2 ⟨wv, W, rfl, g1, p1, b1⟩
           have HPa := hide p1
           have HWo : Hid (∀ x ∈ W, I64 x) := g1.2
           obtain ⟨ao, cap, rfl, hno, hnw⟩ := own_news g1.1
           have HNo := hide hno
           first
             | (have hk := b1.block w3.heap.size (by show w3.heap.size < (w3.drew.alloc (.cells #[.int .i64 (m : Int)] 3)).heap.size; show _ < (w3.heap.push _).size; rw [Array.size_push]; exact Nat.lt_succ_self _)
                have HOw : Hid (V2.ownsRow w3.heap.size 3 1 (.slice (some ⟨w3.heap.size, 0, none⟩) 1 1) 1 [.int .i64 (m : Int)]) := own_one (hk.trans (heap_alloc_new w3.drew (.cells #[.int .i64 (m : Int)] 3))) (Nat.le_refl _)
                have HNw := hide hnw
                have hbz : Below w3.heap.size w3 V2 := hbB.trans (b1.mono hbB.size)
                have HBz := hide hbz
                have HSk := hide (And.intro (kept_cell hbz x0) (And.intro (kept_cell hbz x1) (And.intro (kept_cell hbz y0) (kept_cell hbz y1))))
                clear hk hbz)
             | (have hb2 : Below w3.heap.size w3 V2 := hbA.trans (b1.mono hbA.size)
                have hbz := hb2.alloc hb2.size (.cells #[.int .i64 (m : Int)] 3)
                have HOw : Hid ((V2.alloc (.cells #[.int .i64 (m : Int)] 3)).ownsRow w3.heap.size 3 1 (.slice (some ⟨V2.heap.size, 0, none⟩) 1 1) 1 [.int .i64 (m : Int)]) := own_one (heap_alloc_new V2 (.cells #[.int .i64 (m : Int)] 3)) hb2.size
                have HNw := hide (fun ad e j u hu => kept_cell (belo1 V2 (.cells #[.int .i64 (m : Int)] 3)) (hnw ad e j u hu))
                have HBz := hide hbz
                have HSk := hide (And.intro (kept_cell hb2 x0) (And.intro (kept_cell hb2 x1) (And.intro (kept_cell hb2 y0) (kept_cell hb2 y1))))
                have HSk2 := hide (And.intro (kept_cell hbz x0) (And.intro (kept_cell hbz x1) (And.intro (kept_cell hbz y0) (kept_cell hbz y1))))
                clear hbz hb2)
           clear g1 p1 b1 hno hnw)
        | (refine step_append_any (by rfl) _ _ 36 (by rfl) w3.heap.size 3 i0 _ 1 8 Try.underlying36 hi0 hz0 hz1 hz2 rfl (by decide) _ 1 [.int .i64 (m : Int)] (by rfl) HOw.out ao W.length cap (W.flatMap elInt.cells) (by rfl) HNo.out (ints_len W) HNw.out (ints_one W) (by have := HPa.out.2; unfold maxLen; omega) (by have := HPa.out.2; omega) HBz.out.size ?_
           intro v4 w4 hown4 hgrow4
           have hbe := below_grown HBz.out HOw.out hgrow4 HBz.out.size
           have HGr := hide ((grow_join (w := w) ⟨by omega, by omega⟩ HWo.out hown4).mono HB3.out.size)
           have HBe := hide (HB3.out.trans (hbe.mono HB3.out.size))
           have HSk4 := hide (And.intro (kept_cell hbe x0) (And.intro (kept_cell hbe x1) (And.intro (kept_cell hbe y0) (kept_cell hbe y1))))
           clear hown4 hgrow4 hbe))
    all_goals (go_wp2; go_meet)
    all_goals exact ⟨W, rfl, HGr, HPa, HBe⟩
  case rest =>
    obtain ⟨W, rfl, HGr, HPa, HBe⟩ := hcut
    go_wp2
    exact bodyPost_ret (v := .tuple #[u4, .int .i64 0]) (by simp [results, Try.results20, go_sem]) rfl ⟨H, u4, m, x, W, HLe.out, rfl, HGr.out, ⟨HM.out.1, HM.out.2.1, HM.out.2.2, by rw [HPp.out.1, HPp.out.2]; simpa using HPa.out.1, HPa.out.2⟩, HBe.out⟩

set_option maxHeartbeats 1000000 in
theorem cycle_good {w : World} {v : Value} {es : List Edg} {n : Nat} (h : Has elEdg w v es) (hfit : fitP n es = true) (hb : ¬ HasBad n es) :
    Calls Try.prog 20 #[.int .i64 (n : Int), v] w fun e w' => e = .returned (.tuple #[.slice none 0 0, .int .i64 0]) ∧ Below w.heap.size w w' := by
  have hn : n ≤ 128 := by have := (fit_in8 hfit).1; omega
  obtain ⟨va, vc, rfl, -, -, hlen⟩ := h.shape
  have HIn := hide (fit_in8 hfit).2
  have HF := hide (fit_any h n)
  rw [hfit] at HF
  have HL := hide h
  have HFt := hide hfit
  have HBd := hide hb
  clear h hfit hb
  go_enter Try.func20, Try.ntmps20
  go_wp2_with (first
    | (go_at_call 13; refine HF.out.mono ?_; rintro e w1 ⟨rfl, h1⟩; have HB1 := hide h1; clear h1)
    | (go_at_call 14; refine (newGraph_any (HL.out.kept HB1.out) HFt.out).mono ?_; rintro e w2 ⟨gl, rfl, h1, h2, h3⟩; have hbx := belo1 w2 (.cells #[.int .i64 (n : Int), .slice (some ⟨gl, 0, none⟩) (n * n) (n * n)] 47); have HG2 := hide (h2.kept hbx); have hB2 := HB1.out.trans (h3.mono HB1.out.size); have HB2 := hide (hB2.trans (hbx.mono hB2.size)); have HL2 := hide (((HL.out.kept HB1.out).kept h3).kept hbx); clear h1 h2 h3 hbx hB2)
    | (go_at_call 15; refine (bad_any HG2.out hn HL2.out HIn.out).mono ?_; rintro e w3 ⟨H, h1, rfl, h5⟩; have HB3 := hide (HB2.out.trans (h5.mono HB2.out.size)); have hge : ¬ 0 ≤ findI (badE H) es := (fun hc => HBd.out ((bad_iff HIn.out h1).1 hc)); obtain ⟨bd, hbd⟩ : ∃ bd, findI (badE H) es = bd := ⟨_, rfl⟩; rw [hbd] at hge ⊢; have hge2 : bd < 0 := (by omega); clear h1 h5 hbd))
  exact bodyPost_ret (v := .tuple #[.slice none 0 0, .int .i64 0]) (by simp [results, Try.results20, go_sem]) rfl ⟨rfl, HB3.out⟩
end Go.Proofs.Ytmbkjgfnnpopgab

namespace Go.Proofs.Ytmbkjgfnnpopgab
set_option linter.unusedSimpArgs false
set_option linter.unusedVariables false
open Go.RowKit

def lv (ls : List Int) (x : Int) : Int := (ls[x.toNat]?).getD 0
def eBad (ls : List Int) (e : Edg) : Bool := decide (lv ls e.t < lv ls e.f) || (e.neg && (lv ls e.t == lv ls e.f))
def neg0 (x : Int) : Bool := decide (x < 0)
def holdsP (n : Int) (es : List Edg) (ls : List Int) : Bool := fitP n es && ((ls.length : Int) == n && (!ls.any neg0 && !es.any (eBad ls)))

theorem fit_in {n : Int} {es : List Edg} (h : fitP n es = true) : (0 ≤ n ∧ n ≤ 128) ∧ ∀ x ∈ es, 0 ≤ x.f ∧ x.f < n ∧ 0 ≤ x.t ∧ x.t < n := by
  unfold fitP at h
  simp only [Bool.and_eq_true, decide_eq_true_eq, Bool.not_eq_true', List.any_eq_false] at h
  refine ⟨⟨h.1, h.2.1⟩, fun x hx => eOut_false ?_⟩
  have := h.2.2 x hx
  simpa using this

end Go.Proofs.Ytmbkjgfnnpopgab

namespace Go.Proofs.Ytmbkjgfnnpopgab
set_option linter.unusedSimpArgs false
set_option linter.unusedVariables false
open Go.RowKit
set_option maxRecDepth 100000

end Go.Proofs.Ytmbkjgfnnpopgab

namespace Go.Proofs.Ytmbkjgfnnpopgab
set_option linter.unusedSimpArgs false
set_option linter.unusedVariables false
open Go.RowKit

def ed (es : List Edg) (x : Int) : Edg := (es[x.toNat]?).getD ⟨0, 0, false, 0⟩
def wk (l : List Int) (i : Nat) : Int := (l[i]?).getD 0
def outN (m : Nat) (x : Int) : Bool := !inB x m
def negW (es : List Edg) (x : Int) : Bool := (ed es x).neg
def prv (m i : Nat) : Nat := if i = 0 then m - 1 else i - 1
def nxt (m i : Nat) : Nat := if i + 1 = m then 0 else i + 1
def prevOk (es : List Edg) (l : List Int) (i : Nat) : Bool := (ed es (wk l i)).f == (ed es (wk l (prv l.length i))).t
def nextOk (es : List Edg) (l : List Int) (i : Nat) : Bool := (ed es (wk l i)).t == (ed es (wk l (nxt l.length i))).f
def cycB (es : List Edg) (l : List Int) : Bool := (List.range l.length).all (prevOk es l)
def cyclicP (n : Int) (es : List Edg) (l : List Int) : Bool := fitP n es && (!(l.length == 0) && (!l.any (outN es.length) && (cycB es l && l.any (negW es))))

theorem cyc_next (es : List Edg) (l : List Int) : cycB es l = (List.range l.length).all (nextOk es l) := by
  unfold cycB
  rw [Bool.eq_iff_iff, List.all_eq_true, List.all_eq_true]
  simp only [List.mem_range]
  constructor
  · intro h i hi
    have hj : nxt l.length i < l.length := by unfold nxt; split <;> omega
    have := h _ hj
    unfold prevOk at this
    unfold nextOk
    have e : prv l.length (nxt l.length i) = i := by unfold prv nxt; split <;> (split <;> omega)
    rw [e] at this
    rw [beq_iff_eq] at this ⊢
    exact this.symm
  · intro h i hi
    have hj : prv l.length i < l.length := by unfold prv; split <;> omega
    have := h _ hj
    unfold nextOk at this
    unfold prevOk
    have e : nxt l.length (prv l.length i) = i := by unfold prv nxt; split <;> (split <;> omega)
    rw [e] at this
    rw [beq_iff_eq] at this ⊢
    exact this.symm

theorem cyc_no {es : List Edg} {l : List Int} {i : Nat} (hi : i < l.length) (h : prevOk es l i = false) : cycB es l = false := by
  unfold cycB
  rw [List.all_eq_false]
  exact ⟨i, List.mem_range.2 hi, by simp [h]⟩
theorem cyc_no' {es : List Edg} {l : List Int} {i : Nat} (hi : i < l.length) (h : nextOk es l i = false) : cycB es l = false := by
  rw [cyc_next, List.all_eq_false]
  exact ⟨i, List.mem_range.2 hi, by simp [h]⟩
theorem cyc_yes {es : List Edg} {l : List Int} (h : ∀ i, i < l.length → prevOk es l i = true) : cycB es l = true := by
  unfold cycB
  rw [List.all_eq_true]
  exact fun i hi => h i (List.mem_range.1 hi)
theorem cyc_yes' {es : List Edg} {l : List Int} (h : ∀ i, i < l.length → nextOk es l i = true) : cycB es l = true := by
  rw [cyc_next, List.all_eq_true]
  exact fun i hi => h i (List.mem_range.1 hi)
theorem outN_false {m : Nat} {x : Int} (h : outN m x = false) : ∃ k : Nat, x = k ∧ k < m := by
  unfold outN inB at h
  simp at h
  exact ⟨x.toNat, by omega, by omega⟩
theorem outN_true {m : Nat} {x : Int} (h : outN m x = true) : x < 0 ∨ (0 ≤ x ∧ (m : Int) ≤ x) := by
  unfold outN inB at h
  simp at h
  omega

set_option maxHeartbeats 1000000 in
theorem noEdge_any {w : World} {be : Nat} {ea : Option Addr} {m c : Nat} (hn : w.cell? ⟨be, 0, none⟩ = some (.slice ea m c)) (x : Int) :
    Calls Try.prog 17 #[.int .i64 x, .pointer (some ⟨be, 0, none⟩)] w fun e w' => e = .returned (.bool (outN m x)) ∧ Below w.heap.size w w' := by
  have w1 := fun V : World => within_any x m V
  unfold outN
  obtain ⟨p, hp⟩ : ∃ p, inB x m = p := ⟨_, rfl⟩
  rw [hp] at w1 ⊢
  clear hp
  go_enter Try.func17, Try.ntmps17
  go_wp2_with (go_at_call 18; refine (w1 _).mono ?_; clear w1; rintro e v2 ⟨rfl, hw⟩; have hw := hw.symm; subst hw)
  go_ret
  exact ⟨rfl, Below.refl _ _⟩

set_option maxHeartbeats 1000000 in
theorem idx_noEdge {w : World} {v : Value} {es : List Int} {be : Nat} {m : Nat} (h : Has elInt w v es)
    (hf : ∀ V : World, Below w.heap.size w V → ∀ x ∈ es, Calls Try.prog 17 #[.int .i64 x, .pointer (some ⟨be, 0, none⟩)] V fun e w' => e = .returned (.bool (outN m x)) ∧ Below V.heap.size V w') :
    Calls Try.prog 29 #[v, .func (.func 17) #[] #[.pointer (some ⟨be, 0, none⟩)]] w fun e w' => e = .returned (.int .i64 (findI (outN m) es)) ∧ Below w.heap.size w w' := by
  obtain ⟨va, vc, rfl, -, -, hlen⟩ := h.shape
  have HL := hide h
  have HF := hide hf
  clear h hf
  go_enter Try.func29, Try.ntmps29
  go_wp2
  go_loopw [5, 8] (fun _ i wl => ∃ k : Nat, k ≤ es.length ∧ i = .int .i64 k ∧ Hid (∀ x ∈ es.take k, outN m x = false) ∧ Hid (Below w.heap.size w wl)) (fun _ i _ => es.length - (intOf i).toNat)
  case atStart => exact ⟨0, by omega, rfl, by show ∀ x ∈ es.take 0, outN m x = false; simp, Below.refl _ _⟩
  case round =>
    obtain ⟨k, hk, rfl, HK, HB⟩ := hrel
    by_cases hlt : k < es.length
    · have hi : (k : Int) < (es.length : Int) := by omega
      have hi0 : (0 : Int) ≤ (k : Int) := by omega
      obtain ⟨b, off, rfl, -, -, hrow⟩ := HL.out.row (by omega)
      obtain ⟨x, hx⟩ : ∃ x, es[k]? = some x := ⟨_, List.getElem?_eq_getElem hlt⟩
      have y0 := kept_cell HB.out (hrow k x hx 0 _ rfl)
      simp only [elInt, Nat.add_zero, Nat.mul_one] at y0
      have HX := hide hx
      have HC := hide (HF.out wr HB.out x (List.mem_of_getElem? hx))
      clear hrow hx
      cases he : outN m x with
      | true =>
        rw [he] at HC
        have HR := hide (findI_at HX.out HK.out he)
        go_wp2_with (go_at_call 17; refine HC.out.mono ?_; rintro e w2 ⟨rfl, h2⟩; have HB2 := hide (HB.out.trans (h2.mono HB.out.size)); clear h2)
        go_ret
        exact ⟨by rw [HR.out]; rfl, HB2.out⟩
      | false =>
        rw [he] at HC
        have HF2 := hide (all_snoc HX.out HK.out he)
        go_wp2_with (go_at_call 17; refine HC.out.mono ?_; rintro e w2 ⟨rfl, h2⟩; have HB2 := hide (HB.out.trans (h2.mono HB.out.size)); clear h2)
        go_roundw
        case rel => exact ⟨k + 1, by omega, by go_num, HF2, HB2⟩
        case measure => simp [intOf]; omega
    · obtain rfl : k = es.length := by omega
      have hi : ¬ (es.length : Int) < (es.length : Int) := by omega
      have HR := hide (findI_no HK.out)
      go_wp2
      go_ret
      exact ⟨by rw [HR.out]; rfl, HB.out⟩

theorem contains_noEdge {w : World} {v : Value} {es : List Int} {be : Nat} {m : Nat} (h : Has elInt w v es)
    (hf : ∀ V : World, Below w.heap.size w V → ∀ x ∈ es, Calls Try.prog 17 #[.int .i64 x, .pointer (some ⟨be, 0, none⟩)] V fun e w' => e = .returned (.bool (outN m x)) ∧ Below V.heap.size V w') :
    Calls Try.prog 19 #[v, .func (.func 17) #[] #[.pointer (some ⟨be, 0, none⟩)]] w fun e w' => e = .returned (.bool (es.any (outN m))) ∧ Below w.heap.size w w' := by
  have HI := hide (idx_noEdge h hf)
  clear h hf
  have HR := hide (findI_any (outN m) es)
  obtain ⟨r, hr⟩ : ∃ r, findI (outN m) es = r := ⟨_, rfl⟩
  rw [hr] at HI HR
  clear hr
  go_enter Try.func19, Try.ntmps19
  by_cases h0 : 0 ≤ r
  · go_wp2_with (go_at_call 29; refine HI.out.mono ?_; rintro e w2 ⟨rfl, h2⟩; have HB2 := hide h2; clear h2)
    go_ret
    exact ⟨by rw [← HR.out]; simp [h0], HB2.out⟩
  · go_wp2_with (go_at_call 29; refine HI.out.mono ?_; rintro e w2 ⟨rfl, h2⟩; have HB2 := hide h2; clear h2)
    go_ret
    exact ⟨by rw [← HR.out]; simp [h0], HB2.out⟩
end Go.Proofs.Ytmbkjgfnnpopgab

namespace Go.Proofs.Ytmbkjgfnnpopgab
set_option linter.unusedSimpArgs false
set_option linter.unusedVariables false
open Go.RowKit

theorem ed_at {es : List Edg} {k : Nat} {x : Edg} (h : es[k]? = some x) : ed es (k : Int) = x := by unfold ed; simp [h]
theorem wk_at {l : List Int} {k : Nat} {x : Int} (h : l[k]? = some x) : wk l k = x := by unfold wk; simp [h]

end Go.Proofs.Ytmbkjgfnnpopgab

namespace Go.Proofs.Ytmbkjgfnnpopgab
set_option linter.unusedSimpArgs false
set_option linter.unusedVariables false
open Go.RowKit
set_option maxRecDepth 100000

set_option maxHeartbeats 1000000 in
theorem cyclic_any {w : World} {v u : Value} {es : List Edg} {ls : List Int} (h : Has elEdg w v es) (hu : Has elInt w u ls) (n : Int) :
    Calls Try.prog 10 #[.int .i64 n, v, u] w fun e w' => e = .returned (.bool (cyclicP n es ls)) ∧ Below w.heap.size w w' := by
  obtain ⟨va, vc, rfl, -, -, hlen⟩ := h.shape
  obtain ⟨ua, uc, rfl, -, -, hlen2⟩ := hu.shape
  have hb := belo1 w (.cells #[.slice va es.length vc] 32)
  have hbox : (w.alloc (.cells #[.slice va es.length vc] 32)).cell? ⟨w.heap.size, 0, none⟩ = some (.slice va es.length vc) := by simp
  have HBY := hide hb
  have HBox := hide hbox
  have HF := hide (fit_any (h.kept hb) n)
  have HL := hide (h.kept hb)
  have HU := hide (hu.kept hb)
  clear h hu hb hbox
  unfold cyclicP
  cases hfit : fitP n es with
  | false =>
    rw [hfit] at HF
    go_enter Try.func10, Try.ntmps10
    go_wp2_with (go_at_call 13; refine HF.out.mono ?_; rintro e w2 ⟨rfl, h2⟩; have HB2 := hide (HBY.out.trans (h2.mono HBY.out.size)); clear h2)
    go_ret
    exact ⟨rfl, HB2.out⟩
  | true =>
    rw [hfit] at HF
    clear hfit
    go_enter Try.func10, Try.ntmps10
    by_cases hq : ls.length = 0
    · have hq' : ((ls.length : Int) == 0) = true := by simpa using hq
      have hq2 : (ls.length == 0) = true := by simpa using hq
      rw [hq2]
      clear hq
      go_wp2_with (go_at_call 13; refine HF.out.mono ?_; rintro e w2 ⟨rfl, h2⟩; have HB2 := hide (HBY.out.trans (h2.mono HBY.out.size)); clear h2)
      go_ret
      exact ⟨rfl, HB2.out⟩
    · have hq' : ((ls.length : Int) == 0) = false := by rw [beq_eq_false_iff_ne]; omega
      have hq2 : (ls.length == 0) = false := by simpa using hq
      rw [hq2]
      have hpos : 0 < ls.length := by omega
      clear hq hq2
      obtain ⟨a, ha⟩ : ∃ a, ls.any (outN es.length) = a := ⟨_, rfl⟩
      obtain ⟨c, hc⟩ : ∃ c, cycB es ls = c := ⟨_, rfl⟩
      obtain ⟨d, hd⟩ : ∃ d, ls.any (negW es) = d := ⟨_, rfl⟩
      rw [ha, hc, hd]
      have HA := hide ha
      have HC := hide hc
      have HD := hide hd
      clear ha hc hd
      have HCt : Hid (∀ V : World, Below (w.alloc (.cells #[.slice va es.length vc] 32)).heap.size (w.alloc (.cells #[.slice va es.length vc] 32)) V → Calls Try.prog 19 #[.slice ua ls.length uc, .func (.func 17) #[] #[.pointer (some ⟨w.heap.size, 0, none⟩)]] V fun e w' => e = .returned (.bool a) ∧ Below V.heap.size V w') := fun V hV => by
        rw [← HA.out]
        exact contains_noEdge (HU.out.kept hV) (fun V2 h2 x _ => noEdge_any (kept_cell h2 (kept_cell hV HBox.out)) x)
      cases a with
      | true =>
        go_wp2_with (first
          | (go_at_call 13; refine HF.out.mono ?_; rintro e w2 ⟨rfl, h2⟩; have HV2 := hide h2; clear h2)
          | (go_at_call 19; refine (HCt.out _ HV2.out).mono ?_; rintro e w3 ⟨rfl, h3⟩; have HB3 := hide (HBY.out.trans ((HV2.out.trans (h3.mono HV2.out.size)).mono HBY.out.size)); clear h3))
        go_ret
        exact ⟨rfl, HB3.out⟩
      | false =>
        go_wp2_with (first
          | (go_at_call 13; refine HF.out.mono ?_; rintro e w2 ⟨rfl, h2⟩; have HV2 := hide h2; clear h2)
          | (go_at_call 19; refine (HCt.out _ HV2.out).mono ?_; rintro e w3 ⟨rfl, h3⟩; have HV3 := hide (HV2.out.trans (h3.mono HV2.out.size)); clear h3))
        have HIn : Hid (∀ x ∈ ls, ∃ k : Nat, x = k ∧ k < es.length) := by
          have h1 := HA.out
          rw [List.any_eq_false] at h1
          exact fun x hx => outN_false (by simpa using h1 x hx)
        have HL3 := hide (HL.out.kept HV3.out)
        have HU3 := hide (HU.out.kept HV3.out)
        have hbx := over_cell (kept_cell HV3.out HBox.out)
        have HB3 := hide (HBY.out.trans (HV3.out.mono HBY.out.size))
        have HBox3 := hide (kept_cell HV3.out HBox.out)
        clear HV3 HV2 HF HCt HA HL HU HBox HBY
        obtain ⟨ub, uo, rfl, -, -, urow⟩ := HU3.out.row hpos
        obtain ⟨x, hx⟩ : ∃ x, ls[ls.length - 1]? = some x := ⟨_, List.getElem?_eq_getElem (by omega)⟩
        obtain ⟨mx, rfl, hmx⟩ := HIn.out x (List.mem_of_getElem? hx)
        obtain ⟨eb, eo, rfl, -, -, erow⟩ := HL3.out.row (by omega)
        obtain ⟨ex, hex⟩ : ∃ x, es[mx]? = some x := ⟨_, List.getElem?_eq_getElem hmx⟩
        have u0 := over_cell (urow (ls.length - 1) _ hx 0 _ rfl)
        have v0 := over_cell (erow mx _ hex 1 _ rfl)
        simp only [elInt, elEdg, Nat.add_zero, Nat.mul_one] at u0 v0
        have hmx' : (mx : Int) < (es.length : Int) := by omega
        have hmx0 : (0 : Int) ≤ (mx : Int) := by omega
        have hl1 : ((ls.length : Int) - 1) < (ls.length : Int) := by omega
        have hl0 : (0 : Int) ≤ (ls.length : Int) - 1 := by omega
        have HAt : Hid (ex.t = (ed es (wk ls (prv ls.length 0))).t) := by
          show _ = _
          rw [show prv ls.length 0 = ls.length - 1 from rfl, wk_at hx, ed_at hex]
        clear hx hex urow erow
        refine wp_region_over (fun W => W = w3) (by kernel_rfl) (by kernel_rfl) rfl ?_
        rintro W rfl
        repeat (go_big_quiet_step (first | fail))
        refine wpQuiet_nil ?_
        rintro _ ⟨z, rfl⟩
        have HBz := hide (HB3.out.trans ((over_below W z).mono HB3.out.size))
        have HLz := hide (HL3.out.kept (over_below W z))
        have HUz := hide (HU3.out.kept (over_below W z))
        have HBoxz := hide (hbx z)
        clear hbx u0 v0 HB3 HL3 HU3 HBox3
        go_wp2
        go_loopw [8, 9, 11, 39] (fun g t _ i wl => ∃ (k : Nat) (b : Bool) (y : Int), k ≤ ls.length ∧ i = .int .i64 k ∧ g = .bool b ∧ t = .int .i64 y ∧ Hid (b = (ls.take k).any (negW es)) ∧ Hid (y = (ed es (wk ls (prv ls.length k))).t) ∧ Hid (∀ i, i < k → prevOk es ls i = true) ∧ wl = over W z) (fun _ _ _ i _ => ls.length - (intOf i).toNat)
        case atStart => exact ⟨0, false, ex.t, by omega, rfl, rfl, rfl, by show _ = _; simp, HAt, (by show ∀ i, i < 0 → _; intro i h; omega), rfl⟩
        case round =>
          obtain ⟨k, bb, y, hk, rfl, rfl, rfl, HN, HY, HK, hwr⟩ := hrel
          have c0 := HBoxz.out
          have HLr := HLz
          have HUr := HUz
          rw [← hwr] at c0 HLr HUr
          by_cases hlt : k < ls.length
          · have hi : (k : Int) < (ls.length : Int) := by omega
            have hi0 : (0 : Int) ≤ (k : Int) := by omega
            obtain ⟨ub', uo', e1, -, -, urow⟩ := HUr.out.row (by omega)
            obtain ⟨x, hx⟩ : ∃ x, ls[k]? = some x := ⟨_, List.getElem?_eq_getElem hlt⟩
            obtain ⟨kx, rfl, hkx⟩ := HIn.out x (List.mem_of_getElem? hx)
            obtain ⟨eb', eo', e2, -, -, erow⟩ := HLr.out.row (by omega)
            obtain ⟨ek, hek⟩ : ∃ x, es[kx]? = some x := ⟨_, List.getElem?_eq_getElem hkx⟩
            cases e1
            cases e2
            have u0 := urow k _ hx 0 _ rfl
            have v0 := erow kx _ hek 0 _ rfl
            have v1 := erow kx _ hek 1 _ rfl
            have v2 := erow kx _ hek 2 _ rfl
            simp only [elInt, elEdg, Nat.add_zero, Nat.mul_one] at u0 v0 v1 v2
            have hkx' : (kx : Int) < (es.length : Int) := by omega
            have hkx0 : (0 : Int) ≤ (kx : Int) := by omega
            have HQ : Hid (prevOk es ls k = (ek.f == y)) := by
              show _ = _
              unfold prevOk
              rw [HY.out, wk_at hx, ed_at hek]
            have HN2 : Hid ((ls.take (k + 1)).any (negW es) = (bb || ek.neg)) := by
              show _ = _
              rw [take_snoc8 hx, List.any_append, ← HN.out]
              unfold negW
              simp [ed_at hek]
            have HY2 : Hid (ek.t = (ed es (wk ls (prv ls.length (k + 1)))).t) := by
              show _ = _
              rw [show prv ls.length (k + 1) = k by unfold prv; simp, wk_at hx, ed_at hek]
            have HW := hide hwr
            clear hx hek urow erow hkx hwr
            cases he : (ek.f == y) with
            | true =>
              rw [he] at HQ
              have hne : (ek.f != y) = false := by unfold bne; rw [he]; rfl
              have HK2 : Hid (∀ i, i < k + 1 → prevOk es ls i = true) := by
                show ∀ i, i < k + 1 → prevOk es ls i = true
                intro i hi
                rcases Nat.lt_succ_iff_lt_or_eq.1 hi with h | h
                · exact HK.out i h
                · rw [h]; exact HQ.out
              clear he
              cases bb
              · go_wp2
                go_roundw
                case rel => exact ⟨k + 1, ek.neg, ek.t, by omega, by go_num, rfl, rfl, by show _ = _; rw [HN2.out]; rfl, HY2, HK2, HW.out⟩
                case measure => simp [intOf]; omega
              · go_wp2
                go_roundw
                case rel => exact ⟨k + 1, true, ek.t, by omega, by go_num, rfl, rfl, by show _ = _; rw [HN2.out]; rfl, HY2, HK2, HW.out⟩
                case measure => simp [intOf]; omega
            | false =>
              rw [he] at HQ
              have hne : (ek.f != y) = true := by unfold bne; rw [he]; rfl
              have HE : Hid (c = false) := by show _ = _; rw [← HC.out]; exact cyc_no hlt HQ.out
              clear he
              go_wp2
              go_ret
              exact ⟨by rw [HE.out]; rfl, by rw [HW.out]; exact HBz.out⟩
          · obtain rfl : k = ls.length := by omega
            have hi : ¬ (ls.length : Int) < (ls.length : Int) := by omega
            have HE : Hid (c = true) := by show _ = _; rw [← HC.out]; exact cyc_yes HK.out
            have HEd : Hid (bb = d) := by show _ = _; rw [HN.out, List.take_of_length_le (Nat.le_refl _)]; exact HD.out
            have HW := hide hwr
            clear hwr
            go_wp2
            go_ret
            exact ⟨by rw [HE.out, ← HEd.out]; rfl, by rw [HW.out]; exact HBz.out⟩
end Go.Proofs.Ytmbkjgfnnpopgab

namespace Go.Proofs.Ytmbkjgfnnpopgab
set_option linter.unusedSimpArgs false
set_option linter.unusedVariables false
open Go.RowKit Go.Maps

theorem PathL.nil_eq {es : List Edg} {a b : Nat} {W : List Int} (h : PathL es a W b) (hW : W = []) : b = a := by
  cases h with
  | nil => rfl
  | snoc _ _ _ _ => simp at hW

theorem PathL.next {es : List Edg} {a b : Nat} {L : List Int} (h : PathL es a L b) : ∀ i, i < L.length → ∃ (m : Nat) (x : Edg), L[i]? = some (m : Int) ∧ es[m]? = some x ∧ (i = 0 → x.f = a) ∧ (i + 1 = L.length → x.t = b) ∧ ∀ (m' : Nat) (x' : Edg), L[i + 1]? = some (m' : Int) → es[m']? = some x' → x.t = x'.f := by
  induction h with
  | nil => intro i hi; simp at hi
  | @snoc W b m x t h hm hf ht ih =>
    intro i hi
    simp only [List.length_append, List.length_singleton] at hi ⊢
    by_cases hl : i < W.length
    · obtain ⟨m1, x1, h1, h2, h3, h4, h5⟩ := ih i hl
      refine ⟨m1, x1, by rw [List.getElem?_append_left hl]; exact h1, h2, h3, fun e => by omega, fun m' x' e1 e2 => ?_⟩
      by_cases hl2 : i + 1 < W.length
      · rw [List.getElem?_append_left hl2] at e1
        exact h5 m' x' e1 e2
      · have e0 : i + 1 = W.length := by omega
        rw [e0, List.getElem?_append_right (Nat.le_refl _), Nat.sub_self] at e1
        simp only [List.getElem?_cons_zero, Option.some.injEq] at e1
        have : m = m' := by omega
        subst this
        rw [hm] at e2
        cases e2
        rw [h4 e0, hf]
    · have e0 : i = W.length := by omega
      subst e0
      refine ⟨m, x, by simp, hm, fun e => ?_, fun _ => ht, fun m' x' e1 _ => ?_⟩
      · have hb := h.nil_eq (List.eq_nil_of_length_eq_zero e)
        rw [hf, hb]
      · rw [List.getElem?_append_right (by omega)] at e1
        simp at e1

/-- A closed walk with a negated edge is one. -/
theorem cyclic_yes {n : Nat} {es : List Edg} {a : Nat} {L : List Int} (hfit : fitP n es = true) (h : PathL es a L a) (hl : L ≠ []) (hneg : ∃ m : Nat, (m : Int) ∈ L ∧ (ed es m).neg = true) : cyclicP n es L = true := by
  have hpos : 0 < L.length := List.length_pos_iff.2 hl
  have hnx := h.next
  have h1 : (L.length == 0) = false := by simpa using hl
  have h2 : L.any (outN es.length) = false := by
    rw [List.any_eq_false]
    intro x hx
    obtain ⟨i, hi, e⟩ := List.getElem_of_mem hx
    obtain ⟨m, y, h1, h2, -⟩ := hnx i hi
    rw [List.getElem?_eq_getElem hi, Option.some.injEq, e] at h1
    have hm : m < es.length := (List.getElem?_eq_some_iff.1 h2).1
    rw [h1]
    unfold outN inB
    simp
    omega
  have h3 : cycB es L = true := cyc_yes' fun i hi => by
    obtain ⟨m, x, a1, a2, -, a4, a5⟩ := hnx i hi
    unfold nextOk
    rw [wk_at a1, ed_at a2]
    unfold nxt
    split
    · rename_i e
      obtain ⟨m0, x0, b1, b2, b3, -⟩ := hnx 0 hpos
      rw [wk_at b1, ed_at b2, a4 e, b3 rfl]
      simp
    · obtain ⟨m0, x0, b1, b2, -⟩ := hnx (i + 1) (by omega)
      rw [wk_at b1, ed_at b2, a5 m0 x0 b1 b2]
      simp
  have h4 : L.any (negW es) = true := by
    obtain ⟨m, hm, hn⟩ := hneg
    exact List.any_eq_true.2 ⟨m, hm, hn⟩
  unfold cyclicP
  rw [hfit, h1, h2, h3, h4]
  rfl

theorem edge_lnkN {es : List Edg} {u v : Nat} {e : Edg} (he : e ∈ es) (h1 : e.f = u) (h2 : e.t = v) (hn : e.neg = true) : lnkN es u v = true := by
  unfold lnkN
  refine List.any_eq_true.2 ⟨e, he, ?_⟩
  unfold isE
  simp [h1, h2, hn]
theorem lv_map {n : Nat} {X : Nat → Int} {u : Nat} (hu : u < n) : lv ((List.range n).map X) (u : Int) = X u := by
  unfold lv
  rw [Int.toNat_natCast, List.getElem?_map, List.getElem?_range hu]
  rfl
/-- What obeys all links is a level mapping. -/
theorem holds_yes {n : Nat} {es : List Edg} {X : Nat → Int} (hfit : fitP n es = true) (hX : Sol n (lnkT es) (lnkN es) X) : holdsP n es ((List.range n).map X) = true := by
  have hin := (fit_in8 hfit).2
  have h2 : ((List.range n).map X).any neg0 = false := by
    rw [List.any_eq_false]
    intro x hx
    obtain ⟨u, hu, rfl⟩ := List.mem_map.1 hx
    have := hX.nn u (List.mem_range.1 hu)
    unfold neg0
    simp
    omega
  have h3 : es.any (eBad ((List.range n).map X)) = false := by
    rw [List.any_eq_false]
    intro e he
    obtain ⟨q1, q2, q3, q4⟩ := hin e he
    obtain ⟨kf, hkf⟩ : ∃ kf : Nat, e.f = kf := ⟨e.f.toNat, by omega⟩
    obtain ⟨kt, hkt⟩ : ∃ kt : Nat, e.t = kt := ⟨e.t.toNat, by omega⟩
    unfold eBad
    rw [hkf, hkt, lv_map (show kf < n by omega), lv_map (show kt < n by omega)]
    have h4 := hX.le kf kt (by omega) (by omega) (edge_lnk he hkf hkt)
    cases hn : e.neg with
    | false => simp; omega
    | true =>
      have h5 := hX.lt kf kt (by omega) (by omega) (edge_lnkN he hkf hkt hn)
      simp
      omega
  unfold holdsP
  rw [hfit, h2, h3]
  simp
/-- A level mapping obeys all links. -/
theorem holds_sol {n : Nat} {es : List Edg} {ls : List Int} (h : holdsP n es ls = true) : fitP n es = true ∧ ls.length = n ∧ Sol n (lnkT es) (lnkN es) (fun u => lv ls (u : Int)) := by
  unfold holdsP at h
  simp only [Bool.and_eq_true, Bool.not_eq_true', beq_iff_eq] at h
  obtain ⟨h1, h2, h3, h4⟩ := h
  have hl : ls.length = n := by omega
  rw [List.any_eq_false] at h3 h4
  refine ⟨h1, hl, fun u hu => ?_, fun u v hu hv ht => ?_, fun u v hu hv ht => ?_⟩
  · have hm : ls[u]? = some ls[u] := List.getElem?_eq_getElem (by omega)
    have := h3 _ (List.mem_of_getElem? hm)
    show 0 ≤ lv ls (u : Int)
    unfold lv
    rw [Int.toNat_natCast, hm]
    unfold neg0 at this
    simp at this
    exact this
  · obtain ⟨e, he, e1, e2⟩ := lnk_edge ht
    have := h4 e he
    unfold eBad at this
    rw [e1, e2] at this
    simp at this
    exact this.1
  · unfold lnkN at ht
    obtain ⟨e, he, hi⟩ := List.any_eq_true.1 ht
    unfold isE at hi
    simp at hi
    obtain ⟨⟨e1, e2⟩, en⟩ := hi
    have := h4 e he
    unfold eBad at this
    rw [e1, e2, en] at this
    simp at this
    show lv ls (u : Int) + 1 ≤ lv ls (v : Int)
    omega
/-- Where a negated edge lies inside a component, no mapping obeys. -/
theorem bad_nosol {n : Nat} {es : List Edg} {X : Nat → Int} (hin : ∀ x ∈ es, 0 ≤ x.f ∧ x.f < n ∧ 0 ≤ x.t ∧ x.t < n) (hb : HasBad n es) (hX : Sol n (lnkT es) (lnkN es) X) : False := by
  obtain ⟨x, hx, hn, hm⟩ := hb
  obtain ⟨q1, q2, q3, q4⟩ := hin x hx
  have h1 := hX.lt x.f.toNat x.t.toNat (by omega) (by omega) (edge_lnkN hx (by omega) (by omega) hn)
  have h2 := hX.reach hm.2
  omega
theorem holds_no {n : Nat} {es : List Edg} {ls : List Int} (hb : HasBad n es) : holdsP n es ls = false := by
  cases h : holdsP n es ls with
  | false => rfl
  | true =>
    obtain ⟨h1, -, h2⟩ := holds_sol h
    exact (bad_nosol (fit_in8 h1).2 hb h2).elim
/-- Where a mapping obeys all links, no closed walk has a negated edge. -/
theorem cyclic_nosol {n : Nat} {es : List Edg} {L : List Int} {X : Nat → Int} (h : cyclicP n es L = true) (hX : Sol n (lnkT es) (lnkN es) X) : False := by
  unfold cyclicP at h
  simp only [Bool.and_eq_true, Bool.not_eq_true'] at h
  obtain ⟨hf, hl, ho, hc, hn⟩ := h
  have hin := (fit_in8 hf).2
  have hpos : 0 < L.length := by
    rcases Nat.eq_zero_or_pos L.length with e | e
    · rw [e] at hl; simp at hl
    · exact e
  rw [cyc_next] at hc
  rw [List.all_eq_true] at hc
  rw [List.any_eq_false] at ho
  have hel : ∀ i, i < L.length → ∃ m : Nat, wk L i = m ∧ ∃ e, es[m]? = some e ∧ ed es (wk L i) = e := fun i hi => by
    have hm : L[i]? = some L[i] := List.getElem?_eq_getElem hi
    have h1 := ho _ (List.mem_of_getElem? hm)
    obtain ⟨m, e, hm2⟩ := outN_false (by simpa using h1)
    have he : es[m]? = some es[m] := List.getElem?_eq_getElem hm2
    have hw : wk L i = m := by rw [wk_at hm]; exact e
    exact ⟨m, hw, es[m], he, by rw [hw]; exact ed_at he⟩
  have step : ∀ i, i < L.length → X (ed es (wk L i)).f.toNat ≤ X (ed es (wk L (nxt L.length i))).f.toNat ∧ (negW es (wk L i) = true → X (ed es (wk L i)).f.toNat + 1 ≤ X (ed es (wk L (nxt L.length i))).f.toNat) := fun i hi => by
    obtain ⟨m, hw, e, he, hee⟩ := hel i hi
    have h1 := hc i (List.mem_range.2 hi)
    unfold nextOk at h1
    simp only [beq_iff_eq] at h1
    rw [← h1]
    have hem := List.mem_of_getElem? he
    obtain ⟨q1, q2, q3, q4⟩ := hin e hem
    unfold negW
    rw [hee]
    exact ⟨hX.le _ _ (by omega) (by omega) (edge_lnk hem (by omega) (by omega)), fun hn => hX.lt _ _ (by omega) (by omega) (edge_lnkN hem (by omega) (by omega) hn)⟩
  have mono : ∀ j, j < L.length → ∀ i, i ≤ j → X (ed es (wk L i)).f.toNat ≤ X (ed es (wk L j)).f.toNat := by
    intro j
    induction j with
    | zero =>
      intro _ i hi
      obtain rfl : i = 0 := by omega
      exact Int.le_refl _
    | succ j ih =>
      intro hj i hi
      rcases Nat.lt_or_ge i (j + 1) with hl2 | hl2
      · have h1 := ih (by omega) i (by omega)
        have h2 := (step j (by omega)).1
        have : nxt L.length j = j + 1 := by unfold nxt; rw [if_neg (by omega)]
        rw [this] at h2
        omega
      · obtain rfl : i = j + 1 := by omega
        exact Int.le_refl _
  obtain ⟨x, hx, hxn⟩ := List.any_eq_true.1 hn
  obtain ⟨i, hi, e⟩ := List.getElem_of_mem hx
  have hwi : wk L i = x := by rw [wk_at (List.getElem?_eq_getElem hi)]; exact e
  have h1 := (step i hi).2 (by rw [hwi]; exact hxn)
  have hlast := (step (L.length - 1) (by omega)).1
  have hnl : nxt L.length (L.length - 1) = 0 := by unfold nxt; rw [if_pos (by omega)]
  rw [hnl] at hlast
  have h0 := mono i hi 0 (Nat.zero_le _)
  by_cases hil : i + 1 = L.length
  · have : nxt L.length i = 0 := by unfold nxt; rw [if_pos hil]
    rw [this] at h1
    omega
  · have hn1 : nxt L.length i = i + 1 := by unfold nxt; rw [if_neg hil]
    rw [hn1] at h1
    have h2 := mono (L.length - 1) (by omega) (i + 1) (by omega)
    omega

/-- What Cycle answers is a closed walk with a negated edge. -/
theorem cycle_is {n : Nat} {es : List Edg} {H : Nat → Int} {m : Nat} {x : Edg} {W : List Int} (hfit : fitP n es = true) (hm : es[m]? = some x) (hb : badE H x = true) (hp : PathL es x.t.toNat W x.f.toNat) : cyclicP n es ((m : Int) :: W) = true := by
  obtain ⟨q1, q2, q3, q4⟩ := (fit_in8 hfit).2 x (List.mem_of_getElem? hm)
  refine cyclic_yes (a := x.f.toNat) hfit (hp.cons hm (by omega) (by omega)) (by simp) ⟨m, by simp, ?_⟩
  rw [ed_at hm]
  unfold badE at hb
  simp only [Bool.and_eq_true] at hb
  exact hb.1
end Go.Proofs.Ytmbkjgfnnpopgab

namespace Go.Proofs.Ytmbkjgfnnpopgab
set_option linter.unusedSimpArgs false
set_option linter.unusedVariables false
open Go.RowKit

theorem lnkT_more {es : List Edg} {m : Edg} {u v : Nat} (h : lnkT es u v = true) : lnkT (es ++ [m]) u v = true := by
  unfold lnkT at h ⊢
  rw [List.any_append, h]; rfl
theorem lnkN_more {es : List Edg} {m : Edg} {u v : Nat} (h : lnkN es u v = true) : lnkN (es ++ [m]) u v = true := by
  unfold lnkN at h ⊢
  rw [List.any_append, h]; rfl
theorem reach_more {n : Nat} {es : List Edg} {m : Edg} {a b : Nat} (h : Reach (Ed n (lnkT es)) a b) : Reach (Ed n (lnkT (es ++ [m]))) a b := by
  induction h with
  | refl => exact .refl _
  | tail _ e ih => exact .tail ih ⟨e.1, e.2.1, lnkT_more e.2.2⟩
theorem bad_more {n : Nat} {es : List Edg} (m : Edg) (h : HasBad n es) : HasBad n (es ++ [m]) := by
  obtain ⟨x, hx, h1, h2⟩ := h
  exact ⟨x, List.mem_append_left _ hx, h1, reach_more h2.1, reach_more h2.2⟩
theorem sol_less {n : Nat} {es : List Edg} {m : Edg} {X : Nat → Int} (h : Sol n (lnkT (es ++ [m])) (lnkN (es ++ [m])) X) : Sol n (lnkT es) (lnkN es) X :=
  ⟨h.nn, fun u v hu hv e => h.le u v hu hv (lnkT_more e), fun u v hu hv e => h.lt u v hu hv (lnkN_more e)⟩
theorem fit_less {n : Int} {es : List Edg} {m : Edg} (h : fitP n (es ++ [m]) = true) : fitP n es = true := by
  unfold fitP at h ⊢
  rw [List.any_append] at h
  simp only [Bool.and_eq_true, decide_eq_true_eq, Bool.not_eq_true', Bool.or_eq_false_iff] at h ⊢
  exact ⟨h.1, h.2.1, h.2.2.1⟩
end Go.Proofs.Ytmbkjgfnnpopgab

namespace Go.Proofs.Ytmbkjgfnnpopgab
set_option linter.unusedSimpArgs false
set_option linter.unusedVariables false
open Go.RowKit Go.Maps

theorem CompsAt.has_ {base : Nat} {w : World} {n : Nat} {es : List Edg} {H : Nat → Int} {reps : List Nat} {M : Nat → Value} {ta : Option Addr} {tc i : Nat} (h : CompsAt base w n (lnkT es) H reps M (.slice ta reps.length tc)) (hi : i < reps.length) (hn : n ≤ 128) : ∃ (gt : Nat) (va : Value), ta = some ⟨gt, 0, none⟩ ∧ w.cell? ⟨gt, i, none⟩ = some va ∧ Has elInt w va ((memL H n reps[i]).map fun (u : Nat) => (u : Int)) := by
  have hr : reps[i]? = some reps[i] := List.getElem?_eq_getElem hi
  obtain ⟨r1, r2⟩ := h.greedy.rep _ (List.mem_of_getElem? hr)
  have ho : w.ownsRow base 36 1 (.slice ta reps.length tc) (reps.map M).length (reps.map M) := by rw [List.length_map]; exact h.told.own
  obtain ⟨gt, cap, e, -, hc⟩ := own_cells ho (by rw [List.length_map]; omega)
  have hlen : (memL H n reps[i]).length ≤ n := nd_len (nd_memL _ _ _) (fun p hp => (mem_memL.1 hp).1)
  exact ⟨gt, M reps[i], by injection e, hc i _ (by rw [List.getElem?_map, hr]; rfl), own_has (h.told.lst _ r1) (by omega) (fun x hx => by have := (mem_memL.1 hx).1; omega)⟩

theorem fitP_same {n : Int} {es es' : List Edg} (h : ∀ x, x ∈ es' ↔ x ∈ es) : fitP n es' = fitP n es := by
  have h1 : es'.any (eOut n) = es.any (eOut n) := by
    rw [Bool.eq_iff_iff]
    simp only [List.any_eq_true, h]
  unfold fitP
  rw [h1]

theorem levels_bad {w : World} {v : Value} {es : List Edg} {n : Nat} (h : Has elEdg w v es) (hfit : fitP n es = true) (hb : HasBad n es) :
    Calls Try.prog 8 #[.int .i64 (n : Int), v] w fun e w' => e = .returned (.tuple #[.slice none 0 0, .int .i64 40]) ∧ Below w.heap.size w w' :=
  (levels_fit h hfit).mono fun e w' ⟨h1, h2⟩ => ⟨h1.elim (fun h => h.2) (fun h => absurd hb h.1), h2⟩
theorem levels_good {w : World} {v : Value} {es : List Edg} {n : Nat} (h : Has elEdg w v es) (hfit : fitP n es = true) (hb : ¬ HasBad n es) :
    Calls Try.prog 8 #[.int .i64 (n : Int), v] w fun e w' => ∃ (g : Nat) (X : Nat → Int), e = .returned (.tuple #[.slice (some ⟨g, 0, none⟩) n n, .int .i64 0]) ∧ w'.rowIs g 3 n (fun i => .int .i64 (X i)) ∧ (Least n (lnkT es) (lnkN es) X ∧ ∀ p, p < n → X p ≤ n) ∧ Below w.heap.size w w' :=
  (levels_fit h hfit).mono fun e w' ⟨h1, h2⟩ => h1.elim (fun h => absurd h.1 hb) (fun ⟨_, g, X, a, b, c⟩ => ⟨g, X, a, b, c, h2⟩)

theorem comps_same {base base' : Nat} {w : World} {n : Nat} {es : List Edg} {H H' : Nat → Int} {reps reps' : List Nat} {M M' : Nat → Value} {ta ta' : Option Addr} {tc tc' : Nat} (hn : n ≤ 128) (h : CompsAt base w n (lnkT es) H reps M (.slice ta reps.length tc)) (h' : CompsAt base' w n (lnkT es) H' reps' M' (.slice ta' reps'.length tc')) :
    ∀ i, i < reps.length → ∃ (ga gb : Nat) (L : List Int) (va vb : Value), ta = some ⟨ga, 0, none⟩ ∧ ta' = some ⟨gb, 0, none⟩ ∧ w.cell? ⟨ga, i, none⟩ = some va ∧ w.cell? ⟨gb, i, none⟩ = some vb ∧ Has elInt w va L ∧ Has elInt w vb L := fun i hi => by
  have he := home_uniq h.least h'.least
  have hr := greedy_uniq he h.greedy h'.greedy h.all h'.all
  subst hr
  obtain ⟨ga, va, a1, a2, a3⟩ := h.has_ hi hn
  obtain ⟨gb, vb, b1, b2, b3⟩ := h'.has_ hi hn
  rw [← memL_congr he] at b3
  exact ⟨ga, gb, _, va, vb, a1, b1, a2, b2, a3, b3⟩

end Go.Proofs.Ytmbkjgfnnpopgab

namespace Go.Proofs.Ytmbkjgfnnpopgab
set_option linter.unusedSimpArgs false
set_option linter.unusedVariables false
open Go.RowKit Go.Maps

/-- The law's firstCycle, where a negated edge lies inside a component. -/
theorem firstCycle_bad {w : World} {v : Value} {es : List Edg} {n : Nat} (h : Has elEdg w v es) (hfit : fitP n es = true) (hb : HasBad n es) :
    Calls Try.prog 11 #[.int .i64 (n : Int), v] w fun e w' => ∃ wv, e = .returned wv ∧ ∃ W, Has elInt w' wv W ∧ cyclicP n es W = true ∧ Below w.heap.size w w' := by
  obtain ⟨va, vc, rfl, -, -, hlen⟩ := h.shape
  have hk : n ≤ 128 := by have := (fit_in8 hfit).1; omega
  have HL := hide h
  have HFt := hide hfit
  have HBd := hide hb
  clear h hfit hb
  go_enter Try.func11, Try.ntmps11
  go_wp2_with (first
    | (go_at_call 9; refine (edges_any HL.out).mono ?_; rintro e V1 ⟨g1, rfl, hg1, b1⟩; obtain ⟨ga1, gc1, rfl, -, -⟩ := hg1.shape; have HG1 := hide (hg1.list hlen); have HB1 := hide b1; clear hg1 b1)
    | (go_at_call 20; refine (cycle_bad HG1.out HFt.out HBd.out).mono ?_; rintro e V2 ⟨H, wv, m, x, W, hH, rfl, hgw, ⟨hm1, hm2, hm3, hm4, hm5⟩, b3⟩; have HB2 := hide (HB1.out.trans (b3.mono HB1.out.size)); have HCy := hide (cycle_is HFt.out hm2 hm3 hm4); have hwl : ((m : Int) :: W).length < 1073741824 := (by simp; omega); have HRg := hide (hgw.list hwl); obtain ⟨ra, rc, rfl, -, -⟩ := hgw.shape; clear hH hgw hm1 hm2 hm3 hm4 hm5; clear b3))
  go_ret
  exact ⟨_, rfl, _, HRg.out, HCy.out, HB2.out⟩

end Go.Proofs.Ytmbkjgfnnpopgab

namespace Go.Proofs.Ytmbkjgfnnpopgab
set_option linter.unusedSimpArgs false
set_option linter.unusedVariables false
open Go.RowKit Go.Maps

/-- What an edge asks of its end. -/
def leastE (X : Nat → Int) (x : Edg) : Int := if x.neg then X x.f.toNat + 1 else X x.f.toNat
def askOk (X : Nat → Int) (S : Nat → Bool) (x : Edg) : Prop := S x.f.toNat = true → leastE X x = X x.t.toNat → S x.t.toNat = true
theorem all_good {n : Nat} {es : List Edg} {X : Nat → Int} {S : Nat → Bool} (hin : ∀ x ∈ es, 0 ≤ x.f ∧ x.f < n ∧ 0 ≤ x.t ∧ x.t < n) (hX : Least n (lnkT es) (lnkN es) X) (h0 : ∀ i, i < n → X i = 0 → S i = true) (hc : ∀ x ∈ es, askOk X S x) : ∀ i, i < n → S i = true := by
  intro i hi
  cases hS : S i with
  | true => rfl
  | false =>
    have hf : Sol n (lnkT es) (lnkN es) (fun u => if S u then X u else X u - 1) := by
      refine ⟨fun u hu => ?_, fun u v hu hv e => ?_, fun u v hu hv e => ?_⟩
      · have h1 := hX.nn u hu
        cases hs : S u with
        | true => simpa using h1
        | false =>
          have : X u ≠ 0 := fun h => by rw [h0 u hu h] at hs; cases hs
          simp
          omega
      · have h1 := hX.le u v hu hv e
        cases hs : S u with
        | false => cases S v <;> simp <;> omega
        | true =>
          cases ht : S v with
          | true => simpa using h1
          | false =>
            obtain ⟨x, hx, e1, e2⟩ := lnk_edge e
            have hk := hc x hx
            unfold askOk leastE at hk
            rw [e1, e2] at hk
            simp only [Int.toNat_natCast] at hk
            have hne : X u ≠ X v := fun h => by
              cases hg : x.neg with
              | true =>
                have := hX.lt u v hu hv (edge_lnkN hx e1 e2 hg)
                omega
              | false =>
                rw [hg] at hk
                have := hk hs (by simpa using h)
                rw [ht] at this
                cases this
            simp
            omega
      · have h1 := hX.lt u v hu hv e
        cases hs : S u with
        | false => cases S v <;> simp <;> omega
        | true =>
          cases ht : S v with
          | true => simpa using h1
          | false =>
            unfold lnkN at e
            obtain ⟨x, hx, e3⟩ := List.any_eq_true.1 e
            simp only [Bool.and_eq_true] at e3
            unfold isE at e3
            simp only [Bool.and_eq_true, beq_iff_eq] at e3
            have hk := hc x hx
            unfold askOk leastE at hk
            rw [e3.1.1, e3.1.2, e3.2] at hk
            simp only [Int.toNat_natCast, if_true] at hk
            have hne : X u + 1 ≠ X v := fun h => by
              have := hk hs h
              rw [ht] at this
              cases this
            simp
            omega
    have := hX.least _ hf i hi
    rw [hS] at this
    simp at this
    omega

theorem muF_true {g n : Nat} {w : World} {S : Nat → Bool} (h : w.rowIs g 4 n (fun i => .bool (S i))) (b : Bool) : muF g n (.bool b) w = 2 * unsS n S + (if b then 1 else 0) := by
  unfold muF
  rw [unsW_eq h]
  rfl

set_option maxRecDepth 100000 in
set_option maxHeartbeats 4000000 in
theorem ask8_any {w : World} {v : Value} {es : List Edg} {n g : Nat} {X : Nat → Int} (h : Has elEdg w v es) (hin : ∀ x ∈ es, 0 ≤ x.f ∧ x.f < n ∧ 0 ≤ x.t ∧ x.t < n) (hr : w.rowIs g 3 n (fun i => .int .i64 (X i))) (hX : Least n (lnkT es) (lnkN es) X) (hb : ∀ p, p < n → X p ≤ n) (hn : n ≤ 128) :
    Calls Try.prog 12 #[.int .i64 (n : Int), v, .slice (some ⟨g, 0, none⟩) n n] w fun e w' => e = .returned (.bool true) ∧ Below w.heap.size w w' := by
  have hmk := fun W : World => run_make_row' (P := Try.prog) 54 4 (.bool false) 1 Try.underlying54 Try.infoBool rfl .i64 .i64 n (by omega) (by omega) W
  obtain ⟨va, vc, rfl, -, -, hlen⟩ := h.shape
  have HL := hide h
  have HN := hide hin
  have HX : Hid (Least n (lnkT es) (lnkN es) X ∧ ∀ p, p < n → X p ≤ n) := ⟨hX, hb⟩
  have HG := hide hr
  have HR0 : Hid ((w.alloc (.cells (madeCells #[.bool false] n) 4)).rowIs w.heap.size 4 n (fun i => .bool ((fun _ => false : Nat → Bool) i))) := World.rowIs_made w (.bool false) n 4
  have HB0 := hide (belo1 w (.cells (madeCells #[.bool false] n) 4))
  clear h hin hr hX hb
  go_enter Try.func12, Try.ntmps12
  go_wp2
  go_loopw [8] (fun y wl => ∃ (k : Nat) (S : Nat → Bool), k ≤ n ∧ y = .int .i64 (k : Int) ∧ Hid (wl.rowIs w.heap.size 4 n (fun i => .bool (S i))) ∧ Hid (∀ i, i < k → S i = (X i == 0)) ∧ Hid (Below w.heap.size w wl)) (fun y _ => n - (intOf y).toNat)
  case atStart => exact ⟨0, fun _ => false, by omega, rfl, HR0, fun i hi => by omega, HB0⟩
  case round =>
    clear HR0 HB0 hmk
    obtain ⟨k, S, hk, rfl, HR, HS, HB⟩ := hrel
    by_cases hlt : k < n
    · have hi : (k : Int) < (n : Int) := by omega
      have hi0 : (0 : Int) ≤ (k : Int) := by omega
      have y0 := (HG.out.of_block (HB.out.block _ HG.out.lt)).cell hlt
      have y1 := HR.out.cell hlt
      have f1 := HR.out.frozen k
      have HRn : Hid ((wr.setCell ⟨w.heap.size, k, none⟩ (.bool (X k == 0))).rowIs w.heap.size 4 n (fun i => .bool (if i = k then (X k == 0) else S i))) := by
        refine (HR.out.set k _).congr fun i _ => ?_
        split <;> rfl
      have HBn : Hid (Below w.heap.size w (wr.setCell ⟨w.heap.size, k, none⟩ (.bool (X k == 0)))) := HB.out.setCell (Nat.le_refl _) _
      have HSn : Hid (∀ i, i < k + 1 → (if i = k then (X k == 0) else S i) = (X i == 0)) := fun i hi => by
        split
        · rename_i e; rw [e]
        · exact HS.out i (by omega)
      go_wp2
      go_roundw
      case rel => exact ⟨k + 1, _, by omega, by go_num, HRn, HSn, HBn⟩
      case measure => simp [intOf]; omega
    · obtain rfl : k = n := by omega
      have hi : ¬ (k : Int) < (k : Int) := by omega
      have HZ : Hid (∀ i, i < k → X i = 0 → S i = true) := fun i hi h => by rw [HS.out i hi, h]; rfl
      clear HS
      go_wp2
      go_loopw [9] (fun ag wl => ∃ (S : Nat → Bool) (b : Bool), ag = .bool b ∧ Hid (wl.rowIs w.heap.size 4 k (fun i => .bool (S i))) ∧ Hid ((∀ i, i < k → X i = 0 → S i = true) ∧ (b = false → ∀ x ∈ es, askOk X S x)) ∧ Hid (Below w.heap.size w wl)) (fun ag wl => muF w.heap.size k ag wl)
      case atStart => exact ⟨S, true, rfl, HR, ⟨HZ.out, fun h => by cases h⟩, HB⟩
      case round =>
        clear HR HB HZ
        obtain ⟨S0, b0, rfl, HR0, HI0, HB0⟩ := hrel
        cases b0 with
        | false =>
          have HA := hide (all_good HN.out HX.out.1 HI0.out.1 (HI0.out.2 rfl))
          go_wp2
          go_loopw [12] (fun y wl => ∃ j : Nat, j ≤ k ∧ y = .int .i64 (j : Int) ∧ Hid (wl = wr)) (fun y _ => k - (intOf y).toNat)
          case atStart => exact ⟨0, by omega, rfl, rfl⟩
          case round =>
            obtain ⟨j, hj, rfl, HW⟩ := hrel
            have hw := HW.out.symm
            subst hw
            clear HW
            by_cases hjl : j < k
            · have hj1 : (j : Int) < (k : Int) := by omega
              have hj0 : (0 : Int) ≤ (j : Int) := by omega
              have y1 := HR0.out.cell hjl
              rw [HA.out j hjl] at y1
              go_wp2
              go_roundw
              case rel => exact ⟨j + 1, by omega, by go_num, trivial⟩
              case measure => simp [intOf]; omega
            · obtain rfl : j = k := by omega
              have hj1 : ¬ (j : Int) < (j : Int) := by omega
              go_wp2
              go_ret
              exact ⟨rfl, HB0.out⟩
        | true =>
          obtain ⟨N0, hN0⟩ : ∃ N0, unsS k S0 = N0 := ⟨_, rfl⟩
          go_wp2
          have HMu : Hid (muF w.heap.size k (.bool true) wr = 2 * N0 + 1) := by show _ = _; rw [muF_true HR0.out, hN0]; rfl
          have HInv0 : Hid ((∀ i, i < k → X i = 0 → S0 i = true) ∧ (false = false → ∀ x ∈ es.take 0, askOk X S0 x) ∧ (false = true → unsS k S0 < N0) ∧ (false = false → unsS k S0 ≤ N0)) := ⟨HI0.out.1, (fun _ x hx => by simp at hx), (fun h => by cases h), fun _ => by omega⟩
          clear hN0
          go_loopw [9, 10, 11] (fun ag y _ wl => ∃ (i : Nat) (S : Nat → Bool) (b : Bool), i ≤ es.length ∧ y = .int .i64 (i : Int) ∧ ag = .bool b ∧ Hid (wl.rowIs w.heap.size 4 k (fun i => .bool (S i))) ∧ Hid ((∀ i, i < k → X i = 0 → S i = true) ∧ (b = false → ∀ x ∈ es.take i, askOk X S x) ∧ (b = true → unsS k S < N0) ∧ (b = false → unsS k S ≤ N0)) ∧ Hid (Below w.heap.size w wl)) (fun _ y _ _ => es.length - (intOf y).toNat)
          case atStart => exact ⟨0, S0, false, by omega, rfl, rfl, HR0, HInv0, HB0⟩
          case round =>
            clear HR0 HI0 HB0 HInv0
            obtain ⟨i, S, ag, hil, rfl, rfl, HR, HInv, HB⟩ := hrel
            by_cases hlt2 : i < es.length
            · have hi1 : (i : Int) < (es.length : Int) := by omega
              have hi0 : (0 : Int) ≤ (i : Int) := by omega
              obtain ⟨b, off, rfl, -, -, hrow⟩ := HL.out.row (by omega)
              obtain ⟨x, hx⟩ : ∃ x, es[i]? = some x := ⟨_, List.getElem?_eq_getElem hlt2⟩
              have y0 := kept_cell HB.out (hrow i x hx 0 _ rfl)
              have y1 := kept_cell HB.out (hrow i x hx 1 _ rfl)
              have y2 := kept_cell HB.out (hrow i x hx 2 _ rfl)
              simp only [elEdg, Nat.add_zero] at y0 y1 y2
              obtain ⟨q1, q2, q3, q4⟩ := HN.out x (List.mem_of_getElem? hx)
              have HXm := hide hx
              clear hrow hx
              obtain ⟨f, t, neg, r⟩ := x
              obtain ⟨kf, rfl⟩ : ∃ kf : Nat, f = kf := ⟨f.toNat, by dsimp only at q1; omega⟩
              obtain ⟨kt, rfl⟩ : ∃ kt : Nat, t = kt := ⟨t.toNat, by dsimp only at q3; omega⟩
              dsimp only at q1 q2 q3 q4 y0 y1 y2
              have hfk : kf < k := by omega
              have htk : kt < k := by omega
              have l0 := (HG.out.of_block (HB.out.block _ HG.out.lt)).cell hfk
              have l1 := (HG.out.of_block (HB.out.block _ HG.out.lt)).cell htk
              have s0 := HR.out.cell hfk
              have s1 := HR.out.cell htk
              have s1f := HR.out.frozen kt
              have hbf : 0 ≤ X kf ∧ X kf ≤ 128 := ⟨HX.out.1.nn kf hfk, by have := HX.out.2 kf hfk; omega⟩
              have HSnoc := hide (take_snoc8 HXm.out)
              obtain ⟨xf, hxf⟩ : ∃ x, X kf = x := ⟨_, rfl⟩
              obtain ⟨xt, hxt⟩ : ∃ x, X kt = x := ⟨_, rfl⟩
              obtain ⟨cu, hcu⟩ : ∃ x, S kf = x := ⟨_, rfl⟩
              obtain ⟨cv, hcv⟩ : ∃ x, S kt = x := ⟨_, rfl⟩
              rw [hxf] at l0 hbf
              rw [hxt] at l1
              rw [hcu] at s0
              rw [hcv] at s1
              have hbf1 := hbf.1
              have hbf2 := hbf.2
              have HVals : Hid (S kf = cu ∧ S kt = cv ∧ leastE X ⟨kf, kt, neg, r⟩ = (if neg then xf + 1 else xf) ∧ X kt = xt) := ⟨hcu, hcv, by unfold leastE; simp only [Int.toNat_natCast]; rw [hxf], hxt⟩
              clear hcu hcv hxf hxt hbf q1 q2 q3 q4
              have HOk : Hid (((cu && !cv) && ((if neg then xf + 1 else xf) == xt)) = false → (∀ x ∈ es.take i, askOk X S x) → ∀ x ∈ es.take (i + 1), askOk X S x) := fun hb hall x hx => by
                rw [HSnoc.out] at hx
                rcases List.mem_append.1 hx with h4 | h4
                · exact hall x h4
                · simp only [List.mem_singleton] at h4
                  subst h4
                  intro h1 h2
                  simp only [Int.toNat_natCast] at h1 h2 ⊢
                  rw [HVals.out.2.2.1, HVals.out.2.2.2] at h2
                  rw [HVals.out.1] at h1
                  rw [HVals.out.2.1]
                  rw [h1, h2] at hb
                  simpa using hb
              cases neg with
              | true =>
                cases cu with
                | false =>
                  have HInv2 := hide (And.intro HInv.out.1 (And.intro (fun hag => HOk.out (by simp) (HInv.out.2.1 hag)) HInv.out.2.2))
                  go_wp2
                  go_roundw
                  case rel => exact ⟨i + 1, S, ag, by omega, by go_num, rfl, HR, HInv2, HB⟩
                  case measure => simp [intOf]; omega
                | true =>
                  cases cv with
                  | true =>
                    have HInv2 := hide (And.intro HInv.out.1 (And.intro (fun hag => HOk.out (by simp) (HInv.out.2.1 hag)) HInv.out.2.2))
                    go_wp2
                    go_roundw
                    case rel => exact ⟨i + 1, S, ag, by omega, by go_num, rfl, HR, HInv2, HB⟩
                    case measure => simp [intOf]; omega
                  | false =>
                    by_cases hq : xf + 1 = xt
                    · have hq' : ((xf + 1) == xt) = true := by simpa using hq
                      have HRn : Hid ((wr.setCell ⟨w.heap.size, kt, none⟩ (.bool true)).rowIs w.heap.size 4 k (fun i => .bool (updB S kt i))) := by
                        refine (HR.out.set kt _).congr fun i _ => ?_
                        unfold updB
                        split <;> simp_all
                      have HBn : Hid (Below w.heap.size w (wr.setCell ⟨w.heap.size, kt, none⟩ (.bool true))) := HB.out.setCell (Nat.le_refl _) _
                      have HInv2 : Hid ((∀ i, i < k → X i = 0 → updB S kt i = true) ∧ (true = false → ∀ x ∈ es.take (i + 1), askOk X (updB S kt) x) ∧ (true = true → unsS k (updB S kt) < N0) ∧ (true = false → unsS k (updB S kt) ≤ N0)) := by
                        have h1 := unsS_upd htk HVals.out.2.1
                        refine ⟨fun j hj h0 => ?_, (fun h => by cases h), fun _ => ?_, (fun h => by cases h)⟩
                        · unfold updB; split
                          · rfl
                          · exact HInv.out.1 j hj h0
                        · cases hag : ag with
                          | true => have := HInv.out.2.2.1 hag; omega
                          | false => have := HInv.out.2.2.2 hag; omega
                      clear hq
                      go_wp2
                      go_roundw
                      case rel => exact ⟨i + 1, updB S kt, true, by omega, by go_num, rfl, HRn, HInv2, HBn⟩
                      case measure => simp [intOf]; omega
                    · have hq' : ((xf + 1) == xt) = false := by simpa using hq
                      have HInv2 := hide (And.intro HInv.out.1 (And.intro (fun hag => HOk.out (by simpa using hq) (HInv.out.2.1 hag)) HInv.out.2.2))
                      clear hq
                      go_wp2
                      go_roundw
                      case rel => exact ⟨i + 1, S, ag, by omega, by go_num, rfl, HR, HInv2, HB⟩
                      case measure => simp [intOf]; omega
              | false =>
                cases cu with
                | false =>
                  have HInv2 := hide (And.intro HInv.out.1 (And.intro (fun hag => HOk.out (by simp) (HInv.out.2.1 hag)) HInv.out.2.2))
                  go_wp2
                  go_roundw
                  case rel => exact ⟨i + 1, S, ag, by omega, by go_num, rfl, HR, HInv2, HB⟩
                  case measure => simp [intOf]; omega
                | true =>
                  cases cv with
                  | true =>
                    have HInv2 := hide (And.intro HInv.out.1 (And.intro (fun hag => HOk.out (by simp) (HInv.out.2.1 hag)) HInv.out.2.2))
                    go_wp2
                    go_roundw
                    case rel => exact ⟨i + 1, S, ag, by omega, by go_num, rfl, HR, HInv2, HB⟩
                    case measure => simp [intOf]; omega
                  | false =>
                    by_cases hq : xf = xt
                    · have hq' : ((xf) == xt) = true := by simpa using hq
                      have HRn : Hid ((wr.setCell ⟨w.heap.size, kt, none⟩ (.bool true)).rowIs w.heap.size 4 k (fun i => .bool (updB S kt i))) := by
                        refine (HR.out.set kt _).congr fun i _ => ?_
                        unfold updB
                        split <;> simp_all
                      have HBn : Hid (Below w.heap.size w (wr.setCell ⟨w.heap.size, kt, none⟩ (.bool true))) := HB.out.setCell (Nat.le_refl _) _
                      have HInv2 : Hid ((∀ i, i < k → X i = 0 → updB S kt i = true) ∧ (true = false → ∀ x ∈ es.take (i + 1), askOk X (updB S kt) x) ∧ (true = true → unsS k (updB S kt) < N0) ∧ (true = false → unsS k (updB S kt) ≤ N0)) := by
                        have h1 := unsS_upd htk HVals.out.2.1
                        refine ⟨fun j hj h0 => ?_, (fun h => by cases h), fun _ => ?_, (fun h => by cases h)⟩
                        · unfold updB; split
                          · rfl
                          · exact HInv.out.1 j hj h0
                        · cases hag : ag with
                          | true => have := HInv.out.2.2.1 hag; omega
                          | false => have := HInv.out.2.2.2 hag; omega
                      clear hq
                      go_wp2
                      go_roundw
                      case rel => exact ⟨i + 1, updB S kt, true, by omega, by go_num, rfl, HRn, HInv2, HBn⟩
                      case measure => simp [intOf]; omega
                    · have hq' : ((xf) == xt) = false := by simpa using hq
                      have HInv2 := hide (And.intro HInv.out.1 (And.intro (fun hag => HOk.out (by simpa using hq) (HInv.out.2.1 hag)) HInv.out.2.2))
                      clear hq
                      go_wp2
                      go_roundw
                      case rel => exact ⟨i + 1, S, ag, by omega, by go_num, rfl, HR, HInv2, HB⟩
                      case measure => simp [intOf]; omega
            · obtain rfl : i = es.length := by omega
              have hi1 : ¬ (es.length : Int) < (es.length : Int) := by omega
              rw [List.take_of_length_le (Nat.le_refl _)] at HInv
              go_wp2
              refine ⟨⟨S, ag, rfl, HR, ⟨HInv.out.1, HInv.out.2.1⟩, HB⟩, ?_⟩
              rw [HMu.out, muF_true HR.out]
              cases ag with
              | true => have := HInv.out.2.2.1 rfl; simp; omega
              | false => have := HInv.out.2.2.2 rfl; simp; omega
end Go.Proofs.Ytmbkjgfnnpopgab

namespace Go.Proofs.Ytmbkjgfnnpopgab
set_option linter.unusedSimpArgs false
set_option linter.unusedVariables false
open Go.RowKit Go.Maps

def PIn (n : Int) (p : Pat) : Prop := 0 ≤ p.q ∧ p.q < n
def RIn (n : Int) (r : Rul) : Prop := PIn n r.h ∧ (∀ p ∈ r.ps, PIn n p) ∧ ∀ p ∈ r.ns, PIn n p
def BelAns (n : Int) (l : List Rul) (e : Ending) : Prop := (e = .returned (.bool false) ∧ ¬ ∀ r ∈ l, RIn n r) ∨ (e = .returned (.bool true) ∧ ∀ r ∈ l, RIn n r)

set_option maxRecDepth 100000 in
set_option maxHeartbeats 2000000 in
theorem below_any {w : World} {v : Value} {l : List Rul} (h : Has elRul w v l) (n : Int) :
    Calls Try.prog 4 #[.int .i64 n, v] w fun e w' => BelAns n l e ∧ Below w.heap.size w w' := by
  obtain ⟨va, vc, rfl, -, -, hlen⟩ := h.shape
  have HL := hide h
  clear h
  go_enter Try.func4, Try.ntmps4
  go_wp2
  go_loopw [5] (fun y wl => ∃ k : Nat, k ≤ l.length ∧ y = .int .i64 k ∧ Hid (∀ r ∈ l.take k, RIn n r) ∧ Hid (wl = w)) (fun y _ => l.length - (intOf y).toNat)
  case atStart => exact ⟨0, by omega, rfl, by show ∀ r ∈ l.take 0, RIn n r; simp, rfl⟩
  case round =>
    obtain ⟨k, hk, rfl, HI, HW⟩ := hrel
    have hw := HW.out.symm
    subst hw
    clear HW
    by_cases hlt : k < l.length
    · have hi : (k : Int) < (l.length : Int) := by omega
      have hi0' : (0 : Int) ≤ (k : Int) := by omega
      obtain ⟨b, off, rfl, -, -, hrow⟩ := HL.out.row (by omega)
      obtain ⟨r, hx⟩ : ∃ r, l[k]? = some r := ⟨_, List.getElem?_eq_getElem hlt⟩
      have y0 := hrow k r hx 0 _ rfl
      have y2 := hrow k r hx 2 _ rfl
      have y4 := hrow k r hx 4 _ rfl
      simp only [elRul, Nat.add_zero] at y0 y2 y4
      have hok := elRul_ok (HL.out.ok (List.mem_of_getElem? hx))
      obtain ⟨ra, rc, hrv, -, -, hrl⟩ := hok.2.1.shape
      obtain ⟨na, nc, hnv, -, -, hnl⟩ := hok.2.2.2.1.shape
      rw [hrv] at y2
      rw [hnv] at y4
      have HXk := hide hx
      have HPps : Hid (Has elPat w (.slice ra r.ps.length rc) r.ps) := by show Has elPat w _ _; rw [← hrv]; exact hok.2.1
      have HPns : Hid (Has elPat w (.slice na r.ns.length nc) r.ns) := by show Has elPat w _ _; rw [← hnv]; exact hok.2.2.2.1
      clear hrow hok hx hrv hnv
      by_cases g1 : r.h.q < 0
      · have q1 : decide (r.h.q < 0) = true := by simpa using g1
        have HNo : Hid (¬ PIn n r.h) := fun h => by have h1 : 0 ≤ r.h.q := h.1; omega
        clear g1
        go_wp2
        go_ret
        exact ⟨.inl ⟨rfl, fun h => HNo.out (h r (List.mem_of_getElem? HXk.out)).1⟩, Below.refl _ _⟩
      · have q1 : decide (r.h.q < 0) = false := by simpa using g1
        by_cases g2 : n ≤ r.h.q
        · have q2 : decide (n ≤ r.h.q) = true := by simpa using g2
          have HNo : Hid (¬ PIn n r.h) := fun h => by have h1 : r.h.q < n := h.2; omega
          clear g1 g2
          go_wp2
          go_ret
          exact ⟨.inl ⟨rfl, fun h => HNo.out (h r (List.mem_of_getElem? HXk.out)).1⟩, Below.refl _ _⟩
        · have q2 : decide (n ≤ r.h.q) = false := by simpa using g2
          have HIn : Hid (0 ≤ r.h.q ∧ r.h.q < n) := ⟨by omega, by omega⟩
          clear g1 g2
          go_wp2
          go_loopw [6] (fun y wl => ∃ i : Nat, i ≤ r.ps.length ∧ y = .int .i64 i ∧ Hid (∀ p ∈ r.ps.take i, PIn n p) ∧ Hid (wl = w)) (fun y _ => r.ps.length - (intOf y).toNat)
          case atStart => exact ⟨0, by omega, rfl, by show ∀ p ∈ r.ps.take 0, PIn n p; simp, rfl⟩
          case round =>
            obtain ⟨i, hil, rfl, HI6, HW⟩ := hrel
            have hw := HW.out.symm
            subst hw
            clear HW
            by_cases hlt6 : i < r.ps.length
            · have hi1 : (i : Int) < (r.ps.length : Int) := by omega
              have hi10 : (0 : Int) ≤ (i : Int) := by omega
              obtain ⟨pb, po, hpe, -, -, prow⟩ := HPps.out.row (by omega)
              cases hpe
              obtain ⟨p, hp⟩ : ∃ p, r.ps[i]? = some p := ⟨_, List.getElem?_eq_getElem hlt6⟩
              have z0 := prow i p hp 0 _ rfl
              simp only [elPat, Nat.add_zero] at z0
              have HXp := hide hp
              clear prow hp
              by_cases g1 : p.q < 0
              · have q1 : decide (p.q < 0) = true := by simpa using g1
                have HNo : Hid (¬ PIn n p) := fun h => by have h1 : 0 ≤ p.q := h.1; omega
                clear g1
                go_wp2
                go_ret
                exact ⟨.inl ⟨rfl, fun h => HNo.out ((h r (List.mem_of_getElem? HXk.out)).2.1 p (List.mem_of_getElem? HXp.out))⟩, Below.refl _ _⟩
              · have q1 : decide (p.q < 0) = false := by simpa using g1
                by_cases g2 : n ≤ p.q
                · have q2 : decide (n ≤ p.q) = true := by simpa using g2
                  have HNo : Hid (¬ PIn n p) := fun h => by have h1 : p.q < n := h.2; omega
                  clear g1 g2
                  go_wp2
                  go_ret
                  exact ⟨.inl ⟨rfl, fun h => HNo.out ((h r (List.mem_of_getElem? HXk.out)).2.1 p (List.mem_of_getElem? HXp.out))⟩, Below.refl _ _⟩
                · have q2 : decide (n ≤ p.q) = false := by simpa using g2
                  have HIn : Hid (0 ≤ p.q ∧ p.q < n) := ⟨by omega, by omega⟩
                  clear g1 g2
                  have HI2 : Hid (∀ p ∈ r.ps.take (i + 1), PIn n p) := by
                    show ∀ p ∈ r.ps.take (i + 1), PIn n p
                    rw [take_snoc8 HXp.out]
                    intro x hx
                    rcases List.mem_append.1 hx with h | h
                    · exact HI6.out x h
                    · simp only [List.mem_singleton] at h; subst h; exact HIn.out
                  go_wp2
                  go_roundw
                  case rel => exact ⟨i + 1, by omega, by go_num, HI2, trivial⟩
                  case measure => simp [intOf]; omega
            · obtain rfl : i = r.ps.length := by omega
              have hi1 : ¬ (r.ps.length : Int) < (r.ps.length : Int) := by omega
              rw [List.take_of_length_le (Nat.le_refl _)] at HI6
              go_wp2
              go_loopw [7] (fun y wl => ∃ i : Nat, i ≤ r.ns.length ∧ y = .int .i64 i ∧ Hid (∀ p ∈ r.ns.take i, PIn n p) ∧ Hid (wl = w)) (fun y _ => r.ns.length - (intOf y).toNat)
              case atStart => exact ⟨0, by omega, rfl, by show ∀ p ∈ r.ns.take 0, PIn n p; simp, rfl⟩
              case round =>
                obtain ⟨i, hil, rfl, HI7, HW⟩ := hrel
                have hw := HW.out.symm
                subst hw
                clear HW
                by_cases hlt7 : i < r.ns.length
                · have hi1 : (i : Int) < (r.ns.length : Int) := by omega
                  have hi10 : (0 : Int) ≤ (i : Int) := by omega
                  obtain ⟨pb, po, hpe, -, -, prow⟩ := HPns.out.row (by omega)
                  cases hpe
                  obtain ⟨p, hp⟩ : ∃ p, r.ns[i]? = some p := ⟨_, List.getElem?_eq_getElem hlt7⟩
                  have z0 := prow i p hp 0 _ rfl
                  simp only [elPat, Nat.add_zero] at z0
                  have HXp := hide hp
                  clear prow hp
                  by_cases g1 : p.q < 0
                  · have q1 : decide (p.q < 0) = true := by simpa using g1
                    have HNo : Hid (¬ PIn n p) := fun h => by have h1 : 0 ≤ p.q := h.1; omega
                    clear g1
                    go_wp2
                    go_ret
                    exact ⟨.inl ⟨rfl, fun h => HNo.out ((h r (List.mem_of_getElem? HXk.out)).2.2 p (List.mem_of_getElem? HXp.out))⟩, Below.refl _ _⟩
                  · have q1 : decide (p.q < 0) = false := by simpa using g1
                    by_cases g2 : n ≤ p.q
                    · have q2 : decide (n ≤ p.q) = true := by simpa using g2
                      have HNo : Hid (¬ PIn n p) := fun h => by have h1 : p.q < n := h.2; omega
                      clear g1 g2
                      go_wp2
                      go_ret
                      exact ⟨.inl ⟨rfl, fun h => HNo.out ((h r (List.mem_of_getElem? HXk.out)).2.2 p (List.mem_of_getElem? HXp.out))⟩, Below.refl _ _⟩
                    · have q2 : decide (n ≤ p.q) = false := by simpa using g2
                      have HIn : Hid (0 ≤ p.q ∧ p.q < n) := ⟨by omega, by omega⟩
                      clear g1 g2
                      have HI2 : Hid (∀ p ∈ r.ns.take (i + 1), PIn n p) := by
                        show ∀ p ∈ r.ns.take (i + 1), PIn n p
                        rw [take_snoc8 HXp.out]
                        intro x hx
                        rcases List.mem_append.1 hx with h | h
                        · exact HI7.out x h
                        · simp only [List.mem_singleton] at h; subst h; exact HIn.out
                      go_wp2
                      go_roundw
                      case rel => exact ⟨i + 1, by omega, by go_num, HI2, trivial⟩
                      case measure => simp [intOf]; omega
                · obtain rfl : i = r.ns.length := by omega
                  have hi1 : ¬ (r.ns.length : Int) < (r.ns.length : Int) := by omega
                  rw [List.take_of_length_le (Nat.le_refl _)] at HI7
                  go_wp2
                  go_roundw
                  case rel =>
                    refine ⟨k + 1, by omega, by go_num, ?_, trivial⟩
                    show ∀ r ∈ l.take (k + 1), RIn n r
                    rw [take_snoc8 HXk.out]
                    intro x hx
                    rcases List.mem_append.1 hx with h | h
                    · exact HI.out x h
                    · simp only [List.mem_singleton] at h; subst h; exact ⟨HIn.out, HI6.out, HI7.out⟩
                  case measure => simp [intOf]; omega
    · obtain rfl : k = l.length := by omega
      have hi : ¬ (l.length : Int) < (l.length : Int) := by omega
      rw [List.take_of_length_le (Nat.le_refl _)] at HI
      go_wp2
      go_ret
      exact ⟨.inr ⟨rfl, HI.out⟩, Below.refl _ _⟩
theorem BelAns.yes {n : Int} {l : List Rul} {e : Ending} (h : BelAns n l e) (hh : ∀ r ∈ l, RIn n r) : e = .returned (.bool true) := by
  rcases h with h | h
  · exact absurd hh h.2
  · exact h.1
theorem BelAns.no {n : Int} {l : List Rul} {e : Ending} (h : BelAns n l e) (hh : ¬ ∀ r ∈ l, RIn n r) : e = .returned (.bool false) := by
  rcases h with h | h
  · exact h.1
  · exact absurd h.2 hh
end Go.Proofs.Ytmbkjgfnnpopgab

namespace Go.Proofs.Ytmbkjgfnnpopgab
set_option linter.unusedSimpArgs false
set_option linter.unusedVariables false
open Go.RowKit Go.Maps

theorem edgesFrom_mem {k : Nat} {l : List Rul} {x : Edg} (h : x ∈ edgesFrom k l) : ∃ r ∈ l, ∃ p, (p ∈ r.ps ∨ p ∈ r.ns) ∧ x.f = p.q ∧ x.t = r.h.q := by
  induction l generalizing k with
  | nil => simp [edgesFrom] at h
  | cons r l ih =>
    simp only [edgesFrom, List.mem_append, edgR, List.mem_map] at h
    rcases h with (⟨p, hp, rfl⟩ | ⟨p, hp, rfl⟩) | h
    · exact ⟨r, by simp, p, .inl hp, rfl, rfl⟩
    · exact ⟨r, by simp, p, .inr hp, rfl, rfl⟩
    · obtain ⟨r', hr, rest⟩ := ih h
      exact ⟨r', by simp [hr], rest⟩

theorem edgesP_at {l : List Rul} {k : Nat} {r : Rul} (hx : l[k]? = some r) {x : Edg} (h : x ∈ edgR k r) : x ∈ edgesP l := by
  have e : edgesP l = edgesP (l.take (k + 1)) ++ edgesFrom (0 + (l.take (k + 1)).length) (l.drop (k + 1)) := by
    unfold edgesP
    rw [← edgesFrom_append, List.take_append_drop]
  rw [e, edgesP_snoc hx]
  simp [h]

theorem rules_fit {n : Nat} {l : List Rul} (hn : n ≤ 128) (h : ∀ r ∈ l, RIn n r) : fitP n (edgesP l) = true := by
  have h1 : (edgesP l).any (eOut n) = false := by
    rw [List.any_eq_false]
    intro x hx
    obtain ⟨r, hr, p, hp, e1, e2⟩ := edgesFrom_mem hx
    have h2 := h r hr
    have h3 : PIn n p := hp.elim (h2.2.1 p) (h2.2.2 p)
    have h4 := h2.1
    unfold PIn at h3 h4
    simp [eOut, eIn, inB, e1, e2]
    omega
  unfold fitP
  rw [h1]
  simp
  omega

theorem rule_pos {n : Nat} {l : List Rul} {X : Nat → Int} {k a b : Nat} {r : Rul} {p : Pat} (hX : Sol n (lnkT (edgesP l)) (lnkN (edgesP l)) X) (hx : l[k]? = some r) (hp : p ∈ r.ps) (e1 : p.q = a) (e2 : r.h.q = b) (ha : a < n) (hb : b < n) : X a ≤ X b :=
  hX.le a b ha hb (edge_lnk (e := edgOf false k r p) (edgesP_at hx (by unfold edgR; rw [List.mem_append]; exact .inl (List.mem_map.2 ⟨p, hp, rfl⟩))) e1 e2)
theorem rule_neg {n : Nat} {l : List Rul} {X : Nat → Int} {k a b : Nat} {r : Rul} {p : Pat} (hX : Sol n (lnkT (edgesP l)) (lnkN (edgesP l)) X) (hx : l[k]? = some r) (hp : p ∈ r.ns) (e1 : p.q = a) (e2 : r.h.q = b) (ha : a < n) (hb : b < n) : X a + 1 ≤ X b :=
  hX.lt a b ha hb (edge_lnkN (e := edgOf true k r p) (edgesP_at hx (by unfold edgR; rw [List.mem_append]; exact .inr (List.mem_map.2 ⟨p, hp, rfl⟩))) e1 e2 rfl)

theorem atoms_snoc {l : List Rul} {k : Nat} {r : Rul} (hx : l[k]? = some r) : ((l.take (k + 1)).map atomsN).sum = ((l.take k).map atomsN).sum + r.ps.length + r.ns.length := by
  rw [take_snoc8 hx]
  simp [atomsN]
  omega
theorem atoms_le {l : List Rul} {k : Nat} (h : (edgesP l).length ≤ 1048576) : ((l.take k).map atomsN).sum ≤ 1048576 := by
  have := edgesP_take_le l k
  rw [edgesP_length] at this
  omega
end Go.Proofs.Ytmbkjgfnnpopgab

namespace Go.Proofs.Ytmbkjgfnnpopgab
set_option linter.unusedSimpArgs false
set_option linter.unusedVariables false
open Go.RowKit Go.Maps

theorem Try.infoPat8 : (Try.prog.info? 26).map (fun i => (i.zero, i.size, i.bytes)) = some (some (.agg #[.int .i64 0, .slice none 0 0]), 2, 32) := by kernel_rfl
theorem Try.infoRul8 : (Try.prog.info? 31).map (fun i => (i.zero, i.size, i.bytes)) = some (some (.agg #[.int .i64 0, .slice none 0 0, .slice none 0 0, .slice none 0 0, .slice none 0 0, .slice none 0 0, .int .i64 0]), 7, 136) := by kernel_rfl

theorem edgesP_push (l : List Rul) (r : Rul) : edgesP (l ++ [r]) = edgesP l ++ edgR l.length r := by
  unfold edgesP
  rw [edgesFrom_append]
  simp [edgesFrom]

theorem rule_all {W : World} {R : Nat} {a b c d e f g : Value} {t : TypeId} (h : W.heap[R]? = some (.cells #[a, b, c, d, e, f, g] t (0, 0))) : W.cell? ⟨R, 0, none⟩ = some a ∧ W.cell? ⟨R, 1, none⟩ = some b ∧ W.cell? ⟨R, 2, none⟩ = some c ∧ W.cell? ⟨R, 3, none⟩ = some d ∧ W.cell? ⟨R, 4, none⟩ = some e ∧ W.cell? ⟨R, 5, none⟩ = some f ∧ W.cell? ⟨R, 6, none⟩ = some g ∧ W.frozen? ⟨R, 2, none⟩ = false ∧ W.frozen? ⟨R, 4, none⟩ = false := by simp [World.cell?, World.frozen?, h]
theorem rule_set1 {W : World} {R : Nat} {a b c d e f g : Value} {t : TypeId} (h : W.heap[R]? = some (.cells #[a, b, c, d, e, f, g] t (0, 0))) (u : Value) : (W.setCell ⟨R, 2, none⟩ u).heap[R]? = some (.cells #[a, b, u, d, e, f, g] t (0, 0)) := by simp [World.setCell, Array.getElem?_modify, h]
theorem rule_set2 {W : World} {R : Nat} {a b c d e f g : Value} {t : TypeId} (h : W.heap[R]? = some (.cells #[a, b, c, d, e, f, g] t (0, 0))) (u : Value) : (W.setCell ⟨R, 4, none⟩ u).heap[R]? = some (.cells #[a, b, c, d, u, f, g] t (0, 0)) := by simp [World.setCell, Array.getElem?_modify, h]
theorem rule_set {W : World} {R : Nat} {a b c d e f g : Value} {t : TypeId} (h : W.heap[R]? = some (.cells #[a, b, c, d, e, f, g] t (0, 0))) (u v : Value) : ((W.setCell ⟨R, 2, none⟩ u).setCell ⟨R, 4, none⟩ v).heap[R]? = some (.cells #[a, b, u, d, v, f, g] t (0, 0)) := rule_set2 (rule_set1 h u) v
theorem copy_keep {wr : World} {R : Nat} {u v : Value} {o : Obj} {b : Nat} (hb : b < wr.heap.size) (hne : b ≠ R) : (((wr.setCell ⟨R, 2, none⟩ u).setCell ⟨R, 4, none⟩ v).alloc o).heap[b]? = wr.heap[b]? := by
  rw [(belo1 ((wr.setCell ⟨R, 2, none⟩ u).setCell ⟨R, 4, none⟩ v) o).block b (by simp [World.setCell]; exact hb), Below.heap_setCell _ _ _ _ hne, Below.heap_setCell _ _ _ _ hne]

set_option maxRecDepth 100000 in
set_option maxHeartbeats 2000000 in
theorem rulesOf_any {w : World} {v : Value} {l : List Rul} (h : Has elRul w v l) :
    Calls Try.prog 6 #[v] w fun e w' => ∃ v', e = .returned v' ∧ ∃ l', Grow elRq 31 w.heap.size w' v' l' ∧ (l'.length = l.length ∧ edgesP l' = edgesP l) ∧ Below w.heap.size w w' := by
  obtain ⟨ip, hip, hp0, hp1, hp2⟩ := info_parts Try.infoPat8
  obtain ⟨ir, hir, hr0, hr1, hr2⟩ := info_parts Try.infoRul8
  obtain ⟨va, vc, rfl, -, -, hlen⟩ := h.shape
  have HL := hide h
  clear h
  go_enter Try.func6, Try.ntmps6
  go_wp2
  go_loopw [3, 4] (fun v y wl => ∃ (k : Nat) (l' : List Rul), k ≤ l.length ∧ y = .int .i64 k ∧ Hid (l'.length = k ∧ edgesP l' = edgesP (l.take k)) ∧ Hid (Grow elRq 31 w.heap.size wl v l') ∧ Hid (Below w.heap.size w wl)) (fun _ y _ => l.length - (intOf y).toNat)
  case atStart => exact ⟨0, [], by omega, rfl, ⟨rfl, by rw [List.take_zero]⟩, Grow.nil _ _ _ _, Below.refl _ _⟩
  case round =>
    obtain ⟨k, l', hk, rfl, HE, HG, HB⟩ := hrel
    obtain ⟨ma, mc, hms, -, -⟩ := HG.out.shape
    rw [HE.out.1] at hms
    subst hms
    by_cases hlt : k < l.length
    · have hi : (k : Int) < (l.length : Int) := by omega
      have hi0' : (0 : Int) ≤ (k : Int) := by omega
      obtain ⟨b, off, rfl, -, -, hrow⟩ := HL.out.row (by omega)
      obtain ⟨r, hx⟩ : ∃ r, l[k]? = some r := ⟨_, List.getElem?_eq_getElem hlt⟩
      have y0 := kept_cell HB.out (hrow k r hx 0 _ rfl)
      have y1 := kept_cell HB.out (hrow k r hx 1 _ rfl)
      have y2 := kept_cell HB.out (hrow k r hx 2 _ rfl)
      have y3 := kept_cell HB.out (hrow k r hx 3 _ rfl)
      have y4 := kept_cell HB.out (hrow k r hx 4 _ rfl)
      have y5 := kept_cell HB.out (hrow k r hx 5 _ rfl)
      have y6 := kept_cell HB.out (hrow k r hx 6 _ rfl)
      simp only [elRul, Nat.add_zero] at y0 y1 y2 y3 y4 y5 y6
      have hok := elRul_ok (HL.out.ok (List.mem_of_getElem? hx))
      obtain ⟨ra, rc, hrv, -, -, hrl⟩ := hok.2.1.shape
      obtain ⟨na, nc, hnv, -, -, hnl⟩ := hok.2.2.2.1.shape
      obtain ⟨ha0, hc0, hhv, -, -, -⟩ := (elPat_ok hok.1).2.shape
      obtain ⟨ta, tc, htv, -, -, -⟩ := hok.2.2.1.shape
      obtain ⟨sa, sc, hsv, -, -, -⟩ := hok.2.2.2.2.1.shape
      obtain ⟨hn0, hhn⟩ : ∃ n, r.h.ss.length = n := ⟨_, rfl⟩
      obtain ⟨tn, htn⟩ : ∃ n, r.ts.length = n := ⟨_, rfl⟩
      obtain ⟨sn, hsn⟩ : ∃ n, r.vs.length = n := ⟨_, rfl⟩
      rw [hhv, hhn] at y1
      rw [hrv] at y2
      rw [htv, htn] at y3
      rw [hnv] at y4
      rw [hsv, hsn] at y5
      have HXk := hide hx
      have HVs : Hid (r.h.v = .slice ha0 hn0 hc0 ∧ r.tv = .slice ta tn tc ∧ r.vv = .slice sa sn sc ∧ I64 r.h.q ∧ I64 r.c) := ⟨by rw [hhv, hhn], by rw [htv, htn], by rw [hsv, hsn], (elPat_ok hok.1).1, hok.2.2.2.2.2⟩
      have HPps : Hid (Has elPat w (.slice ra r.ps.length rc) r.ps) := by show Has elPat w _ _; rw [← hrv]; exact hok.2.1
      have HPns : Hid (Has elPat w (.slice na r.ns.length nc) r.ns) := by show Has elPat w _ _; rw [← hnv]; exact hok.2.2.2.1
      rename World => wq
      have HGm := hide HG.out
      clear HG
      obtain ⟨R, hR⟩ : ∃ R, wq.heap.size = R := ⟨_, rfl⟩
      obtain ⟨Y, hY⟩ : ∃ Y, Y = wq.alloc (.cells #[.int .i64 r.h.q, .slice ha0 hn0 hc0, .slice ra r.ps.length rc, .slice ta tn tc, .slice na r.ns.length nc, .slice sa sn sc, .int .i64 r.c] 31) := ⟨_, rfl⟩
      have HXY : Hid (∀ V : World, Below Y.heap.size Y V → V.heap[R]? = some (.cells #[.int .i64 r.h.q, .slice ha0 hn0 hc0, .slice ra r.ps.length rc, .slice ta tn tc, .slice na r.ns.length nc, .slice sa sn sc, .int .i64 r.c] 31 (0, 0))) := fun V hV => by
        have hh : Y.heap[R]? = some (.cells #[.int .i64 r.h.q, .slice ha0 hn0 hc0, .slice ra r.ps.length rc, .slice ta tn tc, .slice na r.ns.length nc, .slice sa sn sc, .int .i64 r.c] 31 (0, 0)) := by rw [hY, ← hR]; exact heap_alloc_new _ _
        rw [hV.block R (Array.getElem?_eq_some_iff.1 hh).1]
        exact hh
      have HYs : Hid (Y.heap.size = R + 1) := by rw [hY]; show (wq.heap.push _).size = _; rw [Array.size_push, hR]
      have HYb : Hid (Below wq.heap.size wq Y) := by rw [hY]; exact belo1 wq _
      have HBwY : Hid (∀ V : World, Below Y.heap.size Y V → Below w.heap.size w V) := fun V hV => by
        have h1 : Below w.heap.size w Y := HB.out.trans (HYb.out.mono HB.out.size)
        exact h1.trans (hV.mono h1.size)
      clear hrow hok hx hrv hnv hhv htv hsv hhn htn hsn
      go_wp2
      rw [← hY]
      clear hY
      go_loopw [6, 8] (fun v y wl => ∃ i : Nat, i ≤ r.ps.length ∧ y = .int .i64 i ∧ Hid (Grow elPq 26 Y.heap.size wl v (r.ps.take i)) ∧ Hid (Below Y.heap.size Y wl)) (fun _ y _ => r.ps.length - (intOf y).toNat)
      case atStart => exact ⟨0, by omega, rfl, Grow.nil _ _ _ _, Below.refl _ _⟩
      case round =>
        obtain ⟨i, hil, rfl, HG, HBi⟩ := hrel
        obtain ⟨x0, x2, x4⟩ := rule_at (HXY.out _ HBi.out)
        by_cases hlt8 : i < r.ps.length
        · have hi1 : (i : Int) < (r.ps.length : Int) := by omega
          have hi10 : (0 : Int) ≤ (i : Int) := by omega
          obtain ⟨pb, po, hpe, -, -, prow⟩ := HPps.out.row (by omega)
          cases hpe
          obtain ⟨p, hp⟩ : ∃ p, r.ps[i]? = some p := ⟨_, List.getElem?_eq_getElem hlt8⟩
          have z0 := kept_cell (HBwY.out _ HBi.out) (prow i p hp 0 _ rfl)
          have z1 := kept_cell (HBwY.out _ HBi.out) (prow i p hp 1 _ rfl)
          simp only [elPat, Nat.add_zero] at z0 z1
          have hpk := elPat_ok (HPps.out.ok (List.mem_of_getElem? hp))
          obtain ⟨qa, qc, hqv, -, -, -⟩ := hpk.2.shape
          have HO : Hid (elPq.ok (wr.alloc (.cells #[.int .i64 p.q, .slice qa p.ss.length qc] 26)) (fun b => Y.heap.size ≤ b ∧ u6.ownBlock ≠ some b) p) := ⟨hpk.1, _, _, _, hqv⟩
          have HNw : Hid (∀ (j : Nat) (u : Value), (elPq.cells p)[j]? = some u → (wr.alloc (.cells #[.int .i64 p.q, .slice qa p.ss.length qc] 26)).cell? ⟨wr.heap.size, j, none⟩ = some u) := fun j u hu => new_cells (cs := #[.int .i64 p.q, .slice qa p.ss.length qc]) j u (by rw [← hqv]; exact hu)
          rw [hqv] at z1
          have HLn : Hid ((r.ps.take i).length = i) := by show _ = _; rw [List.length_take]; omega
          have HTk := hide (take_snoc8 hp)
          obtain ⟨oa, oc, hsh, -, -⟩ := HG.out.shape
          rw [HLn.out] at hsh
          subst hsh
          have HG2 := hide (HG.out.kept (belo1 wr (.cells #[.int .i64 p.q, .slice qa p.ss.length qc] 26)))
          have HB2 := hide (HBi.out.alloc HBi.out.size (.cells #[.int .i64 p.q, .slice qa p.ss.length qc] 26))
          have HS2 := hide HB2.out.size
          obtain ⟨L, hL⟩ : ∃ L, r.ps.take i = L := ⟨_, rfl⟩
          rw [hL] at HG2 HTk HLn
          clear prow hp HG hL hpk hqv
          go_wp2_with (at_builtin; refine wpList_push (w0 := Y) elPq rfl _ _ 27 rfl Y.heap.size 26 ip _ 32 Try.underlying27 hip hp0 hp1 hp2 rfl (by decide) _ L i HLn.out rfl HG2.out p wr.heap.size 1 rfl HNw.out HO.out (by omega) HB2.out HS2.out ?_)
          intro g cap' w1 HG1 HB1 HGr
          clear HGr
          go_wp2
          go_roundw
          case rel => exact ⟨i + 1, by omega, by go_num, by rw [HTk.out]; exact HG1, HB1⟩
          case measure => simp [intOf]; omega
        · obtain rfl : i = r.ps.length := by omega
          have hi1 : ¬ (r.ps.length : Int) < (r.ps.length : Int) := by omega
          rw [List.take_of_length_le (Nat.le_refl _)] at HG
          go_wp2
          rename World => W1
          have HG6 := hide HG.out
          obtain ⟨pa6, pc6, hs6, -, -⟩ := HG6.out.shape
          subst hs6
          have HBW1 := hide HBi.out
          have HXW1 : Hid (∀ V : World, Below W1.heap.size W1 V → V.heap[R]? = some (.cells #[.int .i64 r.h.q, .slice ha0 hn0 hc0, .slice ra r.ps.length rc, .slice ta tn tc, .slice na r.ns.length nc, .slice sa sn sc, .int .i64 r.c] 31 (0, 0))) := fun V hV => HXY.out V (HBW1.out.trans (hV.mono HBW1.out.size))
          have HBwW1 : Hid (∀ V : World, Below W1.heap.size W1 V → Below w.heap.size w V) := fun V hV => HBwY.out V (HBW1.out.trans (hV.mono HBW1.out.size))
          clear HG HBi x0 x2 x4
          go_loopw [7, 9] (fun v y wl => ∃ i : Nat, i ≤ r.ns.length ∧ y = .int .i64 i ∧ Hid (Grow elPq 26 W1.heap.size wl v (r.ns.take i)) ∧ Hid (Below W1.heap.size W1 wl)) (fun _ y _ => r.ns.length - (intOf y).toNat)
          case atStart => exact ⟨0, by omega, rfl, Grow.nil _ _ _ _, Below.refl _ _⟩
          case round =>
            obtain ⟨i, hil, rfl, HG, HBi⟩ := hrel
            obtain ⟨x0, x2, x4⟩ := rule_at (HXW1.out _ HBi.out)
            by_cases hlt9 : i < r.ns.length
            · have hi1 : (i : Int) < (r.ns.length : Int) := by omega
              have hi10 : (0 : Int) ≤ (i : Int) := by omega
              obtain ⟨pb, po, hpe, -, -, prow⟩ := HPns.out.row (by omega)
              cases hpe
              obtain ⟨p, hp⟩ : ∃ p, r.ns[i]? = some p := ⟨_, List.getElem?_eq_getElem hlt9⟩
              have z0 := kept_cell (HBwW1.out _ HBi.out) (prow i p hp 0 _ rfl)
              have z1 := kept_cell (HBwW1.out _ HBi.out) (prow i p hp 1 _ rfl)
              simp only [elPat, Nat.add_zero] at z0 z1
              have hpk := elPat_ok (HPns.out.ok (List.mem_of_getElem? hp))
              obtain ⟨qa, qc, hqv, -, -, -⟩ := hpk.2.shape
              have HO : Hid (elPq.ok (wr.alloc (.cells #[.int .i64 p.q, .slice qa p.ss.length qc] 26)) (fun b => W1.heap.size ≤ b ∧ u7.ownBlock ≠ some b) p) := ⟨hpk.1, _, _, _, hqv⟩
              have HNw : Hid (∀ (j : Nat) (u : Value), (elPq.cells p)[j]? = some u → (wr.alloc (.cells #[.int .i64 p.q, .slice qa p.ss.length qc] 26)).cell? ⟨wr.heap.size, j, none⟩ = some u) := fun j u hu => new_cells (cs := #[.int .i64 p.q, .slice qa p.ss.length qc]) j u (by rw [← hqv]; exact hu)
              rw [hqv] at z1
              have HLn : Hid ((r.ns.take i).length = i) := by show _ = _; rw [List.length_take]; omega
              have HTk := hide (take_snoc8 hp)
              obtain ⟨oa, oc, hsh, -, -⟩ := HG.out.shape
              rw [HLn.out] at hsh
              subst hsh
              have HG2 := hide (HG.out.kept (belo1 wr (.cells #[.int .i64 p.q, .slice qa p.ss.length qc] 26)))
              have HB2 := hide (HBi.out.alloc HBi.out.size (.cells #[.int .i64 p.q, .slice qa p.ss.length qc] 26))
              have HS2 := hide HB2.out.size
              obtain ⟨L, hL⟩ : ∃ L, r.ns.take i = L := ⟨_, rfl⟩
              rw [hL] at HG2 HTk HLn
              clear prow hp HG hL hpk hqv
              go_wp2_with (at_builtin; refine wpList_push (w0 := W1) elPq rfl _ _ 27 rfl W1.heap.size 26 ip _ 32 Try.underlying27 hip hp0 hp1 hp2 rfl (by decide) _ L i HLn.out rfl HG2.out p wr.heap.size 1 rfl HNw.out HO.out (by omega) HB2.out HS2.out ?_)
              intro g cap' w1 HG1 HB1 HGr
              clear HGr
              go_wp2
              go_roundw
              case rel => exact ⟨i + 1, by omega, by go_num, by rw [HTk.out]; exact HG1, HB1⟩
              case measure => simp [intOf]; omega
            · obtain rfl : i = r.ns.length := by omega
              have hi1 : ¬ (r.ns.length : Int) < (r.ns.length : Int) := by omega
              rw [List.take_of_length_le (Nat.le_refl _)] at HG
              obtain ⟨pa7, pc7, hs7, -, -⟩ := HG.out.shape
              subst hs7
              clear x0 x2 x4
              have hX2 := HXW1.out _ HBi.out
              obtain ⟨c0, c1, c2, c3, c4, c5, c6, f2, f4⟩ := rule_all hX2
              obtain ⟨-, -, -, -, d4, -, -, -, g4⟩ := rule_all (rule_set1 hX2 (.slice pa6 r.ps.length pc6))
              obtain ⟨e0, e1, e2, e3, e4, e5, e6, -, -⟩ := rule_all (rule_set hX2 (.slice pa6 r.ps.length pc6) (.slice pa7 r.ns.length pc7))
              have hbq : Below wq.heap.size wq wr := HYb.out.trans ((HBW1.out.trans (HBi.out.mono HBW1.out.size)).mono HYb.out.size)
              have hb3 : Below wq.heap.size wq ((wr.setCell ⟨R, 2, none⟩ (.slice pa6 r.ps.length pc6)).setCell ⟨R, 4, none⟩ (.slice pa7 r.ns.length pc7)) := (hbq.setCell (by show wq.heap.size ≤ R; omega) _).setCell (by show wq.heap.size ≤ R; omega) _
              have HG2 := hide ((HGm.out.kept hb3).kept (belo1 ((wr.setCell ⟨R, 2, none⟩ (.slice pa6 r.ps.length pc6)).setCell ⟨R, 4, none⟩ (.slice pa7 r.ns.length pc7)) (.cells #[.int .i64 r.h.q, .slice ha0 hn0 hc0, .slice pa6 r.ps.length pc6, .slice ta tn tc, .slice pa7 r.ns.length pc7, .slice sa sn sc, .int .i64 r.c] 31)))
              have hwR : w.heap.size ≤ R := by have := HB.out.size; omega
              have hbw : Below w.heap.size w ((wr.setCell ⟨R, 2, none⟩ (.slice pa6 r.ps.length pc6)).setCell ⟨R, 4, none⟩ (.slice pa7 r.ns.length pc7)) := ((HBwW1.out _ HBi.out).setCell hwR _).setCell hwR _
              have HB2 := hide (hbw.alloc hbw.size (.cells #[.int .i64 r.h.q, .slice ha0 hn0 hc0, .slice pa6 r.ps.length pc6, .slice ta tn tc, .slice pa7 r.ns.length pc7, .slice sa sn sc, .int .i64 r.c] 31))
              have HS2 := hide HB2.out.size
              have hzz : ((wr.setCell ⟨R, 2, none⟩ (.slice pa6 r.ps.length pc6)).setCell ⟨R, 4, none⟩ (.slice pa7 r.ns.length pc7)).heap.size = wr.heap.size := by simp [World.setCell]
              have HNa : Hid (∀ (j : Nat) (u : Value), (elRq.cells (⟨r.h, .slice pa6 r.ps.length pc6, r.ps, r.tv, r.ts, .slice pa7 r.ns.length pc7, r.ns, r.vv, r.vs, r.c⟩ : Rul))[j]? = some u → (((wr.setCell ⟨R, 2, none⟩ (.slice pa6 r.ps.length pc6)).setCell ⟨R, 4, none⟩ (.slice pa7 r.ns.length pc7)).alloc (.cells #[.int .i64 r.h.q, .slice ha0 hn0 hc0, .slice pa6 r.ps.length pc6, .slice ta tn tc, .slice pa7 r.ns.length pc7, .slice sa sn sc, .int .i64 r.c] 31)).cell? ⟨wr.heap.size, j, none⟩ = some u) := fun j u hu => by
                rw [← hzz]
                exact new_cells (cs := #[.int .i64 r.h.q, .slice ha0 hn0 hc0, .slice pa6 r.ps.length pc6, .slice ta tn tc, .slice pa7 r.ns.length pc7, .slice sa sn sc, .int .i64 r.c]) j u (by rw [← HVs.out.1, ← HVs.out.2.1, ← HVs.out.2.2.1]; exact hu)
              have HNb : Hid (∀ (j : Nat) (u : Value), (elRq.cells (⟨r.h, .slice pa6 r.ps.length pc6, r.ps, r.tv, r.ts, .slice pa7 r.ns.length pc7, r.ns, r.vv, r.vs, r.c⟩ : Rul))[j]? = some u → (((wr.setCell ⟨R, 2, none⟩ (.slice pa6 r.ps.length pc6)).setCell ⟨R, 4, none⟩ (.slice pa7 r.ns.length pc7)).alloc (.cells #[.int .i64 r.h.q, .slice ha0 hn0 hc0, .slice pa6 r.ps.length pc6, .slice ta tn tc, .slice pa7 r.ns.length pc7, .slice sa sn sc, .int .i64 r.c] 31)).cell? ⟨((wr.setCell ⟨R, 2, none⟩ (.slice pa6 r.ps.length pc6)).setCell ⟨R, 4, none⟩ (.slice pa7 r.ns.length pc7)).heap.size, j, none⟩ = some u) := fun j u hu => by
                rw [hzz]
                exact HNa.out j u hu
              have hkeep : ∀ b, b < wr.heap.size → Y.heap.size ≤ b → (w.heap.size ≤ b ∧ (Value.slice ma k mc).ownBlock ≠ some b) ∧ (((wr.setCell ⟨R, 2, none⟩ (.slice pa6 r.ps.length pc6)).setCell ⟨R, 4, none⟩ (.slice pa7 r.ns.length pc7)).alloc (.cells #[.int .i64 r.h.q, .slice ha0 hn0 hc0, .slice pa6 r.ps.length pc6, .slice ta tn tc, .slice pa7 r.ns.length pc7, .slice sa sn sc, .int .i64 r.c] 31)).heap[b]? = wr.heap[b]? := fun b hb hy => by
                have hy2 := HYs.out
                refine ⟨⟨by omega, fun e => ?_⟩, copy_keep hb (by omega)⟩
                have := own_lt6 HGm.out.1 b e
                omega
              have hL6 := (HG6.out.kept HBi.out).new hrl
              have hL7 := HG.out.new hnl
              have HO : Hid (elRq.ok (((wr.setCell ⟨R, 2, none⟩ (.slice pa6 r.ps.length pc6)).setCell ⟨R, 4, none⟩ (.slice pa7 r.ns.length pc7)).alloc (.cells #[.int .i64 r.h.q, .slice ha0 hn0 hc0, .slice pa6 r.ps.length pc6, .slice ta tn tc, .slice pa7 r.ns.length pc7, .slice sa sn sc, .int .i64 r.c] 31)) (fun b => w.heap.size ≤ b ∧ (Value.slice ma k mc).ownBlock ≠ some b) (⟨r.h, .slice pa6 r.ps.length pc6, r.ps, r.tv, r.ts, .slice pa7 r.ns.length pc7, r.ns, r.vv, r.vs, r.c⟩ : Rul)) :=
                ⟨⟨HVs.out.2.2.2.1, _, _, _, HVs.out.1⟩, hL6.move hkeep, ⟨_, _, _, HVs.out.2.1⟩, hL7.move (fun b hb hy => hkeep b hb (Nat.le_trans HBW1.out.size hy)), ⟨_, _, _, HVs.out.2.2.1⟩, HVs.out.2.2.2.2⟩
              have HLn : Hid (l'.length = k) := HE.out.1
              have HEn : Hid ((l' ++ [(⟨r.h, .slice pa6 r.ps.length pc6, r.ps, r.tv, r.ts, .slice pa7 r.ns.length pc7, r.ns, r.vv, r.vs, r.c⟩ : Rul)]).length = k + 1 ∧ edgesP (l' ++ [(⟨r.h, .slice pa6 r.ps.length pc6, r.ps, r.tv, r.ts, .slice pa7 r.ns.length pc7, r.ns, r.vv, r.vs, r.c⟩ : Rul)]) = edgesP (l.take (k + 1))) := ⟨by rw [List.length_append, HE.out.1]; rfl, by rw [edgesP_push, edgesP_snoc HXk.out, HE.out.1, HE.out.2]; rfl⟩
              clear hX2 hbq hb3 hbw hkeep hL6 hL7 HG HG6 HBi HXW1 HXY HBwW1 HBwY HPps HPns HE HYs y0 y1 y2 y3 y4 y5 y6
              go_wp2_with (at_builtin; refine wpList_push (w0 := w) elRq rfl _ _ 22 rfl w.heap.size 31 ir _ 136 Try.underlying22 hir hr0 hr1 hr2 rfl (by decide) _ l' k HLn.out rfl HG2.out (⟨r.h, .slice pa6 r.ps.length pc6, r.ps, r.tv, r.ts, .slice pa7 r.ns.length pc7, r.ns, r.vv, r.vs, r.c⟩ : Rul) _ 1 rfl (by first | with_reducible exact HNa.out | with_reducible exact HNb.out) HO.out (by omega) HB2.out HS2.out ?_)
              intro g cap' w1 HG1 HB1 HGr
              clear HGr
              go_wp2
              go_roundw
              case rel => exact ⟨k + 1, _, by omega, by go_num, HEn, HG1, HB1⟩
              case measure => simp [intOf]; omega
    · obtain rfl : k = l.length := by omega
      have hi : ¬ (l.length : Int) < (l.length : Int) := by omega
      have HE2 := HE.out
      rw [List.take_of_length_le (Nat.le_refl _)] at HE2
      go_wp2
      go_ret
      exact ⟨_, rfl, l', HG.out, HE2, HB.out⟩
end Go.Proofs.Ytmbkjgfnnpopgab

namespace Go.Proofs.Ytmbkjgfnnpopgab
set_option linter.unusedSimpArgs false
set_option linter.unusedVariables false
open Go.RowKit Go.Maps

set_option maxRecDepth 100000 in
set_option maxHeartbeats 4000000 in
theorem strataRules_walk (n : Int) (v : Value) (l : List Rul) (w : World) (hn : I64 n) (h : Has elRul w v l) (hes : l.length ≤ 1048576 ∧ (edgesP l).length ≤ 1048576) :
    Calls Try.prog 3 #[.int .i64 n, v] w fun e w' => e = .returned (.bool true) ∧ Below w.heap.size w w' := by
  obtain ⟨va, vc, rfl, -, -, hlen⟩ := h.shape
  have HL : Hid (∀ V : World, Below w.heap.size w V → Has elRul V (.slice va l.length vc) l) := fun V hV => h.kept hV
  have HBe := hide (below_any h n)
  have HEl := hide hes.2
  have hll := hes.1
  clear h hes
  by_cases h0 : n < 0
  · have q1 : decide (n < 0) = true := by simpa using h0
    clear h0
    go_enter Try.func3, Try.ntmps3
    go_wp2
    go_ret
    exact ⟨rfl, Below.refl _ _⟩
  by_cases h1 : 128 < n
  · have q1 : decide (n < 0) = false := by simpa using h0
    have q2 : decide (128 < n) = true := by simpa using h1
    clear h0 h1
    go_enter Try.func3, Try.ntmps3
    go_wp2
    go_ret
    exact ⟨rfl, Below.refl _ _⟩
  obtain ⟨k, rfl⟩ : ∃ k : Nat, n = k := ⟨n.toNat, by omega⟩
  have hk : k ≤ 128 := by omega
  have q1 : decide ((k : Int) < 0) = false := by simp
  have q2 : decide ((128 : Int) < (k : Int)) = false := by simp; omega
  clear h0 h1 hn
  rcases Classical.em (∀ r ∈ l, RIn k r) with hin | hin
  · have HIn := hide hin
    clear hin
    go_enter Try.func3, Try.ntmps3
    go_wp2_with (go_at_call 4; refine HBe.out.mono ?_; rintro e V ⟨ha, b1⟩; have he := ha.yes HIn.out; subst he; have HBx := hide b1; clear ha b1 HBe)
    go_loopw [5, 6] (fun a y wl => ∃ i : Nat, i ≤ l.length ∧ y = .int .i64 i ∧ a = .int .i64 ((((l.take i).map atomsN).sum : Nat) : Int) ∧ Hid (Below w.heap.size w wl)) (fun _ y _ => l.length - (intOf y).toNat)
    case atStart => exact ⟨0, by omega, rfl, rfl, HBx⟩
    case round =>
      clear HBx
      obtain ⟨i, hil, rfl, rfl, HBx⟩ := hrel
      by_cases hlt : i < l.length
      · have hi : (i : Int) < (l.length : Int) := by omega
        have hi0 : (0 : Int) ≤ (i : Int) := by omega
        obtain ⟨b, off, hvE, -, -, hrow⟩ := (HL.out _ HBx.out).row (by omega)
        cases hvE
        obtain ⟨r, hx⟩ : ∃ r, l[i]? = some r := ⟨_, List.getElem?_eq_getElem hlt⟩
        have y2 := hrow i r hx 2 _ rfl
        have y4 := hrow i r hx 4 _ rfl
        simp only [elRul] at y2 y4
        have hok := elRul_ok ((HL.out _ HBx.out).ok (List.mem_of_getElem? hx))
        obtain ⟨ra, rc, hrv, -, -, hrl⟩ := hok.2.1.shape
        obtain ⟨na, nc, hnv, -, -, hnl⟩ := hok.2.2.2.1.shape
        rw [hrv] at y2
        rw [hnv] at y4
        have hle := atoms_le (k := i + 1) HEl.out
        have HSn := hide (atoms_snoc hx)
        rw [HSn.out] at hle
        obtain ⟨S, hS⟩ : ∃ S, ((l.take i).map atomsN).sum = S := ⟨_, rfl⟩
        rw [hS] at hle HSn ⊢
        clear hrow hok hx hrv hnv hS
        go_wp2
        go_quiet (fail)
        go_wp2
        go_roundw
        case rel => exact ⟨i + 1, by omega, by go_num, by rw [HSn.out]; go_num, ⟨HBx.out.os, HBx.out.tape, HBx.out.output, HBx.out.size, HBx.out.block⟩⟩
        case measure => simp [intOf]; omega
      · obtain rfl : i = l.length := by omega
        have hi : ¬ (l.length : Int) < (l.length : Int) := by omega
        rw [List.take_of_length_le (Nat.le_refl _), ← edgesP_length]
        obtain ⟨es, he⟩ : ∃ es, edgesP l = es := ⟨_, rfl⟩
        have HEq := hide he
        have hel : es.length ≤ 1048576 := by rw [← he]; exact HEl.out
        have HFt : Hid (fitP k es = true) := by rw [← he]; exact rules_fit hk HIn.out
        have HId := hide (fit_in8 HFt.out).2
        rw [he]
        clear he
        rcases Classical.em (HasBad k es) with hb | hb
        · have HBd := hide hb
          clear hb
          go_wp2_with (first
            | (go_at_call 6; (with_reducible refine (rulesOf_any (HL.out _ HBx.out)).mono ?_); rintro e V ⟨v1, rfl, l1, hg, ⟨hl1, he1⟩, b1⟩; obtain ⟨ga, gc, rfl, -, -⟩ := hg.shape; have HR1 := hide (hg.list (by omega)); have HE1 := hide (he1.trans HEq.out); replace HBx := hide (HBx.out.trans (b1.mono HBx.out.size)); clear hg hl1 he1 b1)
            | (go_at_call 5; (with_reducible refine (sedges_any HR1.out (by rw [HE1.out]; exact hel)).mono ?_); rintro e VE ⟨v2, rfl, hg, b1⟩; rw [HE1.out] at hg; obtain ⟨ea, ec, rfl, -, -⟩ := hg.shape; have HLe : Hid (∀ V' : World, Below VE.heap.size VE V' → Has elEdg V' (.slice ea es.length ec) es) := (fun V' hV => (hg.list (by omega)).kept hV); have HBv := hide (Below.refl VE.heap.size VE); replace HBx := hide (HBx.out.trans (b1.mono HBx.out.size)); clear hg b1 HR1 HE1)
            | (go_at_call 7; (with_reducible refine (lfit_any (HLe.out _ HBv.out) (k : Int)).mono ?_); rw [HFt.out]; rintro e V ⟨rfl, b3⟩; replace HBx := hide (HBx.out.trans (b3.mono HBx.out.size)); (try replace HBv := hide (HBv.out.trans (b3.mono HBv.out.size))); clear b3)
            | (go_at_call 9; (with_reducible refine (edges_any (HLe.out _ HBv.out)).mono ?_); rintro e V ⟨g1, rfl, hg1, b1⟩; obtain ⟨ga1, gc1, rfl, -, -⟩ := hg1.shape; have HGe := hide (hg1.list (by omega)); replace HBx := hide (HBx.out.trans (b1.mono HBx.out.size)); (try replace HBv := hide (HBv.out.trans (b1.mono HBv.out.size))); clear hg1 b1)
            | (go_at_call 8; (with_reducible refine (levels_bad HGe.out HFt.out HBd.out).mono ?_); rintro e V ⟨rfl, b3⟩; replace HBx := hide (HBx.out.trans (b3.mono HBx.out.size)); (try replace HBv := hide (HBv.out.trans (b3.mono HBv.out.size))); clear b3 HGe)
            | (go_at_call 11; (with_reducible refine (firstCycle_bad (HLe.out _ HBv.out) HFt.out HBd.out).mono ?_); rintro e V ⟨wv, rfl, W, hW, hc, b3⟩; obtain ⟨wa, wb, rfl, -, -, -⟩ := hW.shape; have HWl := hide hW; have HCy := hide hc; have HGk := hide (HGe.out.kept b3); replace HBx := hide (HBx.out.trans (b3.mono HBx.out.size)); (try replace HBv := hide (HBv.out.trans (b3.mono HBv.out.size))); clear hW hc b3)
            | (go_at_call 10; (with_reducible refine (cyclic_any HGk.out HWl.out (k : Int)).mono ?_); rw [HCy.out]; rintro e V ⟨rfl, b3⟩; replace HBx := hide (HBx.out.trans (b3.mono HBx.out.size)); clear b3))
          go_ret
          exact ⟨rfl, HBx.out⟩
        · have HBd := hide hb
          clear hb
          go_wp2_with (first
            | (go_at_call 6; (with_reducible refine (rulesOf_any (HL.out _ HBx.out)).mono ?_); rintro e V ⟨v1, rfl, l1, hg, ⟨hl1, he1⟩, b1⟩; obtain ⟨ga, gc, rfl, -, -⟩ := hg.shape; have HR1 := hide (hg.list (by omega)); have HE1 := hide (he1.trans HEq.out); replace HBx := hide (HBx.out.trans (b1.mono HBx.out.size)); clear hg hl1 he1 b1)
            | (go_at_call 5; (with_reducible refine (sedges_any HR1.out (by rw [HE1.out]; exact hel)).mono ?_); rintro e VE ⟨v2, rfl, hg, b1⟩; rw [HE1.out] at hg; obtain ⟨ea, ec, rfl, -, -⟩ := hg.shape; have HLe : Hid (∀ V' : World, Below VE.heap.size VE V' → Has elEdg V' (.slice ea es.length ec) es) := (fun V' hV => (hg.list (by omega)).kept hV); have HBv := hide (Below.refl VE.heap.size VE); replace HBx := hide (HBx.out.trans (b1.mono HBx.out.size)); clear hg b1 HR1 HE1)
            | (go_at_call 7; (with_reducible refine (lfit_any (HLe.out _ HBv.out) (k : Int)).mono ?_); rw [HFt.out]; rintro e V ⟨rfl, b3⟩; replace HBx := hide (HBx.out.trans (b3.mono HBx.out.size)); (try replace HBv := hide (HBv.out.trans (b3.mono HBv.out.size))); clear b3)
            | (go_at_call 9; (with_reducible refine (edges_any (HLe.out _ HBv.out)).mono ?_); rintro e V ⟨g1, rfl, hg1, b1⟩; obtain ⟨ga1, gc1, rfl, -, -⟩ := hg1.shape; have HGe := hide (hg1.list (by omega)); replace HBx := hide (HBx.out.trans (b1.mono HBx.out.size)); (try replace HBv := hide (HBv.out.trans (b1.mono HBv.out.size))); clear hg1 b1)
            | (go_at_call 8; (with_reducible refine (levels_good HGe.out HFt.out HBd.out).mono ?_); rintro e VL ⟨r1, X, rfl, hr, hl, b3⟩; have HR1 := hide hr; have HX1 := hide hl; have HTw : Hid (∀ V : World, Below VL.heap.size VL V → Below w.heap.size w V) := (fun V hV => (HBx.out.trans (b3.mono HBx.out.size)).trans (hV.mono (HBx.out.trans (b3.mono HBx.out.size)).size)); have HTe : Hid (∀ V : World, Below VL.heap.size VL V → Below VE.heap.size VE V) := (fun V hV => (HBv.out.trans (b3.mono HBv.out.size)).trans (hV.mono (HBv.out.trans (b3.mono HBv.out.size)).size)); clear b3 hr hl HGe HBx HBv))
          go_loopw [10] (fun y wl => ∃ i : Nat, i ≤ l.length ∧ y = .int .i64 i ∧ Hid (Below VL.heap.size VL wl)) (fun y _ => l.length - (intOf y).toNat)
          case atStart => exact ⟨0, by omega, rfl, Below.refl _ _⟩
          case round =>
            obtain ⟨i, hil, rfl, HBo⟩ := hrel
            by_cases hlt : i < l.length
            · have hi : (i : Int) < (l.length : Int) := by omega
              have hi0 : (0 : Int) ≤ (i : Int) := by omega
              rename World => wq
              obtain ⟨b, off, hvE, -, -, hrow⟩ := (HL.out _ (HTw.out _ HBo.out)).row (by omega)
              cases hvE
              obtain ⟨r, hx⟩ : ∃ r, l[i]? = some r := ⟨_, List.getElem?_eq_getElem hlt⟩
              have y0 := hrow i r hx 0 _ rfl
              have y1 := hrow i r hx 1 _ rfl
              have y2 := hrow i r hx 2 _ rfl
              have y3 := hrow i r hx 3 _ rfl
              have y4 := hrow i r hx 4 _ rfl
              have y5 := hrow i r hx 5 _ rfl
              have y6 := hrow i r hx 6 _ rfl
              simp only [elRul, Nat.add_zero] at y0 y1 y2 y3 y4 y5 y6
              have hok := elRul_ok ((HL.out w (Below.refl _ _)).ok (List.mem_of_getElem? hx))
              obtain ⟨ra, rc, hrv, -, -, hrl⟩ := hok.2.1.shape
              obtain ⟨na, nc, hnv, -, -, hnl⟩ := hok.2.2.2.1.shape
              obtain ⟨ha0, hc0, hhv, -, -, -⟩ := (elPat_ok hok.1).2.shape
              obtain ⟨ta, tc, htv, -, -, -⟩ := hok.2.2.1.shape
              obtain ⟨sa, sc, hsv, -, -, -⟩ := hok.2.2.2.2.1.shape
              obtain ⟨hn0, hhn⟩ : ∃ n, r.h.ss.length = n := ⟨_, rfl⟩
              obtain ⟨tn, htn⟩ : ∃ n, r.ts.length = n := ⟨_, rfl⟩
              obtain ⟨sn, hsn⟩ : ∃ n, r.vs.length = n := ⟨_, rfl⟩
              rw [hhv, hhn] at y1
              rw [hrv] at y2
              rw [htv, htn] at y3
              rw [hnv] at y4
              rw [hsv, hsn] at y5
              have HXk := hide hx
              have HRi := hide (HIn.out r (List.mem_of_getElem? hx))
              have hph : 0 ≤ r.h.q ∧ r.h.q < k := HRi.out.1
              obtain ⟨kb, hkb⟩ : ∃ kb : Nat, r.h.q = kb := ⟨r.h.q.toNat, by omega⟩
              have hkbk : kb < k := by omega
              have hkb0 : (0 : Int) ≤ (kb : Int) := by omega
              have hkb1 : (kb : Int) < (k : Int) := by omega
              have HKb := hide hkb
              rw [hkb] at y0
              have HPps : Hid (Has elPat w (.slice ra r.ps.length rc) r.ps) := by show Has elPat w _ _; rw [← hrv]; exact hok.2.1
              have HPns : Hid (Has elPat w (.slice na r.ns.length nc) r.ns) := by show Has elPat w _ _; rw [← hnv]; exact hok.2.2.2.1
              obtain ⟨R, hR⟩ : ∃ R, wq.heap.size = R := ⟨_, rfl⟩
              obtain ⟨Y, hY⟩ : ∃ Y, Y = wq.alloc (.cells #[.int .i64 (kb : Int), .slice ha0 hn0 hc0, .slice ra r.ps.length rc, .slice ta tn tc, .slice na r.ns.length nc, .slice sa sn sc, .int .i64 r.c] 31) := ⟨_, rfl⟩
              have HXY : Hid (∀ V : World, Below Y.heap.size Y V → V.heap[R]? = some (.cells #[.int .i64 (kb : Int), .slice ha0 hn0 hc0, .slice ra r.ps.length rc, .slice ta tn tc, .slice na r.ns.length nc, .slice sa sn sc, .int .i64 r.c] 31 (0, 0))) := fun V hV => by
                have hh : Y.heap[R]? = some (.cells #[.int .i64 (kb : Int), .slice ha0 hn0 hc0, .slice ra r.ps.length rc, .slice ta tn tc, .slice na r.ns.length nc, .slice sa sn sc, .int .i64 r.c] 31 (0, 0)) := by rw [hY, ← hR]; exact heap_alloc_new _ _
                rw [hV.block R (Array.getElem?_eq_some_iff.1 hh).1]
                exact hh
              have HTY : Hid (∀ V : World, Below Y.heap.size Y V → Below VL.heap.size VL V) := fun V hV => by
                have h1 : Below wq.heap.size wq Y := by rw [hY]; exact belo1 wq _
                have h2 : Below VL.heap.size VL Y := HBo.out.trans (h1.mono HBo.out.size)
                exact h2.trans (hV.mono h2.size)
              clear hrow hok hx hrv hnv hhv htv hsv hhn htn hsn hph hkb
              go_wp2
              rw [← hY]
              clear hY y0 y1 y2 y3 y4 y5 y6
              go_loopw [12] (fun y wl => ∃ i : Nat, i ≤ r.ps.length ∧ y = .int .i64 i ∧ Hid (Below Y.heap.size Y wl)) (fun y _ => r.ps.length - (intOf y).toNat)
              case atStart => exact ⟨0, by omega, rfl, Below.refl _ _⟩
              case round =>
                obtain ⟨j, hjl, rfl, HBi⟩ := hrel
                obtain ⟨x0, x2, x4⟩ := rule_at (HXY.out _ HBi.out)
                by_cases hlt12 : j < r.ps.length
                · have hj1 : (j : Int) < (r.ps.length : Int) := by omega
                  have hj0 : (0 : Int) ≤ (j : Int) := by omega
                  obtain ⟨pb, po, hpe, -, -, prow⟩ := HPps.out.row (by omega)
                  cases hpe
                  obtain ⟨p, hp⟩ : ∃ p, r.ps[j]? = some p := ⟨_, List.getElem?_eq_getElem hlt12⟩
                  have z0 := kept_cell (HTw.out _ (HTY.out _ HBi.out)) (prow j p hp 0 _ rfl)
                  simp only [elPat, Nat.add_zero] at z0
                  have hpm := List.mem_of_getElem? hp
                  have hpi : PIn k p := (HRi.out.2.1) p hpm
                  obtain ⟨ka, hka⟩ : ∃ ka : Nat, p.q = ka := ⟨p.q.toNat, by have : 0 ≤ p.q := hpi.1; omega⟩
                  have hkak : ka < k := by have : p.q < k := hpi.2; omega
                  have hcmp := rule_pos (show Sol k (lnkT (edgesP l)) (lnkN (edgesP l)) X by rw [HEq.out]; exact HX1.out.1.toSol) HXk.out hpm hka HKb.out hkak hkbk
                  rw [hka] at z0
                  have hka0 : (0 : Int) ≤ (ka : Int) := by omega
                  have hka1 : (ka : Int) < (k : Int) := by omega
                  have t0 := (HR1.out.of_block ((HTY.out _ HBi.out).block _ HR1.out.lt)).cell hkbk
                  have t1 := (HR1.out.of_block ((HTY.out _ HBi.out).block _ HR1.out.lt)).cell hkak
                  obtain ⟨xa, hxa⟩ : ∃ x, X ka = x := ⟨_, rfl⟩
                  obtain ⟨xb, hxb⟩ : ∃ x, X kb = x := ⟨_, rfl⟩
                  rw [hxb] at t0 hcmp
                  rw [hxa] at t1 hcmp
                  have hq : decide (xb < xa) = false := by simp; omega
                  clear hcmp hxa hxb hka prow hp hpm hpi
                  go_wp2
                  go_quiet (fail)
                  go_wp2
                  go_roundw
                  case rel => exact ⟨j + 1, by omega, by go_num, ⟨HBi.out.os, HBi.out.tape, HBi.out.output, HBi.out.size, HBi.out.block⟩⟩
                  case measure => simp [intOf]; omega
                · obtain rfl : j = r.ps.length := by omega
                  have hj1 : ¬ (r.ps.length : Int) < (r.ps.length : Int) := by omega
                  go_wp2
                  go_loopw [13] (fun y wl => ∃ i : Nat, i ≤ r.ns.length ∧ y = .int .i64 i ∧ Hid (Below Y.heap.size Y wl)) (fun y _ => r.ns.length - (intOf y).toNat)
                  case atStart => exact ⟨0, by omega, rfl, HBi⟩
                  case round =>
                    obtain ⟨j, hjl, rfl, HBi⟩ := hrel
                    obtain ⟨x0, x2, x4⟩ := rule_at (HXY.out _ HBi.out)
                    by_cases hlt13 : j < r.ns.length
                    · have hj1 : (j : Int) < (r.ns.length : Int) := by omega
                      have hj0 : (0 : Int) ≤ (j : Int) := by omega
                      obtain ⟨pb, po, hpe, -, -, prow⟩ := HPns.out.row (by omega)
                      cases hpe
                      obtain ⟨p, hp⟩ : ∃ p, r.ns[j]? = some p := ⟨_, List.getElem?_eq_getElem hlt13⟩
                      have z0 := kept_cell (HTw.out _ (HTY.out _ HBi.out)) (prow j p hp 0 _ rfl)
                      simp only [elPat, Nat.add_zero] at z0
                      have hpm := List.mem_of_getElem? hp
                      have hpi : PIn k p := (HRi.out.2.2) p hpm
                      obtain ⟨ka, hka⟩ : ∃ ka : Nat, p.q = ka := ⟨p.q.toNat, by have : 0 ≤ p.q := hpi.1; omega⟩
                      have hkak : ka < k := by have : p.q < k := hpi.2; omega
                      have hcmp := rule_neg (show Sol k (lnkT (edgesP l)) (lnkN (edgesP l)) X by rw [HEq.out]; exact HX1.out.1.toSol) HXk.out hpm hka HKb.out hkak hkbk
                      rw [hka] at z0
                      have hka0 : (0 : Int) ≤ (ka : Int) := by omega
                      have hka1 : (ka : Int) < (k : Int) := by omega
                      have t0 := (HR1.out.of_block ((HTY.out _ HBi.out).block _ HR1.out.lt)).cell hkbk
                      have t1 := (HR1.out.of_block ((HTY.out _ HBi.out).block _ HR1.out.lt)).cell hkak
                      obtain ⟨xa, hxa⟩ : ∃ x, X ka = x := ⟨_, rfl⟩
                      obtain ⟨xb, hxb⟩ : ∃ x, X kb = x := ⟨_, rfl⟩
                      rw [hxb] at t0 hcmp
                      rw [hxa] at t1 hcmp
                      have hq : decide (xb ≤ xa) = false := by simp; omega
                      clear hcmp hxa hxb hka prow hp hpm hpi
                      go_wp2
                      go_quiet (fail)
                      go_wp2
                      go_roundw
                      case rel => exact ⟨j + 1, by omega, by go_num, ⟨HBi.out.os, HBi.out.tape, HBi.out.output, HBi.out.size, HBi.out.block⟩⟩
                      case measure => simp [intOf]; omega
                    · obtain rfl : j = r.ns.length := by omega
                      have hj1 : ¬ (r.ns.length : Int) < (r.ns.length : Int) := by omega
                      go_wp2
                      go_roundw
                      case rel => exact ⟨i + 1, by omega, by go_num, HTY.out _ HBi.out⟩
                      case measure => simp [intOf]; omega
            · obtain rfl : i = l.length := by omega
              have hi : ¬ (l.length : Int) < (l.length : Int) := by omega
              go_wp2_with (go_at_call 12; (with_reducible refine (ask8_any (HLe.out _ (HTe.out _ HBo.out)) HId.out (HR1.out.of_block (HBo.out.block _ HR1.out.lt)) HX1.out.1 HX1.out.2 hk).mono ?_); rintro e V ⟨rfl, b3⟩; have HBz := hide ((HTw.out _ HBo.out).trans (b3.mono (HTw.out _ HBo.out).size)); clear b3)
              go_ret
              exact ⟨rfl, HBz.out⟩
  · have HIn := hide hin
    clear hin
    go_enter Try.func3, Try.ntmps3
    go_wp2_with (go_at_call 4; refine HBe.out.mono ?_; rintro e V ⟨ha, b1⟩; have he := ha.no HIn.out; subst he; have HBx := hide b1; clear ha b1 HBe)
    go_ret
    exact ⟨rfl, HBx.out⟩
end Go.Proofs.Ytmbkjgfnnpopgab
