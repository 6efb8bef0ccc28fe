/- (strata.graph).shortest: a walk along edges. -/
import Derived.Test.YtakdkdckhldjiaaGraphNear
namespace Go.Proofs.Ytakdkdckhldjiaa
set_option linter.unusedSimpArgs false
set_option linter.unusedVariables false
open Go.RowKit Go.Maps
set_option maxRecDepth 100000

/-- A walk along edges, by their numbers. -/
inductive PathL (es : List Edg) (a : Nat) : List Int → Nat → Prop
  | nil : PathL es a [] a
  | snoc {W : List Int} {b m : Nat} {x : Edg} {t : Nat} : PathL es a W b → es[m]? = some x → x.f = b → x.t = t → PathL es a (W ++ [(m : Int)]) t

theorem PathL.cons {es : List Edg} {a b m t : Nat} {x : Edg} {W : List Int} (h : PathL es t W b) (hm : es[m]? = some x) (hf : x.f = a) (ht : x.t = t) : PathL es a ((m : Int) :: W) b := by
  induction h with
  | nil => exact PathL.snoc (W := []) .nil hm hf ht
  | snoc h h1 h2 h3 ih => exact PathL.snoc (W := (m : Int) :: _) ih h1 h2 h3

theorem lnkF_at {es : List Edg} {u v : Nat} (h : lnkT es u v = true) : ∃ (m : Nat) (x : Edg), lnkF es u v = m ∧ es[m]? = some x ∧ x.f = u ∧ x.t = v := by
  unfold lnkF
  rw [if_pos h]
  unfold findI
  unfold lnkT at h
  cases hf : es.findIdx? (isE u v) with
  | none =>
    rw [List.findIdx?_eq_none_iff] at hf
    obtain ⟨x, hx, hi⟩ := List.any_eq_true.1 h
    have := hf x hx
    rw [hi] at this
    cases this
  | some m =>
    obtain ⟨hm, hp, -⟩ := List.findIdx?_eq_some_iff_getElem.1 hf
    refine ⟨m, es[m], rfl, List.getElem?_eq_getElem hm, ?_⟩
    unfold isE at hp
    simpa using hp

def farOf (gf : Nat) (av : Value) (w : World) : Nat := match w.cell? ⟨gf, (intOf av).toNat, none⟩ with | some (.int .i64 d) => d.toNat | _ => 0
theorem farOf_at {w : World} {gf n a : Nat} {D : Nat → Int} (h : w.rowIs gf 3 n (fun p => .int .i64 (D p))) (ha : a < n) : farOf gf (.int .i64 (a : Int)) w = (D a).toNat := by
  unfold farOf
  have := h.cell ha
  simp only [intOf, Int.toNat_natCast]
  rw [this]

set_option maxHeartbeats 1000000 in
theorem shortest_any {w : World} {gl n c a goal : Nat} {N : Nat → Nat → Bool} {es : List Edg} {v : Value} (h : LinksAt w gl n (lnkT es) N (lnkF es)) (hn : n ≤ 128) (ha : a < n) (hg : goal < n) (he : Has elEdg w v es) (hin : ∀ x ∈ es, 0 ≤ x.f ∧ x.f < n ∧ 0 ≤ x.t ∧ x.t < n) (hr : Reach (Ed n (lnkT es)) a goal) :
    Calls Try.prog 15 #[.agg #[.int .i64 (n : Int), .slice (some ⟨gl, 0, none⟩) (n * n) c], v, .int .i64 (a : Int), .int .i64 (goal : Int)] w fun e w' => ∃ (wv : Value) (W : List Int), e = .returned wv ∧ Grow elInt 3 w.heap.size w' wv W ∧ (PathL es a W goal ∧ W.length ≤ n) ∧ Below w.heap.size w w' := by
  obtain ⟨i0, hi0, hz0, hz1, hz2⟩ := info_parts Try.infoInt8
  obtain ⟨va, vc, rfl, -, -, hlen⟩ := he.shape
  have HL := hide h
  have HE := hide he
  have HIn := hide hin
  have HRe := hide hr
  have hglt := h.lt
  have hb0 := belo1 w (.cells #[.int .i64 (n : Int), .slice (some ⟨gl, 0, none⟩) (n * n) c] 38)
  have HDi := hide (distances_any (c := c) (h.kept hb0) hn hg)
  have HGr : Hid ((w.alloc (.cells #[.int .i64 (n : Int), .slice (some ⟨gl, 0, none⟩) (n * n) c] 38)).heap[w.heap.size]? = some (.cells #[.int .i64 (n : Int), .slice (some ⟨gl, 0, none⟩) (n * n) c] 38 (0, 0))) := heap_alloc_new _ _
  have HB0 := hide hb0
  clear h he hin hr hb0
  go_enter Try.func15, Try.ntmps15
  go_wp2_with (go_at_call 27; refine HDi.out.mono ?_; rintro e w1 ⟨gf, D, rfl, h1, h2, h3⟩; have HR1 := hide h1; have HFa := hide h2; have HG1 : Hid (w1.heap[w.heap.size]? = some (.cells #[.int .i64 (n : Int), .slice (some ⟨gl, 0, none⟩) (n * n) c] 38 (0, 0))) := (by show _ = _; rw [h3.block _ (Array.getElem?_eq_some_iff.1 HGr.out).1]; exact HGr.out); have HB1 := hide (HB0.out.trans (h3.mono HB0.out.size)); clear h1 h2 h3 HDi HGr HB0)
  have HSt : Hid (PathL es a [] a ∧ 0 ≤ D a ∧ (([] : List Int).length : Int) + D a ≤ n) := ⟨.nil, HFa.out.reach HRe.out (by rw [HFa.out.zero]; exact Int.le_refl _), by have := HFa.out.lo a ha; simp; omega⟩
  go_loopw [10, 11] (fun wv av wl => ∃ (b : Nat) (W : List Int), b < n ∧ av = .int .i64 b ∧ Hid (Grow elInt 3 w1.heap.size wl wv W) ∧ Hid (PathL es a W b ∧ 0 ≤ D b ∧ (W.length : Int) + D b ≤ n) ∧ Hid (Below w1.heap.size w1 wl)) (fun _ av wl => farOf gf av wl)
  case atStart => exact ⟨a, [], ha, rfl, Grow.nil _ _ _ _, HSt, Below.refl _ _⟩
  case round =>
    clear HSt
    obtain ⟨b, W, hbn, rfl, HG, HP, HB⟩ := hrel
    have HBw := hide (HB1.out.trans (HB.out.mono HB1.out.size))
    have HRr := hide (HR1.out.of_block (HB.out.block _ HR1.out.lt))
    by_cases hbg : b = goal
    · subst hbg
      have HWl : Hid (PathL es a W b ∧ W.length ≤ n) := ⟨HP.out.1, by have := HP.out.2; omega⟩
      clear HP
      go_wp2
      go_ret
      exact ⟨_, W, rfl, HG.out.mono HB1.out.size, HWl.out, HBw.out⟩
    · have hbg2 : ¬ (b : Int) = (goal : Int) := by omega
      have HGx : Hid (wr.heap[w.heap.size]? = some (.cells #[.int .i64 (n : Int), .slice (some ⟨gl, 0, none⟩) (n * n) c] 38 (0, 0))) := by show _ = _; rw [HB.out.block _ (Array.getElem?_eq_some_iff.1 HG1.out).1]; exact HG1.out
      have x0 : wr.cell? ⟨w.heap.size, 0, none⟩ = some (.int .i64 (n : Int)) := by simp [World.cell?, HGx.out]
      have x1 : wr.cell? ⟨w.heap.size, 1, none⟩ = some (.slice (some ⟨gl, 0, none⟩) (n * n) c) := by simp [World.cell?, HGx.out]
      have HNe := hide (nearer_any (c := c) (HL.out.low HBw.out hglt) hn hbn HRr.out (fun p hp => by have := HFa.out.lo p hp; omega) (fun v _ ht => by obtain ⟨m, x, e, -⟩ := lnkF_at ht; omega))
      have HMu : Hid (farOf gf (.int .i64 (b : Int)) wr = (D b).toNat) := farOf_at HRr.out hbn
      obtain ⟨q, hq⟩ : ∃ q, W.length = q := ⟨_, rfl⟩
      have HLn := hide hq
      obtain ⟨oa, oc, hsh, -, -⟩ := HG.out.shape
      rw [hq] at hsh
      subst hsh
      have hq1 : q ≤ 1000000 := by have := HP.out.2; omega
      clear hq
      go_wp2_with (first
        | (go_at_call 28; refine HNe.out.mono ?_; rintro e w2 ⟨m, rfl, h1, h2⟩
           obtain ⟨v', hv', ht', h0', hd'⟩ := HFa.out.nx b hbn HP.out.2.1 hbg
           obtain ⟨t, ht, hnr, hm⟩ : ∃ t, t < n ∧ nrP (lnkT es) D b t ∧ m = lnkF es b t := by
             rcases h1 with ⟨-, hno⟩ | ⟨-, ⟨t, ht, h3, h4⟩, -⟩
             · exact absurd ⟨ht', hd'⟩ (hno v' hv')
             · exact ⟨t, ht, h3, h4⟩
           obtain ⟨mm, x, hmm, hx, hxf, hxt⟩ := lnkF_at hnr.1
           rw [hmm] at hm
           subst hm
           have hml : mm < es.length := (List.getElem?_eq_some_iff.1 hx).1
           have hmi : (mm : Int) < (es.length : Int) := by omega
           have hmi0 : (0 : Int) ≤ (mm : Int) := by omega
           obtain ⟨eb, off, heb, -, -, hrow⟩ := HE.out.row (by omega)
           subst heb
           have HC := hide (hrow mm x hx 1 _ rfl)
           have HPn : Hid (PathL es a (W ++ [(mm : Int)]) t ∧ 0 ≤ D t ∧ ((W ++ [(mm : Int)]).length : Int) + D t ≤ n) := ⟨HP.out.1.snoc hx hxf hxt, by rw [hnr.2, ← hd']; exact h0', by have := HP.out.2.2; have := hnr.2; simp; omega⟩
           have HDt : Hid ((D t).toNat < (D b).toNat) := by show _ < _; rw [hnr.2]; have : D b - 1 = D v' := hd'.symm; omega
           have HG2 := hide ((HG.out.kept h2).kept (belo1 w2 (.cells #[.int .i64 (mm : Int)] 3)))
           have hb2 := HB.out.trans (h2.mono HB.out.size)
           have HB2 := hide (hb2.alloc hb2.size (.cells #[.int .i64 (mm : Int)] 3))
           have HS := hide hb2.size
           have hxt' := hxt
           have HXt := hide hxt'
           have HBwx := hide HB1.out
           clear h1 h2 hd' h0' ht' hv' hnr hmm hx hxf hrow hb2 HG HB HP HNe x0 x1 hxt')
        | (at_builtin; refine wpList_push (w0 := w1) elInt rfl _ _ 23 rfl w1.heap.size 3 i0 _ 8 Try.underlying23 hi0 hz0 hz1 hz2 rfl (by decide) _ W q HLn.out rfl HG2.out (mm : Int) w2.heap.size 1 rfl (fun j u hu => new_cells j u hu) ⟨by omega, by omega⟩ (by omega) HB2.out (by simp; have := HS.out; omega) ?_))
      intro g' cap' w3 HG3 HB3 HGw
      have y1 := kept_cell (HBwx.out.trans (HB3.out.mono HBwx.out.size)) HC.out
      simp only [elEdg] at y1
      rw [hxt] at y1
      have HR3 := hide (HR1.out.of_block (HB3.out.block _ HR1.out.lt))
      clear HC HGw
      go_wp2
      refine ⟨⟨t, W ++ [(mm : Int)], ht, rfl, HG3, HPn, HB3⟩, ?_⟩
      rw [HMu.out, farOf_at HR3.out ht]
      exact HDt.out
end Go.Proofs.Ytakdkdckhldjiaa
