/- (strata.graph).distances. -/
import Derived.Test.YtmbkjgfnnpopgabBfsPure
namespace Go.Proofs.Ytmbkjgfnnpopgab
set_option linter.unusedSimpArgs false
set_option linter.unusedVariables false
open Go.RowKit Go.Maps
set_option maxRecDepth 100000

def negFar (g n : Nat) (w : World) : Nat := (List.range n).countP fun i => match w.cell? ⟨g, i, none⟩ with | some (.int .i64 b) => decide (b < 0) | _ => false
theorem negFar_eq {w : World} {g n : Nat} {D : Nat → Int} (h : w.rowIs g 3 n (fun i => .int .i64 (D i))) : negFar g n w = unr n D := by
  unfold negFar unr
  refine List.countP_congr fun i hi => ?_
  rw [h.cell (List.mem_range.1 hi)]

theorem unr_le (n : Nat) (D : Nat → Int) : unr n D ≤ n := by
  unfold unr
  have := List.countP_le_length (p := fun p => decide (D p < 0)) (l := List.range n)
  simpa using this

set_option maxHeartbeats 1000000 in
theorem distances_any {w : World} {gl n c goal : Nat} {T N : Nat → Nat → Bool} {F : Nat → Nat → Int} (h : LinksAt w gl n T N F) (hn : n ≤ 128) (hg : goal < n) :
    Calls Try.prog 37 #[.agg #[.int .i64 (n : Int), .slice (some ⟨gl, 0, none⟩) (n * n) c], .int .i64 (goal : Int)] w fun e w' => ∃ (g : Nat) (D : Nat → Int), e = .returned (.slice (some ⟨g, 0, none⟩) n n) ∧ w'.rowIs g 3 n (fun i => .int .i64 (D i)) ∧ FarOk n T goal D ∧ Below w.heap.size w w' := by
  obtain ⟨i0, hi0, hz0, hz1, hz2⟩ := info_parts Try.infoInt8
  have HL := hide h
  have hglt := h.lt
  have hgi : (goal : Int) < (n : Int) := by omega
  have hgi0 : (0 : Int) ≤ (goal : Int) := by omega
  have hb0 := belo1 w (.cells #[.int .i64 (n : Int), .slice (some ⟨gl, 0, none⟩) (n * n) c] 47)
  have HFl := hide (filled_any (w := w.alloc (.cells #[.int .i64 (n : Int), .slice (some ⟨gl, 0, none⟩) (n * n) c] 47)) (N := n) (-1) hn)
  have HGr : Hid ((w.alloc (.cells #[.int .i64 (n : Int), .slice (some ⟨gl, 0, none⟩) (n * n) c] 47)).heap[w.heap.size]? = some (.cells #[.int .i64 (n : Int), .slice (some ⟨gl, 0, none⟩) (n * n) c] 47 (0, 0))) := heap_alloc_new _ _
  have HB0 := hide hb0
  have HY : Hid ((w.alloc (.cells #[.int .i64 (n : Int), .slice (some ⟨gl, 0, none⟩) (n * n) c] 47)).heap.size = w.heap.size + 1) := by show _ = _; simp
  clear h hb0
  go_enter Try.func37, Try.ntmps37
  go_wp2_with (go_at_call 31; refine HFl.out.mono ?_; rintro e w1 ⟨gf, rfl, h1, h2, h3⟩; rw [HY.out] at h1; have y0 := h2.cell hg; have y0f := h2.frozen goal; have HR1 := hide h2; have HG1 : Hid (w1.heap[w.heap.size]? = some (.cells #[.int .i64 (n : Int), .slice (some ⟨gl, 0, none⟩) (n * n) c] 47 (0, 0))) := (by show _ = _; rw [h3.block _ (by rw [HY.out]; omega)]; exact HGr.out); have HB1 := hide (HB0.out.trans (h3.mono HB0.out.size)); clear h2 h3 HFl HY HGr HB0)
  have HQ0 : Hid (QAt (gf + 1) ((w1.setCell ⟨gf, goal, none⟩ (.int .i64 0)).alloc (.cells #[.int .i64 (goal : Int)] 3)) w1.heap.size 0 1 [goal]) := by
    have hz := heap_alloc_new (w1.setCell ⟨gf, goal, none⟩ (.int .i64 0)) (.cells #[.int .i64 (goal : Int)] 3)
    have hs : (w1.setCell ⟨gf, goal, none⟩ (.int .i64 0)).heap.size = w1.heap.size := by simp [World.setCell]
    rw [hs] at hz
    refine ⟨HR1.out.lt, by simp, by simp, fun j hj => ?_, fun i x hi => ?_⟩
    · obtain rfl : j = 0 := by omega
      constructor
      · simp only [World.cell?, hz]; simp
      · simp only [World.frozen?, hz]; simp
    · obtain rfl : i = 0 := by have := (List.getElem?_eq_some_iff.1 hi).1; simpa using this
      simp only [List.getElem?_cons_zero, Option.some.injEq] at hi
      subst hi
      simp only [World.cell?, hz]; simp [nv]
  have HR0 : Hid (((w1.setCell ⟨gf, goal, none⟩ (.int .i64 0)).alloc (.cells #[.int .i64 (goal : Int)] 3)).rowIs gf 3 n (fun p => .int .i64 (updI (fun _ => -1) goal 0 p))) := by
    refine ((HR1.out.set goal (.int .i64 0)).congr fun p _ => ?_).alloc _
    unfold updI
    split <;> rfl
  have HG0 : Hid (((w1.setCell ⟨gf, goal, none⟩ (.int .i64 0)).alloc (.cells #[.int .i64 (goal : Int)] 3)).heap[w.heap.size]? = some (.cells #[.int .i64 (n : Int), .slice (some ⟨gl, 0, none⟩) (n * n) c] 47 (0, 0))) := by
    show _ = _
    have hlt := (Array.getElem?_eq_some_iff.1 HG1.out).1
    rw [heap_alloc_old _ _ (by simpa [World.setCell] using hlt), heap_other (by omega)]
    exact HG1.out
  have HB2 : Hid (Below w.heap.size w ((w1.setCell ⟨gf, goal, none⟩ (.int .i64 0)).alloc (.cells #[.int .i64 (goal : Int)] 3))) := (HB1.out.setCell (by show _ ≤ gf; omega) _).alloc (by have := HB1.out.size; simpa [World.setCell] using this) _
  clear HR1 HG1 HB1 y0 y0f
  go_loopw [6] (fun rv wl => ∃ (D : Nat → Int) (l : List Nat) (g off cap : Nat), rv = .slice (some ⟨g, off, none⟩) l.length cap ∧ Hid (QAt (gf + 1) wl g off cap l) ∧ Hid (wl.rowIs gf 3 n (fun p => .int .i64 (D p))) ∧ Hid ((∃ q, BInv n T goal D l q n) ∧ l.length + unr n D ≤ n + 1) ∧ Hid (wl.heap[w.heap.size]? = some (.cells #[.int .i64 (n : Int), .slice (some ⟨gl, 0, none⟩) (n * n) c] 47 (0, 0))) ∧ Hid (Below w.heap.size w wl)) (fun rv wl => lenV rv + negFar gf n wl)
  case atStart => exact ⟨_, [goal], _, _, _, rfl, HQ0, HR0, ⟨⟨goal, BInv.start T hg⟩, by have := unr_le n (updI (fun _ => -1) goal 0); simp; omega⟩, HG0, HB2⟩
  case round =>
    clear HQ0 HR0 HG0 HB2
    obtain ⟨D, l, g, off, cap, rfl, HQ, HR, HI, HG, HB⟩ := hrel
    cases l with
    | nil =>
      obtain ⟨⟨q, hq⟩, hqb⟩ := HI.out
      have HFo := hide hq.done
      clear hq HI
      go_wp2
      go_ret
      exact ⟨_, D, rfl, HR.out, HFo.out, HB.out⟩
    | cons x l =>
      obtain ⟨⟨q, hq⟩, hqb⟩ := HI.out
      have HI2 := hide hq.pop
      have hxn := hq.ls x (by simp)
      have hcap : l.length + 1 ≤ cap := by simpa using HQ.out.le
      have y0 := HQ.out.el 0 x rfl
      simp only [Nat.add_zero, nv] at y0
      have hxi : (x : Int) < (n : Int) := by omega
      have hxi0 : (0 : Int) ≤ (x : Int) := by omega
      obtain ⟨N0, hN0⟩ : ∃ N0, l.length + unr n D = N0 := ⟨_, rfl⟩
      have HMu : Hid (lenV (.slice (some ⟨g, off, none⟩) (x :: l).length cap) + negFar gf n wr = N0 + 1) := by
        show _ = _
        rw [negFar_eq HR.out]
        simp only [lenV, List.length_cons]
        omega
      have x0 : wr.cell? ⟨w.heap.size, 0, none⟩ = some (.int .i64 (n : Int)) := by simp [World.cell?, HG.out]
      have hlc : ((x :: l).length : Int) = (l.length : Int) + 1 := by simp
      have hlc2 : (x :: l).length = l.length + 1 := by simp
      have HSt : Hid (BInv n T goal D l x 0 ∧ l.length + unr n D ≤ N0) := ⟨HI2.out, by omega⟩
      have HN0 : Hid (N0 < 1000000) := by show _ < _; simp only [List.length_cons] at hqb; omega
      have HN1 : Hid (N0 ≤ n) := by show _ ≤ _; simp only [List.length_cons] at hqb; omega
      clear hq HI HI2 hN0 hqb
      by_cases hc1 : cap = 1
      · have hl0 : l = [] := List.eq_nil_of_length_eq_zero (by omega)
        subst hc1
        have HQ2 : Hid (QAt (gf + 1) wr g off 0 l) := by show QAt _ _ _ _ _ _; rw [hl0]; exact HQ.out.none_
        have hll : l.length = 0 := by rw [hl0]; rfl
        clear HQ
        have hlc3 : (x :: l).length = 1 := by rw [hlc2, hll]
        rw [hlc3]
        go_wp2
        go_loopw [6, 27] (fun rv iv wl => ∃ (k : Nat) (D : Nat → Int) (l : List Nat) (g off cap : Nat), k ≤ n ∧ iv = .int .i64 k ∧ rv = .slice (some ⟨g, off, none⟩) l.length cap ∧ Hid (QAt (gf + 1) wl g off cap l) ∧ Hid (wl.rowIs gf 3 n (fun p => .int .i64 (D p))) ∧ Hid (BInv n T goal D l x k ∧ l.length + unr n D ≤ N0) ∧ Hid (wl.heap[w.heap.size]? = some (.cells #[.int .i64 (n : Int), .slice (some ⟨gl, 0, none⟩) (n * n) c] 47 (0, 0))) ∧ Hid (Below w.heap.size w wl)) (fun _ iv _ => n - (intOf iv).toNat)
        case atStart => exact ⟨0, D, l, g, _, _, by omega, rfl, by rw [hll], HQ2, HR, HSt, HG, HB⟩
        case round =>
          clear HQ2 HR HSt HG HB x0 y0
          obtain ⟨k, D, l, g, off, cap, hk, rfl, rfl, HQ, HR, HI, HG, HB⟩ := hrel
          by_cases hlt : k < n
          · have hki : (k : Int) < (n : Int) := by omega
            have hki0 : (0 : Int) ≤ (k : Int) := by omega
            have x0 : wr.cell? ⟨w.heap.size, 0, none⟩ = some (.int .i64 (n : Int)) := by simp [World.cell?, HG.out]
            have x1 : wr.cell? ⟨w.heap.size, 1, none⟩ = some (.slice (some ⟨gl, 0, none⟩) (n * n) c) := by simp [World.cell?, HG.out]
            have HLd := hide (leads_any (c := c) (HL.out.low HB.out hglt) hn hlt hxn.1)
            obtain ⟨hdx0, hdx1⟩ := HI.out.1.lo x hxn.1
            have hdx2 := HI.out.1.qs.2
            have hcl := cnt_le n (rch D)
            have hdx3 : D x < 1000000 := by omega
            clear hdx0 hdx1 hcl
            cases htb : T k x with
            | false =>
              rw [htb] at HLd
              have HIn : Hid (BInv n T goal D l x (k + 1) ∧ l.length + unr n D ≤ N0) := ⟨HI.out.1.keep (.inl htb), HI.out.2⟩
              go_wp2_with (go_at_call 40; refine HLd.out.mono ?_; rintro e w2 ⟨rfl, h2⟩; have z0 := (HR.out.of_block (h2.block _ HR.out.lt)).cell hlt; have HQ2 := hide (HQ.out.same h2.size (h2.block _ HQ.out.lt)); have HR2 := hide (HR.out.of_block (h2.block _ HR.out.lt)); have HG2 : Hid (w2.heap[w.heap.size]? = some (.cells #[.int .i64 (n : Int), .slice (some ⟨gl, 0, none⟩) (n * n) c] 47 (0, 0))) := (by show _ = _; rw [h2.block _ (Array.getElem?_eq_some_iff.1 HG.out).1]; exact HG.out); have HB2 := hide (HB.out.trans (h2.mono HB.out.size)); clear h2 HQ HR HG HB HLd x0 x1)
              go_roundw
              case rel => exact ⟨k + 1, D, l, g, off, cap, by omega, by go_num, rfl, HQ2, HR2, HIn, HG2, HB2⟩
              case measure => simp [intOf]; omega
            | true =>
              rw [htb] at HLd
              by_cases hdk : D k < 0
              · have HIn : Hid (BInv n T goal (updI D k (D x + 1)) (l ++ [k]) x (k + 1) ∧ (l ++ [k]).length + unr n (updI D k (D x + 1)) ≤ N0) := ⟨HI.out.1.add hlt htb hdk, by have := unr_add (x := D x + 1) hlt hdk (by omega); have := HI.out.2; simp; omega⟩
                have hll : l.length < 1000000 := by have := HI.out.2; have := HN0.out; omega
                obtain ⟨dx, hdx⟩ : ∃ dx, D x = dx := ⟨_, rfl⟩
                obtain ⟨dk, hdk'⟩ : ∃ dk, D k = dk := ⟨_, rfl⟩
                rw [hdx] at hdx2 hdx3 HIn
                rw [hdk'] at hdk
                obtain ⟨ql, hql⟩ : ∃ ql, l.length = ql := ⟨_, rfl⟩
                have HLn := hide hql
                rw [hql] at hll
                rw [hql]
                go_wp2_with (first
                  | (go_at_call 40; refine HLd.out.mono ?_; rintro e w2 ⟨rfl, h2⟩
                     have z0 := (HR.out.of_block (h2.block _ HR.out.lt)).cell hlt
                     have z1 := (HR.out.of_block (h2.block _ HR.out.lt)).cell hxn.1
                     have z0f := (HR.out.of_block (h2.block _ HR.out.lt)).frozen k
                     rw [hdk'] at z0
                     rw [hdx] at z1
                     have hq2 := HQ.out.same h2.size (h2.block _ HQ.out.lt)
                     have hgne : g ≠ gf := by have := HQ.out.ge; omega
                     have hsz : ((w2.setCell ⟨gf, k, none⟩ (.int .i64 (dx + 1))).alloc (.cells #[.int .i64 (k : Int)] 3)).heap.size = w2.heap.size + 1 := by simp [World.setCell]
                     have HQ3 : Hid (QAt (gf + 1) ((w2.setCell ⟨gf, k, none⟩ (.int .i64 (dx + 1))).alloc (.cells #[.int .i64 (k : Int)] 3)) g off cap l) := hq2.same (by rw [hsz]; omega) (by rw [heap_alloc_old _ _ (by simpa [World.setCell] using hq2.lt), heap_other hgne])
                     have HR3 : Hid (((w2.setCell ⟨gf, k, none⟩ (.int .i64 (dx + 1))).alloc (.cells #[.int .i64 (k : Int)] 3)).rowIs gf 3 n (fun p => .int .i64 (updI D k (dx + 1) p))) := (((HR.out.of_block (h2.block _ HR.out.lt)).set k (.int .i64 (dx + 1))).congr (fun p _ => by unfold updI; split <;> rfl)).alloc _
                     have hbl := (Array.getElem?_eq_some_iff.1 HG.out).1
                     have HG3 : Hid (((w2.setCell ⟨gf, k, none⟩ (.int .i64 (dx + 1))).alloc (.cells #[.int .i64 (k : Int)] 3)).heap[w.heap.size]? = some (.cells #[.int .i64 (n : Int), .slice (some ⟨gl, 0, none⟩) (n * n) c] 47 (0, 0))) := by
                       show _ = _
                       have := h2.size
                       rw [heap_alloc_old _ _ (by simp [World.setCell]; omega), heap_other (by omega), h2.block _ hbl]
                       exact HG.out
                     have hb2 := HB.out.trans (h2.mono HB.out.size)
                     have HB3 : Hid (Below w.heap.size w ((w2.setCell ⟨gf, k, none⟩ (.int .i64 (dx + 1))).alloc (.cells #[.int .i64 (k : Int)] 3))) := (hb2.setCell (by show _ ≤ gf; omega) _).alloc (by have := hb2.size; simpa [World.setCell] using this) _
                     have hgs : gf + 1 ≤ ((w2.setCell ⟨gf, k, none⟩ (.int .i64 (dx + 1))).alloc (.cells #[.int .i64 (k : Int)] 3)).heap.size := by have := HR.out.lt; have := h2.size; rw [hsz]; omega
                     have hnw : ((w2.setCell ⟨gf, k, none⟩ (.int .i64 (dx + 1))).alloc (.cells #[.int .i64 (k : Int)] 3)).cell? ⟨w2.heap.size, 0, none⟩ = some (nv k) := by
                       have := heap_alloc_new (w2.setCell ⟨gf, k, none⟩ (.int .i64 (dx + 1))) (.cells #[.int .i64 (k : Int)] 3)
                       rw [show (w2.setCell ⟨gf, k, none⟩ (.int .i64 (dx + 1))).heap.size = w2.heap.size by simp [World.setCell]] at this
                       simp only [World.cell?, this]; simp [nv]
                     have HGne := hide hgne
                     have HGs := hide hgs
                     have HNw := hide hnw
                     clear h2 hq2 hsz hbl hb2 hgs hnw hgne HQ HR HG HB HLd x0 x1)
                  | (at_builtin; refine wpList_qpush rfl _ _ 36 rfl (gf + 1) 3 i0 _ Try.underlying36 hi0 hz0 hz1 hz2 rfl g off ql cap l HLn.out rfl HQ3.out k w2.heap.size 1 rfl HNw.out hll HGs.out ?_))
                intro g' off' cap' w4 HQ4 HO4
                have HR4 := hide (HR3.out.of_block (HO4.out.block _ HR3.out.lt (fun e => HGne.out e.symm)))
                have HB4 := hide (HB3.out.trans (HO4.out.below HB3.out.size (fun b hb e => by have := HQ3.out.ge; omega)))
                have HG4 : Hid (w4.heap[w.heap.size]? = some (.cells #[.int .i64 (n : Int), .slice (some ⟨gl, 0, none⟩) (n * n) c] 47 (0, 0))) := by show _ = _; rw [HO4.out.block _ (Array.getElem?_eq_some_iff.1 HG3.out).1 (fun e => by have := HQ3.out.ge; omega)]; exact HG3.out
                clear HR3 HB3 HG3 HO4 HNw HGs HGne HQ3
                go_wp2
                go_roundw
                case rel => exact ⟨k + 1, _, l ++ [k], g', off', cap', by omega, by go_num, by simp [hql], HQ4, HR4, HIn, HG4, HB4⟩
                case measure => simp [intOf]; omega
              · have HIn : Hid (BInv n T goal D l x (k + 1) ∧ l.length + unr n D ≤ N0) := ⟨HI.out.1.keep (.inr (by omega)), HI.out.2⟩
                go_wp2_with (go_at_call 40; refine HLd.out.mono ?_; rintro e w2 ⟨rfl, h2⟩; have z0 := (HR.out.of_block (h2.block _ HR.out.lt)).cell hlt; have HQ2 := hide (HQ.out.same h2.size (h2.block _ HQ.out.lt)); have HR2 := hide (HR.out.of_block (h2.block _ HR.out.lt)); have HG2 : Hid (w2.heap[w.heap.size]? = some (.cells #[.int .i64 (n : Int), .slice (some ⟨gl, 0, none⟩) (n * n) c] 47 (0, 0))) := (by show _ = _; rw [h2.block _ (Array.getElem?_eq_some_iff.1 HG.out).1]; exact HG.out); have HB2 := hide (HB.out.trans (h2.mono HB.out.size)); clear h2 HQ HR HG HB HLd x0 x1)
                go_roundw
                case rel => exact ⟨k + 1, D, l, g, off, cap, by omega, by go_num, rfl, HQ2, HR2, HIn, HG2, HB2⟩
                case measure => simp [intOf]; omega
          · obtain rfl : k = n := by omega
            have hki : ¬ (k : Int) < (k : Int) := by omega
            go_wp2
            refine ⟨⟨D, l, g, off, cap, rfl, HQ, HR, ⟨⟨x, HI.out.1⟩, by have := HI.out.2; have := HN1.out; omega⟩, HG, HB⟩, ?_⟩
            have hm := HMu.out
            have := HI.out.2
            simp only [lenV, List.length_cons] at hm ⊢
            rw [negFar_eq HR.out]
            omega

      · have HQ2 := hide HQ.out.pop
        clear HQ
        rw [hlc2]
        go_wp2
        go_loopw [6, 27] (fun rv iv wl => ∃ (k : Nat) (D : Nat → Int) (l : List Nat) (g off cap : Nat), k ≤ n ∧ iv = .int .i64 k ∧ rv = .slice (some ⟨g, off, none⟩) l.length cap ∧ Hid (QAt (gf + 1) wl g off cap l) ∧ Hid (wl.rowIs gf 3 n (fun p => .int .i64 (D p))) ∧ Hid (BInv n T goal D l x k ∧ l.length + unr n D ≤ N0) ∧ Hid (wl.heap[w.heap.size]? = some (.cells #[.int .i64 (n : Int), .slice (some ⟨gl, 0, none⟩) (n * n) c] 47 (0, 0))) ∧ Hid (Below w.heap.size w wl)) (fun _ iv _ => n - (intOf iv).toNat)
        case atStart => exact ⟨0, D, l, g, _, _, by omega, rfl, by simp, HQ2, HR, HSt, HG, HB⟩
        case round =>
          clear HQ2 HR HSt HG HB x0 y0
          obtain ⟨k, D, l, g, off, cap, hk, rfl, rfl, HQ, HR, HI, HG, HB⟩ := hrel
          by_cases hlt : k < n
          · have hki : (k : Int) < (n : Int) := by omega
            have hki0 : (0 : Int) ≤ (k : Int) := by omega
            have x0 : wr.cell? ⟨w.heap.size, 0, none⟩ = some (.int .i64 (n : Int)) := by simp [World.cell?, HG.out]
            have x1 : wr.cell? ⟨w.heap.size, 1, none⟩ = some (.slice (some ⟨gl, 0, none⟩) (n * n) c) := by simp [World.cell?, HG.out]
            have HLd := hide (leads_any (c := c) (HL.out.low HB.out hglt) hn hlt hxn.1)
            obtain ⟨hdx0, hdx1⟩ := HI.out.1.lo x hxn.1
            have hdx2 := HI.out.1.qs.2
            have hcl := cnt_le n (rch D)
            have hdx3 : D x < 1000000 := by omega
            clear hdx0 hdx1 hcl
            cases htb : T k x with
            | false =>
              rw [htb] at HLd
              have HIn : Hid (BInv n T goal D l x (k + 1) ∧ l.length + unr n D ≤ N0) := ⟨HI.out.1.keep (.inl htb), HI.out.2⟩
              go_wp2_with (go_at_call 40; refine HLd.out.mono ?_; rintro e w2 ⟨rfl, h2⟩; have z0 := (HR.out.of_block (h2.block _ HR.out.lt)).cell hlt; have HQ2 := hide (HQ.out.same h2.size (h2.block _ HQ.out.lt)); have HR2 := hide (HR.out.of_block (h2.block _ HR.out.lt)); have HG2 : Hid (w2.heap[w.heap.size]? = some (.cells #[.int .i64 (n : Int), .slice (some ⟨gl, 0, none⟩) (n * n) c] 47 (0, 0))) := (by show _ = _; rw [h2.block _ (Array.getElem?_eq_some_iff.1 HG.out).1]; exact HG.out); have HB2 := hide (HB.out.trans (h2.mono HB.out.size)); clear h2 HQ HR HG HB HLd x0 x1)
              go_roundw
              case rel => exact ⟨k + 1, D, l, g, off, cap, by omega, by go_num, rfl, HQ2, HR2, HIn, HG2, HB2⟩
              case measure => simp [intOf]; omega
            | true =>
              rw [htb] at HLd
              by_cases hdk : D k < 0
              · have HIn : Hid (BInv n T goal (updI D k (D x + 1)) (l ++ [k]) x (k + 1) ∧ (l ++ [k]).length + unr n (updI D k (D x + 1)) ≤ N0) := ⟨HI.out.1.add hlt htb hdk, by have := unr_add (x := D x + 1) hlt hdk (by omega); have := HI.out.2; simp; omega⟩
                have hll : l.length < 1000000 := by have := HI.out.2; have := HN0.out; omega
                obtain ⟨dx, hdx⟩ : ∃ dx, D x = dx := ⟨_, rfl⟩
                obtain ⟨dk, hdk'⟩ : ∃ dk, D k = dk := ⟨_, rfl⟩
                rw [hdx] at hdx2 hdx3 HIn
                rw [hdk'] at hdk
                obtain ⟨ql, hql⟩ : ∃ ql, l.length = ql := ⟨_, rfl⟩
                have HLn := hide hql
                rw [hql] at hll
                rw [hql]
                go_wp2_with (first
                  | (go_at_call 40; refine HLd.out.mono ?_; rintro e w2 ⟨rfl, h2⟩
                     have z0 := (HR.out.of_block (h2.block _ HR.out.lt)).cell hlt
                     have z1 := (HR.out.of_block (h2.block _ HR.out.lt)).cell hxn.1
                     have z0f := (HR.out.of_block (h2.block _ HR.out.lt)).frozen k
                     rw [hdk'] at z0
                     rw [hdx] at z1
                     have hq2 := HQ.out.same h2.size (h2.block _ HQ.out.lt)
                     have hgne : g ≠ gf := by have := HQ.out.ge; omega
                     have hsz : ((w2.setCell ⟨gf, k, none⟩ (.int .i64 (dx + 1))).alloc (.cells #[.int .i64 (k : Int)] 3)).heap.size = w2.heap.size + 1 := by simp [World.setCell]
                     have HQ3 : Hid (QAt (gf + 1) ((w2.setCell ⟨gf, k, none⟩ (.int .i64 (dx + 1))).alloc (.cells #[.int .i64 (k : Int)] 3)) g off cap l) := hq2.same (by rw [hsz]; omega) (by rw [heap_alloc_old _ _ (by simpa [World.setCell] using hq2.lt), heap_other hgne])
                     have HR3 : Hid (((w2.setCell ⟨gf, k, none⟩ (.int .i64 (dx + 1))).alloc (.cells #[.int .i64 (k : Int)] 3)).rowIs gf 3 n (fun p => .int .i64 (updI D k (dx + 1) p))) := (((HR.out.of_block (h2.block _ HR.out.lt)).set k (.int .i64 (dx + 1))).congr (fun p _ => by unfold updI; split <;> rfl)).alloc _
                     have hbl := (Array.getElem?_eq_some_iff.1 HG.out).1
                     have HG3 : Hid (((w2.setCell ⟨gf, k, none⟩ (.int .i64 (dx + 1))).alloc (.cells #[.int .i64 (k : Int)] 3)).heap[w.heap.size]? = some (.cells #[.int .i64 (n : Int), .slice (some ⟨gl, 0, none⟩) (n * n) c] 47 (0, 0))) := by
                       show _ = _
                       have := h2.size
                       rw [heap_alloc_old _ _ (by simp [World.setCell]; omega), heap_other (by omega), h2.block _ hbl]
                       exact HG.out
                     have hb2 := HB.out.trans (h2.mono HB.out.size)
                     have HB3 : Hid (Below w.heap.size w ((w2.setCell ⟨gf, k, none⟩ (.int .i64 (dx + 1))).alloc (.cells #[.int .i64 (k : Int)] 3))) := (hb2.setCell (by show _ ≤ gf; omega) _).alloc (by have := hb2.size; simpa [World.setCell] using this) _
                     have hgs : gf + 1 ≤ ((w2.setCell ⟨gf, k, none⟩ (.int .i64 (dx + 1))).alloc (.cells #[.int .i64 (k : Int)] 3)).heap.size := by have := HR.out.lt; have := h2.size; rw [hsz]; omega
                     have hnw : ((w2.setCell ⟨gf, k, none⟩ (.int .i64 (dx + 1))).alloc (.cells #[.int .i64 (k : Int)] 3)).cell? ⟨w2.heap.size, 0, none⟩ = some (nv k) := by
                       have := heap_alloc_new (w2.setCell ⟨gf, k, none⟩ (.int .i64 (dx + 1))) (.cells #[.int .i64 (k : Int)] 3)
                       rw [show (w2.setCell ⟨gf, k, none⟩ (.int .i64 (dx + 1))).heap.size = w2.heap.size by simp [World.setCell]] at this
                       simp only [World.cell?, this]; simp [nv]
                     have HGne := hide hgne
                     have HGs := hide hgs
                     have HNw := hide hnw
                     clear h2 hq2 hsz hbl hb2 hgs hnw hgne HQ HR HG HB HLd x0 x1)
                  | (at_builtin; refine wpList_qpush rfl _ _ 36 rfl (gf + 1) 3 i0 _ Try.underlying36 hi0 hz0 hz1 hz2 rfl g off ql cap l HLn.out rfl HQ3.out k w2.heap.size 1 rfl HNw.out hll HGs.out ?_))
                intro g' off' cap' w4 HQ4 HO4
                have HR4 := hide (HR3.out.of_block (HO4.out.block _ HR3.out.lt (fun e => HGne.out e.symm)))
                have HB4 := hide (HB3.out.trans (HO4.out.below HB3.out.size (fun b hb e => by have := HQ3.out.ge; omega)))
                have HG4 : Hid (w4.heap[w.heap.size]? = some (.cells #[.int .i64 (n : Int), .slice (some ⟨gl, 0, none⟩) (n * n) c] 47 (0, 0))) := by show _ = _; rw [HO4.out.block _ (Array.getElem?_eq_some_iff.1 HG3.out).1 (fun e => by have := HQ3.out.ge; omega)]; exact HG3.out
                clear HR3 HB3 HG3 HO4 HNw HGs HGne HQ3
                go_wp2
                go_roundw
                case rel => exact ⟨k + 1, _, l ++ [k], g', off', cap', by omega, by go_num, by simp [hql], HQ4, HR4, HIn, HG4, HB4⟩
                case measure => simp [intOf]; omega
              · have HIn : Hid (BInv n T goal D l x (k + 1) ∧ l.length + unr n D ≤ N0) := ⟨HI.out.1.keep (.inr (by omega)), HI.out.2⟩
                go_wp2_with (go_at_call 40; refine HLd.out.mono ?_; rintro e w2 ⟨rfl, h2⟩; have z0 := (HR.out.of_block (h2.block _ HR.out.lt)).cell hlt; have HQ2 := hide (HQ.out.same h2.size (h2.block _ HQ.out.lt)); have HR2 := hide (HR.out.of_block (h2.block _ HR.out.lt)); have HG2 : Hid (w2.heap[w.heap.size]? = some (.cells #[.int .i64 (n : Int), .slice (some ⟨gl, 0, none⟩) (n * n) c] 47 (0, 0))) := (by show _ = _; rw [h2.block _ (Array.getElem?_eq_some_iff.1 HG.out).1]; exact HG.out); have HB2 := hide (HB.out.trans (h2.mono HB.out.size)); clear h2 HQ HR HG HB HLd x0 x1)
                go_roundw
                case rel => exact ⟨k + 1, D, l, g, off, cap, by omega, by go_num, rfl, HQ2, HR2, HIn, HG2, HB2⟩
                case measure => simp [intOf]; omega
          · obtain rfl : k = n := by omega
            have hki : ¬ (k : Int) < (k : Int) := by omega
            go_wp2
            refine ⟨⟨D, l, g, off, cap, rfl, HQ, HR, ⟨⟨x, HI.out.1⟩, by have := HI.out.2; have := HN1.out; omega⟩, HG, HB⟩, ?_⟩
            have hm := HMu.out
            have := HI.out.2
            simp only [lenV, List.length_cons] at hm ⊢
            rw [negFar_eq HR.out]
            omega

end Go.Proofs.Ytmbkjgfnnpopgab
