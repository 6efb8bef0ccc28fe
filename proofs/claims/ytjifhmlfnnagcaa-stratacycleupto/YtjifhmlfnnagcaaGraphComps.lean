/- What strata's components answers. -/
import Derived.Test.YtjifhmlfnnagcaaGraphMem
import Derived.Test.YtjifhmlfnnagcaaGraphOrder
namespace Go.Proofs.Ytjifhmlfnnagcaa
set_option linter.unusedSimpArgs false
set_option linter.unusedVariables false
open Go.RowKit Go.Maps

theorem least_in {n : Nat} {T : Nat → Nat → Bool} {H : Nat → Int} (hH : ∀ v, v < n → LeastOf (Ed n T) v (H v)) : ∀ v, v < n → 0 ≤ H v ∧ H v < n := fun v hv => by
  obtain ⟨m, e, _, h⟩ := hH v hv
  have := h v (Mut.refl v)
  omega

theorem memL_len (H : Nat → Int) (k r : Nat) : (memL H k r).length ≤ k := by
  have := List.length_filter_le (fun v => H v == (r : Int)) (List.range k)
  rwa [List.length_range] at this

/-- The lists of components told, each in a block of its own. -/
structure Told (base : Nat) (w : World) (n : Nat) (H : Nat → Int) (tv : Value) (reps : List Nat) (M : Nat → Value) : Prop where
  own : w.ownsRow base 33 1 tv reps.length (reps.map M)
  lst : ∀ r, r < n → w.ownsRow base 3 1 (M r) (memL H n r).length ((memL H n r).map nv)
  dis : ∀ i j, i < n → j < n → i ≠ j → ∀ b, (M i).ownBlock = some b → (M j).ownBlock ≠ some b
  tdis : ∀ i, i < n → ∀ b, (M i).ownBlock = some b → tv.ownBlock ≠ some b

/-- Components told so far: those of reps; what the others wait for. -/
structure TellAt (base : Nat) (w : World) (gm gq n : Nat) (T : Nat → Nat → Bool) (H : Nat → Int) (M : Nat → Value) (tv : Value) (reps : List Nat) : Prop where
  rowM : w.rowIs gm 33 n (fun r => if r ∈ reps then .slice none 0 0 else M r)
  rowQ : w.rowIs gq 3 n (fun r => .int .i64 (wt n T H (restB H reps) n r : Int))
  told : w.ownsRow base 33 1 tv reps.length (reps.map M)
  td : tv.ownBlock ≠ some gm ∧ tv.ownBlock ≠ some gq ∧ ∀ i, i < n → ∀ b, (M i).ownBlock = some b → tv.ownBlock ≠ some b
  lst : ∀ r, r < n → w.ownsRow base 3 1 (M r) (memL H n r).length ((memL H n r).map nv)
theorem TellAt.kept {base : Nat} {w w' : World} {gm gq n : Nat} {T : Nat → Nat → Bool} {H : Nat → Int} {M : Nat → Value} {tv : Value} {reps : List Nat} (h : TellAt base w gm gq n T H M tv reps) (hb : Below w.heap.size w w') : TellAt base w' gm gq n T H M tv reps where
  rowM := h.rowM.of_block (hb.block _ h.rowM.lt)
  rowQ := h.rowQ.of_block (hb.block _ h.rowQ.lt)
  told := own_kept6 h.told hb
  td := h.td
  lst := fun r hr => own_kept6 (h.lst r hr) hb
/-- One component more is told. -/
theorem TellAt.next {base : Nat} {w V V2 : World} {gm gq n : Nat} {T : Nat → Nat → Bool} {H : Nat → Int} {M : Nat → Value} {ta : Option Addr} {tc : Nat} {reps : List Nat} (h : TellAt base w gm gq n T H M (.slice ta reps.length tc) reps) {o : Obj} {j g cap : Nat}
    (hj : j < n) (hjr : j ∉ reps) (hH : ∀ v, v < n → 0 ≤ H v) (hgm : gm ≠ gq) (nM : ∀ i, i < n → (M i).ownBlock ≠ some gq ∧ (M i).ownBlock ≠ some gm)
    (hown : V.ownsRow base 33 1 (.slice (some ⟨g, 0, none⟩) (reps.length + 1) cap) (reps.length + 1) (reps.map M ++ [M j])) (hgrow : (w.alloc o).grownBy V (Value.slice ta reps.length tc).ownBlock) (hat : (Value.slice ta reps.length tc).ownBlock = some g ∨ g = w.heap.size + 1)
    (hq : V2.rowIs gq 3 n (fun r => .int .i64 ((wt n T H (restB H reps) n r : Int) - (sumC T H n r (memL H n j) : Int)))) (ho : Only (fun b => b = gq) V V2) :
    TellAt base (V2.setCell ⟨gm, j, none⟩ (.slice none 0 0)) gm gq n T H M (.slice (some ⟨g, 0, none⟩) (reps.length + 1) cap) (reps ++ [j]) := by
  have hsz : (w.alloc o).heap.size = w.heap.size + 1 := by simp
  have hwV : w.heap.size ≤ V.heap.size := Nat.le_trans (by omega) hgrow.size
  have keep : ∀ b, b < w.heap.size → (Value.slice ta reps.length tc).ownBlock ≠ some b → b ≠ gq → V2.heap[b]? = w.heap[b]? := fun b hb hne hbq => by
    rw [ho.block b (by omega) hbq, hgrow.block b (by omega) (fun e => hne e.symm), heap_alloc_old w o (by exact hb)]
  have gne : ∀ b, b < w.heap.size → (Value.slice ta reps.length tc).ownBlock ≠ some b → g ≠ b := fun b hb hne e => by
    rcases hat with h1 | h1
    · rw [e] at h1; exact hne h1
    · omega
  have g_gm := gne gm h.rowM.lt h.td.1
  have g_gq := gne gq h.rowQ.lt h.td.2.1
  refine ⟨?_, ?_, ?_, ⟨?_, ?_, ?_⟩, fun r hr => ?_⟩
  · refine ((h.rowM.of_block (keep gm h.rowM.lt h.td.1 hgm)).set j _).congr fun r _ => ?_
    by_cases e : r = j
    · subst e; simp
    · simp [e]
  · refine (hq.of_block (heap_other (Ne.symm hgm))).congr fun r hr => ?_
    have h1 := wt_told (T := T) (r := r) hH hjr n (Nat.le_refl _)
    congr 1
    omega
  · rw [List.length_append, List.map_append]
    refine own_same hown fun b hb => ?_
    simp only [Value.ownBlock, Option.some.injEq] at hb
    rw [← hb, heap_other g_gm]
    exact ho.block g (by have := own_lt6 hown g rfl; exact this) g_gq
  · intro e
    simp only [Value.ownBlock, Option.some.injEq] at e
    exact g_gm e
  · intro e
    simp only [Value.ownBlock, Option.some.injEq] at e
    exact g_gq e
  · intro i hi b hb e
    simp only [Value.ownBlock, Option.some.injEq] at e
    exact gne b (own_lt6 (h.lst i hi) b hb) (h.td.2.2 i hi b hb) e
  · refine own_same (h.lst r hr) fun b hb => ?_
    rw [heap_other (fun e => (nM r hr).2 (by rw [hb, e]))]
    exact keep b (own_lt6 (h.lst r hr) b hb) (h.td.2.2 r hr b hb) (fun e => (nM r hr).1 (by rw [hb, e]))

/-- A list of its own, as numbers. -/
theorem own_has {base : Nat} {w : World} {v : Value} {l : List Nat} (h : w.ownsRow base 3 1 v l.length (l.map nv)) (hl : l.length < 1000000) (hv : ∀ x ∈ l, x < 1000000) : Has elInt w v (l.map fun (u : Nat) => (u : Int)) := by
  obtain ⟨ao, cap, rfl, h1, h2, h3⟩ := own_shape6 h
  refine ⟨ao, cap, by simp, by simpa using h1, (fun e => by have := h2 e; simpa using this), by simp; omega, fun x hx => ?_, fun hp => ?_⟩
  · obtain ⟨u, hu, rfl⟩ := List.mem_map.1 hx
    have := hv u hu
    exact ⟨by omega, by omega⟩
  · rw [List.length_map] at hp
    cases ao with
    | none => exact absurd (h2 rfl).1 (by omega)
    | some ad =>
      obtain ⟨g, rfl, hb⟩ := h3 ad rfl
      refine ⟨g, 0, rfl, own_lt6 h g rfl, trivial, fun i x hi j u hu => ?_⟩
      have hj : j = 0 := by have := (List.getElem?_eq_some_iff.1 hu).1; simp [elInt] at this; exact this
      subst hj
      rw [List.getElem?_map] at hi
      cases hx : l[i]? with
      | none => rw [hx] at hi; simp at hi
      | some y =>
        rw [hx] at hi
        simp only [Option.map_some, Option.some.injEq] at hi
        subst hi
        simp only [elInt, List.getElem?_cons_zero, Option.some.injEq] at hu
        subst hu
        have := own_at h (j := i) (u := nv y) (by rw [List.getElem?_map, hx]; rfl)
        simpa [elInt, nv] using this

def lenV : Value → Nat
  | .slice _ l _ => l
  | _ => 0

set_option maxHeartbeats 2000000 in
theorem comps_any {w : World} {gl n c : Nat} {T N : Nat → Nat → Bool} {F : Nat → Nat → Int} (h : LinksAt w gl n T N F) (hn : n ≤ 128) :
    Calls Try.prog 26 #[.agg #[.int .i64 (n : Int), .slice (some ⟨gl, 0, none⟩) (n * n) c]] w fun e w' => ∃ (tv : Value) (H : Nat → Int) (reps : List Nat) (M : Nat → Value), e = .returned tv ∧ (∀ v, v < n → LeastOf (Ed n T) v (H v)) ∧ Greedy n T H reps ∧ (∀ q, q < n → H q = q → q ∉ reps → ¬ ReadyIn n T H reps q) ∧ Told w.heap.size w' n H tv reps M ∧ Below w.heap.size w w' := by
  have hmk := fun W : World => run_make_row' (P := Try.prog) 26 33 (.slice none 0 0) 24 Try.underlying26 Try.infoInts rfl .i64 .i64 n (by omega) (by omega) W
  obtain ⟨i0, hi0, hz0, hz1, hz2⟩ := info_parts Try.infoInt9
  obtain ⟨j0, hj0, hy0, hy1, hy2⟩ := info_parts Try.infoInts
  have hb0 := belo1 w (.cells #[.int .i64 (n : Int), .slice (some ⟨gl, 0, none⟩) (n * n) c] 48)
  have HHm := hide (homes_any (c := c) (h.kept hb0) hn)
  obtain ⟨Y, hY⟩ : ∃ Y, Y = w.alloc (.cells #[.int .i64 (n : Int), .slice (some ⟨gl, 0, none⟩) (n * n) c] 48) := ⟨_, rfl⟩
  have HYx : Hid (Y.heap[w.heap.size]? = some (.cells #[.int .i64 (n : Int), .slice (some ⟨gl, 0, none⟩) (n * n) c] 48 (0, 0))) := by show _ = _; rw [hY]; exact heap_alloc_new _ _
  have HYs : Hid (Y.heap.size = w.heap.size + 1) := by show _ = _; rw [hY]; simp
  have HL := hide h
  have HYe := hide hY
  rw [← hY] at HHm hb0
  have HB0 := hide hb0
  have hglt := h.lt
  clear h hb0 hY
  have HX : Hid (∀ V : World, Below Y.heap.size Y V → V.cell? ⟨w.heap.size, 0, none⟩ = some (.int .i64 (n : Int)) ∧ V.cell? ⟨w.heap.size, 1, none⟩ = some (.slice (some ⟨gl, 0, none⟩) (n * n) c)) := fun V hV => by
    have h1 := hV.block w.heap.size (by rw [HYs.out]; omega)
    rw [HYx.out] at h1
    constructor <;> simp [World.cell?, h1]
  have hs := HYs.out
  obtain ⟨x0, x1⟩ := HX.out Y (Below.refl _ _)
  go_enter Try.func26, Try.ntmps26
  go_wp2
  rw [← HYe.out]
  go_step3
  go_wp2_with (go_at_call 35; refine HHm.out.mono ?_; rintro e w1 ⟨gh, H, rfl, h1, h2, h3, h4⟩; have HG1 := hide h1; have HR1 := hide h2; have HLe := hide h3; have HB1 := hide h4; clear h1 h2 h3 h4 x0 x1; obtain ⟨x0, x1⟩ := HX.out w1 HB1.out; have x0' := kept_cell (belo1 w1 (.cells (madeCells #[.slice none 0 0] n) 33)) x0)
  have hgh : gh < w1.heap.size := HR1.out.lt
  have HIn := hide (least_in HLe.out)
  go_loopw [5, 16] (fun _ i wl => ∃ (k : Nat) (M : Nat → Value), k ≤ n ∧ i = .int .i64 k ∧ Hid (MemAt w1.heap.size wl w1.heap.size n M (fun r => memL H k r)) ∧ Hid (Below w1.heap.size w1 wl)) (fun _ i _ => n - (intOf i).toNat)
  case atStart => exact ⟨0, _, by omega, rfl, MemAt.made _ _ _ (Nat.le_refl _), belo1 _ _⟩
  case round =>
    obtain ⟨k, M, hk, rfl, HM, HB⟩ := hrel
    clear x0 x1 x0'
    have hSz : w1.heap.size ≤ wr.heap.size := HB.out.size
    by_cases hlt : k < n
    · have hi : (k : Int) < (n : Int) := by omega
      have hik0 : (0 : Int) ≤ (k : Int) := by omega
      obtain ⟨q0, q1⟩ := HIn.out k hlt
      obtain ⟨hr, hhr⟩ : ∃ hr : Nat, H k = hr := ⟨(H k).toNat, by omega⟩
      have hrn : hr < n := by omega
      have hri : (hr : Int) < (n : Int) := by omega
      have hri0 : (0 : Int) ≤ (hr : Int) := by omega
      have y0 : wr.cell? ⟨gh, k, none⟩ = some (.int .i64 (hr : Int)) := by rw [← hhr]; exact (HR1.out.of_block (HB.out.block _ hgh)).cell hlt
      have y1 := HM.out.row.cell hrn
      have y1f := HM.out.row.frozen hr
      obtain ⟨ao, cap, hMr⟩ := HM.out.shape hrn
      have HMr := hide hMr
      rw [hMr] at y1
      have hlen := memL_len H k hr
      have HOw := hide (HM.out.own hr hrn)
      rw [hMr] at HOw
      have HHk := hide hhr
      clear hhr q0 q1 hMr
      obtain ⟨L, hL⟩ : ∃ L, memL H k hr = L := ⟨_, rfl⟩
      rw [hL] at HOw y1 hlen
      have HLq := hide hL
      clear hL
      obtain ⟨xs, hxs⟩ : ∃ xs, L.map nv = xs := ⟨_, rfl⟩
      rw [hxs] at HOw
      have HXs := hide hxs
      clear hxs
      have HOw2 := hide (own_kept6 HOw.out (((Below.refl wr.heap.size wr).alloc (Nat.le_refl _) (.cells #[.int .i64 (k : Int)] 3)).drew))
      have HS1 : wr.drew.cell? ⟨gh, k, none⟩ = some (.int .i64 (hr : Int)) ∧ wr.drew.cell? ⟨w1.heap.size, hr, none⟩ = some (.slice ao L.length cap) := ⟨y0, y1⟩
      have HS2 : ((wr.alloc (.cells #[.int .i64 (k : Int)] 3)).drew).cell? ⟨gh, k, none⟩ = some (.int .i64 (hr : Int)) ∧ ((wr.alloc (.cells #[.int .i64 (k : Int)] 3)).drew).cell? ⟨w1.heap.size, hr, none⟩ = some (.slice ao L.length cap) := ⟨kept_cell (belo1 wr _).drew y0, kept_cell (belo1 wr _).drew y1⟩
      go_wp2
      refine wp_region_last (by kernel_rfl) (fun w' => w'.cell? ⟨gh, k, none⟩ = some (.int .i64 (hr : Int)) ∧ w'.cell? ⟨w1.heap.size, hr, none⟩ = some (.slice ao L.length cap)) 16 ?_
      refine wpAnyM_take (i := 0) (v := ?_) rfl (by kernel_rfl) (by kernel_rfl) (by kernel_rfl) (by kernel_rfl) (fun _ _ _ h => h) HS1 (Or.inl ⟨by rfl, ?_⟩) ?_
      rotate_left
      · (intro w hSw; (try dsimp only at hSw); go_simp; try with_reducible rfl)
      simp only [Act.put, List.setIfInBounds_toArray, List.set_cons_zero, List.set_cons_succ]
      refine wpAnyM_take (i := 1) (v := ?_) rfl (by kernel_rfl) (by kernel_rfl) (by kernel_rfl) (by kernel_rfl) (fun _ _ _ h => h) HS1 (Or.inl ⟨by rfl, ?_⟩) ?_
      rotate_left
      · (intro w hSw; (try dsimp only at hSw); go_simp; try with_reducible rfl)
      simp only [Act.put, List.setIfInBounds_toArray, List.set_cons_zero, List.set_cons_succ]
      refine wpAnyM_take (i := 2) (v := ?_) rfl (by kernel_rfl) (by kernel_rfl) (by kernel_rfl) (by kernel_rfl) (fun _ _ _ h => h) HS1 (Or.inl ⟨by rfl, ?_⟩) ?_
      rotate_left
      · (intro w hSw; (try dsimp only at hSw); go_simp; try with_reducible rfl)
      simp only [Act.put, List.setIfInBounds_toArray, List.set_cons_zero, List.set_cons_succ]
      refine wpAnyM_take (i := 3) (v := ?_) rfl (by kernel_rfl) (by kernel_rfl) (by kernel_rfl) (by kernel_rfl) (fun _ _ _ h => h) HS1 (Or.inl ⟨by rfl, ?_⟩) ?_
      rotate_left
      · (intro w hSw; (try dsimp only at hSw); go_simp; try with_reducible rfl)
      simp only [Act.put, List.setIfInBounds_toArray, List.set_cons_zero, List.set_cons_succ]
      refine wpAnyM_take (i := 4) (v := ?_) rfl (by kernel_rfl) (by kernel_rfl) (by kernel_rfl) (by kernel_rfl) (fun _ _ _ h => h) HS1 (Or.inl ⟨by rfl, ?_⟩) ?_
      rotate_left
      · (intro w hSw; (try dsimp only at hSw); go_simp; try with_reducible rfl)
      simp only [Act.put, List.setIfInBounds_toArray, List.set_cons_zero, List.set_cons_succ]
      refine wpAnyM_take (i := 5) (v := ?_) rfl (by kernel_rfl) (by kernel_rfl) (by kernel_rfl) (by kernel_rfl) (fun _ _ _ h => h) HS1 (Or.inl ⟨by rfl, ?_⟩) ?_
      rotate_left
      · (intro w hSw; (try dsimp only at hSw); go_simp; try with_reducible rfl)
      simp only [Act.put, List.setIfInBounds_toArray, List.set_cons_zero, List.set_cons_succ]
      refine wpAnyM_take (i := 6) (v := ?_) rfl (by kernel_rfl) (by kernel_rfl) (by kernel_rfl) (by kernel_rfl) (fun _ _ _ h => h) HS1 (Or.inl ⟨by rfl, ?_⟩) ?_
      rotate_left
      · (intro w hSw; (try dsimp only at hSw); go_simp; try with_reducible rfl)
      simp only [Act.put, List.setIfInBounds_toArray, List.set_cons_zero, List.set_cons_succ]
      refine wpAnyM_take (i := 7) (v := ?_) rfl (by kernel_rfl) (by kernel_rfl) (by kernel_rfl) (by kernel_rfl) (fun _ _ _ h => h) HS1 (Or.inl ⟨by rfl, ?_⟩) ?_
      rotate_left
      · (intro w hSw; (try dsimp only at hSw); go_simp; try with_reducible rfl)
      simp only [Act.put, List.setIfInBounds_toArray, List.set_cons_zero, List.set_cons_succ]
      refine wpAnyM_take (i := 8) (v := ?_) rfl (by kernel_rfl) (by kernel_rfl) (by kernel_rfl) (by kernel_rfl) (fun _ _ _ h => h) HS1 (Or.inl ⟨by rfl, ?_⟩) ?_
      rotate_left
      · (intro w hSw; (try dsimp only at hSw); go_simp; try with_reducible rfl)
      simp only [Act.put, List.setIfInBounds_toArray, List.set_cons_zero, List.set_cons_succ]
      refine wpAnyM_take (i := 9) (v := ?_) rfl (by kernel_rfl) (by kernel_rfl) (by kernel_rfl) (by kernel_rfl) (fun _ _ _ h => h) HS1 (Or.inl ⟨by rfl, ?_⟩) ?_
      rotate_left
      · (intro w hSw; (try dsimp only at hSw); go_simp; try with_reducible rfl)
      simp only [Act.put, List.setIfInBounds_toArray, List.set_cons_zero, List.set_cons_succ]
      refine wpAnyM_take (i := 10) (v := ?_) rfl (by kernel_rfl) (by kernel_rfl) (by kernel_rfl) (by kernel_rfl) (fun _ _ _ h => h) HS1 (Or.inl ⟨by rfl, ?_⟩) ?_
      rotate_left
      · (intro w hSw; (try dsimp only at hSw); go_simp; try with_reducible rfl)
      simp only [Act.put, List.setIfInBounds_toArray, List.set_cons_zero, List.set_cons_succ]
      refine wpAnyM_take (i := 11) (v := ?_) rfl (by kernel_rfl) (by kernel_rfl) (by kernel_rfl) (by kernel_rfl) (fun _ _ _ h => h) HS1 (Or.inl ⟨by rfl, ?_⟩) ?_
      rotate_left
      · (intro w hSw; (try dsimp only at hSw); go_simp; try with_reducible rfl)
      simp only [Act.put, List.setIfInBounds_toArray, List.set_cons_zero, List.set_cons_succ]
      refine wpAnyM_take (i := 12) (v := ?_) rfl (by kernel_rfl) (by kernel_rfl) (by kernel_rfl) (by kernel_rfl) (fun _ _ _ h => h) HS1 (Or.inl ⟨by rfl, ?_⟩) ?_
      rotate_left
      · (intro w hSw; (try dsimp only at hSw); go_simp; try with_reducible rfl)
      simp only [Act.put, List.setIfInBounds_toArray, List.set_cons_zero, List.set_cons_succ]
      refine wpAnyM_one (i := 13) (by kernel_rfl) rfl (fun K hK => ?_)
      go_simp
      refine hK.out _ _ HS2 (fun _ => ?_)
      clear hK K
      refine wpAnyM_one (i := 14) (by kernel_rfl) rfl (fun K hK => ?_)
      refine step_append_lies _ (by rfl) _ _ _ (by rfl) w1.heap.size 3 i0 _ 1 8 Try.underlying33 hi0 hz0 hz1 hz2 rfl (by decide) (.slice ao L.length cap) L.length xs (by rfl) HOw2.out ⟨wr.heap.size, 0, none⟩ 1 1 [.int .i64 (k : Int)] (by rfl) (by rfl) (World.news_of_block (cs := #[.int .i64 (k : Int)]) (t := 3) (fr := (0, 0)) (heap_alloc_new wr _)) (by simp [Value.oneCell']) (by decide) (by unfold maxLen; omega) (by omega) (Nat.le_trans hSz (belo1 wr _).size) (wr.heap.size + 1) (by simp) ?_
      intro g2 cap2 V hown hgrow hat hltV
      have HMd := hide (HM.out.kept ((Below.refl wr.heap.size wr).drew))
      have hMb : M hr = .slice ao L.length cap := HMr.out.trans (by rw [HLq.out])
      have keepV : ∀ b, b < wr.heap.size → (Value.slice ao L.length cap).ownBlock ≠ some b → V.heap[b]? = wr.heap[b]? := fun b hb hne => by
        rw [hgrow.block b (Nat.lt_of_lt_of_le hb (belo1 wr _).size) (fun e => hne e.symm)]
        exact heap_alloc_old wr _ (by exact hb)
      have nGh : (Value.slice ao L.length cap).ownBlock ≠ some gh := fun e => by have := own_new HOw.out gh e; omega
      have nGm : (Value.slice ao L.length cap).ownBlock ≠ some w1.heap.size := by rw [← hMb]; exact HM.out.ngm hr hrn
      have HS3 : V.cell? ⟨gh, k, none⟩ = some (.int .i64 (hr : Int)) ∧ V.cell? ⟨w1.heap.size, hr, none⟩ = some (.slice ao L.length cap) := ⟨by rw [World.cell?_of_block (w := wr) (keepV gh (by omega) nGh)]; exact y0, by rw [World.cell?_of_block (w := wr) (keepV w1.heap.size HM.out.row.lt nGm)]; exact y1⟩
      have fV : V.frozen? ⟨w1.heap.size, hr, none⟩ = false := by rw [World.frozen?_of_block (w := wr) (keepV w1.heap.size HM.out.row.lt nGm)]; exact y1f
      have HBV : Hid (Below w1.heap.size w1 V) := below_grown ((HB.out.alloc hSz _).drew) HOw2.out hgrow (Nat.le_trans hSz (belo1 wr _).size)
      have HMn : Hid (MemAt w1.heap.size (V.setCell ⟨w1.heap.size, hr, none⟩ (.slice (some ⟨g2, 0, none⟩) (L.length + 1) cap2)) w1.heap.size n (updV M hr (.slice (some ⟨g2, 0, none⟩) (L.length + 1) cap2)) (fun r => memL H (k + 1) r)) := by
        rw [← HXs.out] at hown
        have h1 := HMd.out.push (r := hr) (q := k) (g := g2) (cap := cap2) (V := V) (o := .cells #[.int .i64 (k : Int)] 3) hrn (by rw [HLq.out]; exact hown) (by rw [hMb]; exact hgrow) (by rw [hMb]; exact hat)
        rw [HLq.out] at h1
        have h2 : updL (fun r => memL H k r) hr (L ++ [k]) = fun r => memL H (k + 1) r := by
          funext r
          rw [memL_succ]
          by_cases e : r = hr
          · subst e
            rw [updL_at, HLq.out, HHk.out]
            simp
          · rw [updL_ne _ _ e]
            have h3 : (H k == (r : Int)) = false := by rw [HHk.out, beq_eq_false_iff_ne]; omega
            rw [h3]; simp
        rw [h2] at h1
        exact h1
      have HBn : Hid (Below w1.heap.size w1 (V.setCell ⟨w1.heap.size, hr, none⟩ (.slice (some ⟨g2, 0, none⟩) (L.length + 1) cap2))) := HBV.out.setCell (Nat.le_refl _) _
      have HS3h := hide HS3
      refine hK.out _ _ HS3 (fun _ => ?_)
      clear hK K hown hgrow hat hltV HS1 HS2 nGh nGm keepV hMb HMd
      try simp only [Act.put, List.setIfInBounds_toArray, List.set_cons_zero, List.set_cons_succ]
      refine wpAnyM_one (i := 15) (by kernel_rfl) rfl (fun K hK => ?_)
      go_simp
      refine hK.out _ _ HS3h.out (fun _ => ?_)
      clear hK K
      obtain ⟨v0, v1⟩ := HS3
      refine wpAnyM_end (by kernel_rfl) rfl (by kernel_rfl) (fun K hK => ?_)
      go_simp
      refine hK.out _ _ ?_
      clear hK K v0 v1
      clear HS3h y0 y1
      go_wp2
      go_roundw
      case rel => exact ⟨k + 1, _, by omega, by go_num, HMn, HBn⟩
      case measure => simp [intOf]; omega
    · obtain rfl : k = n := by omega
      have hi : ¬ (k : Int) < (k : Int) := by omega
      have hBY : Below Y.heap.size Y wr := HB1.out.trans (HB.out.mono HB1.out.size)
      obtain ⟨x0, x1⟩ := HX.out wr hBY
      have HWt := hide (waits_any (c := c) (H := H) (HL.out.low (HB0.out.trans (hBY.mono HB0.out.size)) hglt) hn (HR1.out.of_block (HB.out.block _ hgh)) HIn.out)
      have HBY := hide hBY
      clear hBY
      go_wp2_with (go_at_call 36; refine HWt.out.mono ?_; rintro e w2 ⟨gq, rfl, h1, h2, h3⟩; have HQ1 := hide h1; have HQ2 := hide h2; have HB2 := hide h3; clear h1 h2 h3)
      go_step3
      have hgm : w1.heap.size < wr.heap.size := HM.out.row.lt
      have HBw2 := hide (HB.out.trans (HB2.out.mono hSz))
      have hgqw : w1.heap.size < gq := by have := HQ1.out; omega
      have hww1 : w.heap.size < w1.heap.size := by have := HB1.out.size; omega
      have HMs := hide (And.intro HM.out.dis HM.out.ngm)
      have hgq : gq ≠ w1.heap.size := by have := HQ1.out; omega
      have HnQ : Hid (∀ i, i < k → (M i).ownBlock ≠ some gq) := fun i hi' e => by have := own_lt6 (HM.out.own i hi') gq e; have := HQ1.out; omega
      have HTl : Hid (TellAt w1.heap.size w2 w1.heap.size gq k T H M (.slice none 0 0) []) := by
        have h1 := HM.out.kept HB2.out
        exact ⟨h1.row.congr fun i _ => by simp, HQ2.out.congr fun r _ => by congr 2, World.ownsRow_nil _ _ _ _, ⟨fun e => (by cases e), fun e => (by cases e), fun i _ b _ e => (by cases e)⟩, h1.own⟩
      clear HM HQ2 HWt
      go_wp2
      go_loopw [7, 8] (fun tv _ wl => ∃ reps : List Nat, Hid (TellAt w1.heap.size wl w1.heap.size gq k T H M tv reps) ∧ Hid (Greedy k T H reps) ∧ Hid (Below w1.heap.size w1 wl)) (fun tv _ _ => k - lenV tv)
      case atStart => exact ⟨[], HTl, Greedy.nil _ _ _, HBw2⟩
      case round =>
        clear HTl HBw2 x0 x1
        obtain ⟨reps, HTa, HGr, HBa⟩ := hrel
        obtain ⟨x0, x1⟩ := HX.out wr (HB1.out.trans (HBa.out.mono HB1.out.size))
        obtain ⟨ta, tc, htv, -, -, -⟩ := own_shape6 HTa.out.told
        subst htv
        have hrl : reps.length ≤ k := nodup_len HGr.out.nd (fun v hv => (HGr.out.rep v hv).1)
        obtain ⟨wo, hwo⟩ : ∃ wo, wo = wr := ⟨_, rfl⟩
        have HWo := hide hwo
        rw [← hwo] at HTa HBa
        clear hwo
        go_wp2
        clear x0 x1
        go_loopw [7, 8, 41] (fun tv _ i wl => ∃ j : Nat, tv = .slice ta reps.length tc ∧ j ≤ k ∧ i = .int .i64 j ∧ Hid (∀ q, q < j → q ∈ reps ∨ memL H k q = [] ∨ 0 < wt k T H (restB H reps) k q) ∧ Hid (Below wo.heap.size wo wl)) (fun _ _ i _ => k - (intOf i).toNat)
        case atStart => exact ⟨0, rfl, by omega, rfl, (by show ∀ q, q < 0 → _; intro q h; omega), by show Below _ _ _; rw [HWo.out]; exact Below.refl _ _⟩
        case round =>
          obtain ⟨j, rfl, hj, rfl, HK, HBj⟩ := hrel
          have HT := hide (HTa.out.kept HBj.out)
          have hwo1 : w1.heap.size ≤ wo.heap.size := HBa.out.size
          have hwj : w1.heap.size ≤ wr.heap.size := Nat.le_trans hwo1 HBj.out.size
          have HBr := hide (HBa.out.trans (HBj.out.mono hwo1))
          by_cases hlt : j < k
          · have hij : (j : Int) < (k : Int) := by omega
            have hij0 : (0 : Int) ≤ (j : Int) := by omega
            have m0 := HT.out.rowM.cell hlt
            have m1 := HT.out.rowQ.cell hlt
            obtain ⟨y, hy⟩ : ∃ y, wt k T H (restB H reps) k j = y := ⟨_, rfl⟩
            rw [hy] at m1
            have HY := hide hy
            clear hy
            have hnext : (j ∈ reps ∨ memL H k j = [] ∨ 0 < wt k T H (restB H reps) k j) → ∀ q, q < j + 1 → q ∈ reps ∨ memL H k q = [] ∨ 0 < wt k T H (restB H reps) k q := fun hq q hq' => by
              rcases Nat.lt_succ_iff_lt_or_eq.1 hq' with h | h
              · exact HK.out q h
              · rw [h]; exact hq
            have HNx := hide hnext
            clear hnext
            by_cases hin : j ∈ reps
            · rw [if_pos hin] at m0
              have HK2 := hide (HNx.out (.inl hin))
              clear hin
              go_wp2
              go_roundw
              case rel => exact ⟨j + 1, rfl, by omega, by go_num, HK2, HBj⟩
              case measure => simp [intOf]; omega
            · rw [if_neg hin] at m0
              obtain ⟨ao, cap, hMj, -, -, -⟩ := own_shape6 (HT.out.lst j hlt)
              rw [hMj] at m0
              have hml := memL_len H k j
              by_cases hz : (memL H k j).length = 0
              · have d1 : (((memL H k j).length : Int) == 0) = true := by simpa using hz
                have HK2 := hide (HNx.out (.inr (.inl (List.eq_nil_of_length_eq_zero hz))))
                clear hz hin
                go_wp2
                go_roundw
                case rel => exact ⟨j + 1, rfl, by omega, by go_num, HK2, HBj⟩
                case measure => simp [intOf]; omega
              · have d1 : (((memL H k j).length : Int) == 0) = false := by rw [beq_eq_false_iff_ne]; omega
                by_cases hw : 0 < y
                · have d2 : decide (0 < (y : Int)) = true := by simpa using hw
                  have HK2 := hide (HNx.out (.inr (.inr (by rw [HY.out]; exact hw))))
                  clear hz hin
                  go_wp2
                  go_roundw
                  case rel => exact ⟨j + 1, rfl, by omega, by go_num, HK2, HBj⟩
                  case measure => simp [intOf]; omega
                · have d2 : decide (0 < (y : Int)) = false := by simpa using hw
                  have d3 : decide (0 < y) = false := by simpa using hw
                  have HNi := hide hin
                  have HNe : Hid (memL H k j ≠ []) := fun e => hz (by rw [e]; rfl)
                  have HRd : Hid (ReadyIn k T H reps j) := wt_zero.1 (by rw [HY.out]; omega)
                  have HMj := hide hMj
                  obtain ⟨LL, hLL⟩ : ∃ LL, memL H k j = LL := ⟨_, rfl⟩
                  have HLL := hide hLL
                  rw [hLL] at m0 hml d1 HMj
                  have HOw := hide (own_kept6 HT.out.told (belo1 wr (.cells #[.slice ao LL.length cap] 33)))
                  obtain ⟨xs, hxs⟩ : ∃ xs, reps.map M = xs := ⟨_, rfl⟩
                  rw [hxs] at HOw
                  have HXs := hide hxs
                  clear hz hin hw hMj hLL hxs
                  go_wp2_with (at_builtin; refine wpList_append_lies _ rfl _ _ 26 rfl w1.heap.size 33 j0 (.slice none 0 0) 1 24 Try.underlying26 hj0 hy0 hy1 hy2 rfl (by decide) (.slice ta reps.length tc) reps.length xs rfl HOw.out ⟨wr.heap.size, 0, none⟩ 1 1 [.slice ao LL.length cap] rfl rfl (World.news_of_block (cs := #[.slice ao LL.length cap]) (t := 33) (fr := (0, 0)) (heap_alloc_new wr _)) (by simp [Value.oneCell']) (by decide) (by unfold maxLen; omega) (by omega) (by simp; omega) (wr.heap.size + 1) (by simp) ?_)
                  intro g3 cap3 V hown hgrow hat hltV
                  have hBV : Below w1.heap.size w1 V := below_grown (HBr.out.alloc hwj _) HOw.out hgrow (by simp; omega)
                  have hBYV : Below Y.heap.size Y V := HB1.out.trans (hBV.mono HB1.out.size)
                  have hBwV : Below w.heap.size w V := HB0.out.trans (hBYV.mono HB0.out.size)
                  obtain ⟨v0, v1⟩ := HX.out V hBYV
                  have keepV : ∀ b, b < wr.heap.size → (Value.slice ta reps.length tc).ownBlock ≠ some b → V.heap[b]? = wr.heap[b]? := fun b hb hne => by
                    rw [hgrow.block b (by simp; omega) (fun e => hne e.symm)]
                    exact heap_alloc_old wr _ (by exact hb)
                  have v2 : V.cell? ⟨w1.heap.size, j, none⟩ = some (.slice ao LL.length cap) := by rw [World.cell?_of_block (w := wr) (keepV _ HT.out.rowM.lt HT.out.td.1)]; exact m0
                  have v2f : V.frozen? ⟨w1.heap.size, j, none⟩ = false := by rw [World.frozen?_of_block (w := wr) (keepV _ HT.out.rowM.lt HT.out.td.1)]; exact HT.out.rowM.frozen j
                  have hMjv := HMj.out
                  have hlO : V.ownsRow w1.heap.size 3 1 (M j) (memL H k j).length ((memL H k j).map nv) := own_same (HT.out.lst j hlt) fun b hb => keepV b (own_lt6 (HT.out.lst j hlt) b hb) (HT.out.td.2.2 j hlt b hb)
                  have hlOd := own_kept6 hlO (Below.refl V.heap.size V).drew
                  have hqV : V.rowIs gq 3 k (fun r => .int .i64 (wt k T H (restB H reps) k r : Int)) := HT.out.rowQ.of_block (keepV _ HT.out.rowQ.lt HT.out.td.2.1)
                  have hmem : ∀ x ∈ memL H k j, x < k := fun x hx => by
                    unfold memL at hx
                    exact List.mem_range.1 (List.mem_filter.1 hx).1
                  have hmlk := memL_len H k j
                  have HRl := hide (release_any (c := c) (w := V.drew) (X := fun r => (wt k T H (restB H reps) k r : Int)) (v := M j) (l := memL H k j) (HL.out.low hBwV.drew hglt) hn (HR1.out.of_block (hBV.block _ hgh)).drew HIn.out hqV.drew (fun r _ => by
                      have h1 := wt_le k T H (restB H reps) k r
                      have h2 : k * k ≤ 16384 := Nat.le_trans (Nat.mul_le_mul hn hn) (by decide)
                      omega) (own_has hlOd (by omega) (fun x hx => by have := hmem x hx; omega)) hmem (by omega) (by omega) (by omega) (fun b off len cap' e e2 => HnQ.out j hlt (by rw [e, e2]; rfl)))
                  rw [hMjv] at HRl
                  have HOwn := hide hown
                  have HGrw := hide hgrow
                  have HAt := hide hat
                  have HBV := hide hBV
                  have HBYV := hide hBYV
                  clear hown hgrow hat hltV hBV hBYV hBwV hlO hlOd hqV hmem m0 m1 keepV
                  go_wp2
                  go_region_held3 (fun w' => w'.cell? ⟨w.heap.size, 0, none⟩ = some (.int .i64 (k : Int)) ∧ w'.cell? ⟨w.heap.size, 1, none⟩ = some (.slice (some ⟨gl, 0, none⟩) (k * k) c) ∧ w'.cell? ⟨w1.heap.size, j, none⟩ = some (.slice ao LL.length cap))
                    (first | exact ⟨v0, v1, v2⟩ | exact HSk.out)
                    (first | (go_at_call 37; refine HRl.out.mono ?_; rintro e V2 ⟨rfl, hr1, hr2⟩; have HSk : Hid (V2.cell? ⟨w.heap.size, 0, none⟩ = some (.int .i64 (k : Int)) ∧ V2.cell? ⟨w.heap.size, 1, none⟩ = some (.slice (some ⟨gl, 0, none⟩) (k * k) c) ∧ V2.cell? ⟨w1.heap.size, j, none⟩ = some (.slice ao LL.length cap)) := ⟨hr2.cell (w := V.drew) v0 (fun e => by dsimp only at e; omega), hr2.cell (w := V.drew) v1 (fun e => by dsimp only at e; omega), hr2.cell (w := V.drew) v2 (fun e => by dsimp only at e; omega)⟩; have HRq := hide hr1; have HOn := hide hr2; clear hr1 hr2))
                  have z2 := HSk.out.2.2
                  have z2f : V2.frozen? ⟨w1.heap.size, j, none⟩ = false := by
                    rw [World.frozen?_of_block (w := V.drew) (HOn.out.block w1.heap.size (lt_of_cell (w := V) v2) (Ne.symm hgq))]
                    exact v2f
                  clear v0 v1 v2 v2f
                  go_wp2
                  have hOn : Only (fun b => b = gq) V V2 := ⟨HOn.out.os, HOn.out.tape, HOn.out.output, HOn.out.size, HOn.out.block⟩
                  have hNx : TellAt w1.heap.size (V2.setCell ⟨w1.heap.size, j, none⟩ (.slice none 0 0)) w1.heap.size gq k T H M (.slice (some ⟨g3, 0, none⟩) (reps.length + 1) cap3) (reps ++ [j]) := by
                    have h1 := HOwn.out
                    rw [← HXs.out, ← hMjv] at h1
                    exact HT.out.next hlt HNi.out (fun v hv => (HIn.out v hv).1) (Ne.symm hgq) (fun i hi' => ⟨HnQ.out i hi', HMs.out.2 i hi'⟩) h1 HGrw.out HAt.out HRq.out hOn
                  have hHj : H j = j := by
                    obtain ⟨x, hx⟩ := List.exists_mem_of_ne_nil _ HNe.out
                    unfold memL at hx
                    obtain ⟨hx1, hx2⟩ := List.mem_filter.1 hx
                    have hxk := List.mem_range.1 hx1
                    have hxj : H x = j := by simpa using hx2
                    obtain ⟨m, e, hm, _⟩ := HLe.out x hxk
                    have hmj : m = j := by omega
                    subst hmj
                    rw [← (least_eq (HLe.out x hxk) (HLe.out m hlt)).2 hm]
                    exact hxj
                  have hG : Greedy k T H (reps ++ [j]) := HGr.out.snoc hlt hHj HNi.out HRd.out (fun q hq hHq hqj hqr hrd => by
                    rcases HK.out q hqj with h1 | h1 | h1
                    · exact hqr h1
                    · have : q ∈ memL H k q := by unfold memL; exact List.mem_filter.2 ⟨List.mem_range.2 hq, by simpa using hHq⟩
                      rw [h1] at this; cases this
                    · have := wt_zero.2 hrd; omega)
                  have hlr : reps.length + 1 ≤ k := by
                    have := nodup_len hG.nd (fun v hv => (hG.rep v hv).1)
                    simpa using this
                  exact ⟨⟨_, hNx, hG, (HBV.out.trans (hOn.below (by have := HBV.out.size; omega) (fun b hb e => by omega))).setCell (Nat.le_refl _) _⟩, by unfold lenV; dsimp only; omega⟩
          · obtain rfl : j = k := by omega
            have hij : ¬ (j : Int) < (j : Int) := by omega
            have HF : Hid (∀ q, q < j → H q = q → q ∉ reps → ¬ ReadyIn j T H reps q) := fun q hq hHq hqr hrd => by
              rcases HK.out q hq with h1 | h1 | h1
              · exact hqr h1
              · have : q ∈ memL H j q := by unfold memL; exact List.mem_filter.2 ⟨List.mem_range.2 hq, by simpa using hHq⟩
                rw [h1] at this; cases this
              · have := wt_zero.2 hrd; omega
            have HTf : Hid (Told w.heap.size wr j H (.slice ta reps.length tc) reps M) := ⟨own_mono6 (Nat.le_of_lt hww1) HT.out.told, fun r hr => own_mono6 (Nat.le_of_lt hww1) (HT.out.lst r hr), HMs.out.1, HT.out.td.2.2⟩
            have HBf : Hid (Below w.heap.size w wr) := HB0.out.trans ((HB1.out.trans (HBr.out.mono HB1.out.size)).mono HB0.out.size)
            go_wp2
            go_ret
            exact ⟨_, H, reps, M, rfl, HLe.out, HGr.out, HF.out, HTf.out, HBf.out⟩
end Go.Proofs.Ytjifhmlfnnagcaa
