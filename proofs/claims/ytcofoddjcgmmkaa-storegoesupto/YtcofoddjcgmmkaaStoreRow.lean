/- What rowAt and Row answer. -/
import Derived.Test.YtcofoddjcgmmkaaProg
import Derived.Test.YtcofoddjcgmmkaaStoreNum
import Derived.Test.YtcofoddjcgmmkaaIdsCut
namespace Go.Proofs.Ytcofoddjcgmmkaa
set_option linter.unusedSimpArgs false
set_option linter.unusedVariables false
open Go.RowKit Go.Maps
variable {mk : Mk}

theorem flat9 : ∀ (C : List (List Int)) (i j : Nat) (c : List Int) (x : Int), (∀ c ∈ C, c.length = 9) → C[i]? = some c → c[j]? = some x → (C.flatMap ints)[i * 9 + j]? = some (.int .i64 x)
  | [], i, j, c, x, _, h, _ => by simp at h
  | a :: r, 0, j, c, x, h9, h, hj => by
    simp only [List.getElem?_cons_zero, Option.some.injEq] at h
    subst h
    have hl : j < a.length := (List.getElem?_eq_some_iff.1 hj).1
    rw [List.flatMap_cons, Nat.zero_mul, Nat.zero_add, List.getElem?_append_left (by simpa using hl), List.getElem?_map, hj]
    rfl
  | a :: r, i + 1, j, c, x, h9, h, hj => by
    rw [List.getElem?_cons_succ] at h
    have ha := h9 a (by simp)
    rw [List.flatMap_cons, List.getElem?_append_right (by simp [ha]; omega), ← flat9 r i j c x (fun c hc => h9 c (by simp [hc])) h hj]
    congr 1
    simp [ha]; omega

/-- Where a row's cells lie. -/
theorem St.range {w : World} {p : Nat} {own : Own} {ar : List Int} {C : List (List Int)} {M : Nat} {L : Loc} {S : Sto} (hR : Raw w own p L S) (hS : Sane mk ar C M L S) {i : Nat} {c : List Int} (hc : C[i]? = some c) :
    ∃ g cap, L.vr = .slice (some ⟨g, 0, none⟩) C.length cap ∧ w.rangeAt g (i * 9) (ints c) ∧ C.length ≤ cap := by
  have h9 : ∀ c ∈ C, c.length = 9 := fun c hc => ((hS.ok c hc).len hS.arI).1
  have hrow := hR.rows
  rw [hS.eC] at hrow
  have hcl := h9 c (List.mem_of_getElem? hc)
  have hx0 : ∃ x, c[0]? = some x := ⟨_, List.getElem?_eq_getElem (by omega)⟩
  obtain ⟨x0, hx0⟩ := hx0
  obtain ⟨g, cap, e, _, hcap, _⟩ := hrow.cellAt (flat9 C i 0 c x0 h9 hc hx0)
  refine ⟨g, cap, e, fun j v hv => ?_, hcap⟩
  rw [List.getElem?_map] at hv
  cases hj : c[j]? with
  | none => rw [hj] at hv; simp at hv
  | some x =>
    rw [hj] at hv
    simp only [Option.map_some, Option.some.injEq] at hv
    subst hv
    obtain ⟨g', cap', e', hcell, _⟩ := hrow.cellAt (flat9 C i j c x h9 hc hj)
    rw [e] at e'
    simp only [Value.slice.injEq, Option.some.injEq, Addr.mk.injEq, and_true, true_and] at e'
    rw [e'.1]; exact hcell

theorem IsInts.only {A : Nat → Prop} {w w' : World} {ao : Option Addr} {len : Nat} {l : List Int} (h : IsInts w ao len l) (ho : Only A w w') (hs : 0 < len → ∀ a, ao = some a → ¬ A a.block) : IsInts w' ao len l :=
  ⟨h.1, h.2.1, h.2.2.1, fun hp => by obtain ⟨b, off, e, hc⟩ := h.2.2.2 hp; exact ⟨b, off, e, fun i x hi => ho.cell (hc i x hi) (hs hp ⟨b, off, none⟩ e)⟩⟩

set_option maxRecDepth 100000 in
set_option maxHeartbeats 4000000 in
theorem rowAt_any {w : World} {p : Nat} {own : Own} {ar : List Int} {C : List (List Int)} {M : Nat} (h : St mk w p own ar C M) (hM : M < 549755813888) {i : Nat} {q : Int} {l : List Int} (hc : C[i]? = some (cellsP q l)) (hm : mayP ar q l = true) :
    Calls Try.prog 37 #[.pointer (some ⟨p, 0, none⟩), .int .i64 i] w fun e w' => ∃ ao cap, e = .returned (.agg #[.int .i64 q, .slice ao l.length cap]) ∧ IsInts w' ao l.length l ∧ Below w.heap.size w w' ∧ (0 < l.length → ∃ g, ao = some ⟨g, 0, none⟩ ∧ w.heap.size ≤ g) := by
  obtain ⟨L, S, hR, hS, hlim⟩ := h
  obtain ⟨g, cr, hvr, hrg, hcap⟩ := St.range hR hS hc
  obtain ⟨k, rfl, hak, hbad⟩ := mayP_spec hm
  have h8 := hS.arI _ (List.mem_of_getElem? hak)
  have hcl : (cellsP (k : Int) l).length = 9 := cellsP_len (by omega)
  have hil : i < C.length := (List.getElem?_eq_some_iff.1 hc).1
  have c1 := hR.c1
  rw [hvr] at c1
  have c0 := hR.c0
  obtain ⟨aa, ca, hva, har2⟩ := hR.ar
  obtain ⟨ba, oa, rfl, -, hac⟩ := har2.resolve_left (fun e => by rw [hS.eAr] at e; rw [e] at hak; simp at hak)
  have a0 := hac k _ (by rw [hS.eAr]; exact hak)
  rw [hva] at c0
  have HRg := hide hrg
  have hnum := hS.num
  have hinf : (Try.prog.info? 56).map (·.size) = some (ints (cellsP (k : Int) l)).length := by rw [List.length_map, hcl]; kernel_rfl
  have hinf2 : (Try.prog.info? 56).map (·.size) = some (ints (cellsP (k : Int) l)).toArray.size := by rw [List.size_toArray, List.length_map, hcl]; kernel_rfl
  have hone : ∀ v ∈ ints (cellsP (k : Int) l), v.oneCell' = true := fun v hv => by obtain ⟨x, _, rfl⟩ := List.mem_map.1 hv; rfl
  have HAll := hide (all_oneCell_toArray hone)
  have hu := Try.underlying56
  have HLI : Hid (∀ x ∈ l, I64 x) := fun x hx => by
    obtain ⟨_, hI, _⟩ := (hS.ok _ (List.mem_of_getElem? hc)).len hS.arI
    exact hI x (by simp [cellsP, hx])
  obtain ⟨n, HN⟩ : ∃ n, Hid (n = C.length) := ⟨_, rfl⟩
  rw [← HN.out] at c1 hil hcap
  obtain ⟨la, HLA⟩ : ∃ la, Hid (la = S.ar.length) := ⟨_, rfl⟩
  rw [← HLA.out] at c0
  have hkl : (k : Int) < (la : Int) := by have := (List.getElem?_eq_some_iff.1 hak).1; rw [HLA.out, hS.eAr]; omega
  have hi1 : (i : Int) < (n : Int) := by omega
  have hi0 : (0 : Int) ≤ (i : Int) := by omega
  have hk0 : (0 : Int) ≤ (k : Int) := by omega
  have hlp := hR.plt
  have hlg : g < w.heap.size := lt_of_cell (hrg 0 (.int .i64 (k : Int)) rfl)
  have hlb := lt_of_cell a0
  simp only at hlb
  have HZ := hide (And.intro hcl h8)
  let WA : World := (w.alloc (.cells #[.int .i64 0, .slice none 0 0] 31)).alloc (.cells #[.int .i64 0, .int .i64 0, .int .i64 0, .int .i64 0, .int .i64 0, .int .i64 0, .int .i64 0, .int .i64 0, .int .i64 0] 56)
  have HRg2 : Hid ((w.alloc (.cells #[.int .i64 0, .slice none 0 0] 31)).rangeAt g (i * 9) (ints (cellsP (k : Int) l))) := World.rangeAt_alloc hrg _
  have HTh : Hid (((w.alloc (.cells #[.int .i64 0, .slice none 0 0] 31)).alloc (.cells #[.int .i64 0, .int .i64 0, .int .i64 0, .int .i64 0, .int .i64 0, .int .i64 0, .int .i64 0, .int .i64 0, .int .i64 0] 56)).there (w.heap.size + 1) 0 (ints (cellsP (k : Int) l)).toArray.size) := fun j hj => by
    rw [List.size_toArray, List.length_map, hcl] at hj
    have hb : ((w.alloc (.cells #[.int .i64 0, .slice none 0 0] 31)).alloc (.cells #[.int .i64 0, .int .i64 0, .int .i64 0, .int .i64 0, .int .i64 0, .int .i64 0, .int .i64 0, .int .i64 0, .int .i64 0] 56)).heap[w.heap.size + 1]? = some (.cells #[.int .i64 0, .int .i64 0, .int .i64 0, .int .i64 0, .int .i64 0, .int .i64 0, .int .i64 0, .int .i64 0, .int .i64 0] 56 (0, 0)) := by
      have := heap_alloc_new (w.alloc (.cells #[.int .i64 0, .slice none 0 0] 31)) (.cells #[.int .i64 0, .int .i64 0, .int .i64 0, .int .i64 0, .int .i64 0, .int .i64 0, .int .i64 0, .int .i64 0, .int .i64 0] 56)
      simpa using this
    rw [Nat.zero_add]
    refine ⟨?_, by simp only [World.frozen?, hb]; simp⟩
    simp only [World.cell?, hb]
    rw [Array.getElem?_eq_getElem (by simpa using hj)]
    rfl
  clear HRg hrg hone hS hR hlim hac hc hm hak hbad har2 hva hvr hnum hM hcap hcl h8 WA
  go_enter Try.func37, Try.ntmps37
  go_upto_region 2 with
    (first
      | ((with_reducible refine wpList_load_mid ?_ 56 (.tmp 11) ?_ g (i * 9) ?_ (ints (cellsP (k : Int) l)) _ HRg2.out hu ?_ hinf ?_); rfl; rfl; rfl; rfl)
      | ((with_reducible refine wpList_store_mid ?_ 56 (.tmp 5) (.tmp 12) ?_ (w.heap.size + 1) 0 (ints (cellsP (k : Int) l)).toArray ?_ ?_ HTh.out hinf2 HAll.out ?_); rfl; rfl; rfl; rfl))
  obtain ⟨WB, hWB⟩ : ∃ WB, WB = ((w.alloc (.cells #[.int .i64 0, .slice none 0 0] 31)).alloc (.cells #[.int .i64 0, .int .i64 0, .int .i64 0, .int .i64 0, .int .i64 0, .int .i64 0, .int .i64 0, .int .i64 0, .int .i64 0] 56)).setCells (w.heap.size + 1) 0 (ints (cellsP (k : Int) l)) := ⟨_, rfl⟩
  have hBA : Below w.heap.size w ((w.alloc (.cells #[.int .i64 0, .slice none 0 0] 31)).alloc (.cells #[.int .i64 0, .int .i64 0, .int .i64 0, .int .i64 0, .int .i64 0, .int .i64 0, .int .i64 0, .int .i64 0, .int .i64 0] 56)) := ((Below.refl _ w).alloc (Nat.le_refl _) _).alloc (by simp) _
  have hOA := setCells_only (w.heap.size + 1) (ints (cellsP (k : Int) l)) 0 ((w.alloc (.cells #[.int .i64 0, .slice none 0 0] 31)).alloc (.cells #[.int .i64 0, .int .i64 0, .int .i64 0, .int .i64 0, .int .i64 0, .int .i64 0, .int .i64 0, .int .i64 0, .int .i64 0] 56))
  have hBW : Below w.heap.size w WB := by rw [hWB]; exact hBA.trans (hOA.below hBA.size (fun k hk e => by omega))
  have hrB : WB.rangeAt (w.heap.size + 1) 0 (ints (cellsP (k : Int) l)) := by
    rw [hWB]; exact World.rangeAt_setCells_same _ _ _ _ (by have := HTh.out; rw [List.size_toArray] at this; exact this)
  have hrs : WB.heap[w.heap.size]? = some (.cells #[.int .i64 0, .slice none 0 0] 31 (0, 0)) := by
    rw [hWB, hOA.block _ (by simp <;> omega) (by omega), Below.heap_alloc _ _ _ (by simp)]
    exact heap_alloc_new _ _
  have x0 : WB.cell? ⟨w.heap.size + 1, 0, none⟩ = some (.int .i64 (k : Int)) := hrB 0 _ rfl
  have y0 := kept_cell hBW c0
  have y1 := kept_cell hBW a0
  have hIB : IsInts WB (some ⟨w.heap.size + 1, 1, none⟩) l.length l := ⟨rfl, by have := HZ.out.2; omega, HLI.out, fun _ => ⟨_, _, rfl, fun j x hj => by
    have := hrB (1 + j) (.int .i64 x) (by
      rw [List.getElem?_map, Nat.add_comm 1 j]
      simp only [cellsP, List.getElem?_cons_succ]
      rw [List.getElem?_append_left (List.getElem?_eq_some_iff.1 hj).1, hj]
      rfl)
    rw [Nat.zero_add] at this
    exact this⟩⟩
  have HCl : Hid (∀ W, Below WB.heap.size WB W → Calls Try.prog 38 #[.slice (some ⟨w.heap.size + 1, 1, none⟩) l.length 8] W fun e w' => ∃ ao' cap', e = .returned (.slice ao' l.length cap') ∧ IsInts w' ao' l.length l ∧ Below W.heap.size W w' ∧ (0 < l.length → ∃ g, ao' = some ⟨g, 0, none⟩ ∧ W.heap.size ≤ g)) := fun W hB => clone_any (hIB.kept hB) (fun e => by cases e)
  have hls : w.heap.size < WB.heap.size := lt_of_block hrs
  rw [← hWB]
  have HBW := hide hBW
  have HRS := hide hrs
  have hn1 : ¬ w.heap.size = p := by omega
  have hn2 : ¬ w.heap.size = ba := by omega
  have h81 : (1 : Int) ≤ 1 + (l.length : Int) := by omega
  have h82 : 1 + (l.length : Int) ≤ 9 := by have := HZ.out.2; omega
  have hwr : IntKind.i64.wrap (1 + (l.length : Int)) = 1 + (l.length : Int) := by have := HZ.out.2; rw [IntKind.wrap_i64]; omega
  have htn : (1 + (l.length : Int)).toNat = 1 + l.length := by omega
  clear hWB hBA hOA hBW hrB hrs hIB HTh HRg2 HAll c0 c1 a0 hil hi1 hi0 hinf hinf2
  obtain ⟨ll, hll⟩ : ∃ ll, ll = l.length := ⟨_, rfl⟩
  rw [← hll] at y1 HCl h81 h82 hwr htn
  have HLL := hide hll
  clear hll
  go_region_held3 (fun w' => w'.cell? ⟨w.heap.size + 1, 0, none⟩ = some (.int .i64 (k : Int)) ∧ w'.cell? ⟨p, 0, none⟩ = some (.slice (some ⟨ba, oa, none⟩) la ca) ∧ w'.cell? ⟨ba, oa + k, none⟩ = some (.int .i64 (ll : Int)))
    (first
      | exact hS3
      | (go_keep; done))
    (first
      | (go_at_call 38; refine (HCl.out _ (below_drewN _ _ 1)).mono ?_; rintro e w3 ⟨ao', cap', rfl, q1, q2, q3⟩; have hb4 : Below WB.heap.size WB w3 := (below_drewN _ WB 1).trans q2; have hS3 := And.intro (kept_cell hb4 x0) (And.intro (kept_cell hb4 y0) (kept_cell hb4 y1)); have hr3 : w3.heap[w.heap.size]? = some (.cells #[.int .i64 0, .slice none 0 0] 31 (0, 0)) := (by rw [hb4.block _ hls]; exact HRS.out); have z0 : w3.cell? ⟨w.heap.size, 0, none⟩ = some (.int .i64 0) := (by simp [World.cell?, hr3]); have z1 : w3.cell? ⟨w.heap.size, 1, none⟩ = some (.slice none 0 0) := (by simp [World.cell?, hr3]); have z2 : w3.frozen? ⟨w.heap.size, 0, none⟩ = false := (by simp [World.frozen?, hr3]); have z3 : w3.frozen? ⟨w.heap.size, 1, none⟩ = false := (by simp [World.frozen?, hr3]); have Q := hide (And.intro q1 (And.intro hb4 q3)); have HR3 := hide hr3; clear q1 q2 q3 hb4 hr3))
  go_wp2
  have hO : Only (fun b => b = w.heap.size) w3 ((w3.setCell ⟨w.heap.size, 0, none⟩ (.int .i64 (k : Int))).setCell ⟨w.heap.size, 1, none⟩ (.slice ao' ll cap')) := ((Only.refl (fun b => b = w.heap.size) w3).setCell (p := ⟨w.heap.size, 0, none⟩) rfl _).setCell (p := ⟨w.heap.size, 1, none⟩) rfl _
  have hf := Q.out.2.2
  have hB3 : Below w.heap.size w w3 := HBW.out.trans (Q.out.2.1.mono HBW.out.size)
  have HFr : 0 < ll → ∀ a : Addr, ao' = some a → ¬ a.block = w.heap.size := fun hp a e => by
    obtain ⟨g', e', hg'⟩ := hf hp
    rw [e] at e'
    simp only [Option.some.injEq] at e'
    subst e'
    have h5 : WB.heap.size ≤ g' := hg'
    simp only
    omega
  refine bodyPost_ret (v := .agg #[.int .i64 (k : Int), .slice ao' ll cap']) (by simp [results, Try.results37, go_sem, z0, z1, z2, z3]) rfl ⟨ao', cap', by rw [HLL.out], by rw [← HLL.out]; exact Q.out.1.only hO (fun hp a e => HFr hp a e), ?_, fun hp => ?_⟩
  · exact hB3.trans (hO.below hB3.size (fun k hk e => by omega))
  · rw [← HLL.out] at hp
    obtain ⟨g', e', hg'⟩ := hf hp
    have h5 : WB.heap.size ≤ g' := hg'
    exact ⟨g', e', by omega⟩
end Go.Proofs.Ytcofoddjcgmmkaa
