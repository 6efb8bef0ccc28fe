/- The document's Levels: levels are raised till nothing asks for more. -/
import Derived.Test.YtjifhmlfnnagcaaLevelsPure
import Derived.Test.YtjifhmlfnnagcaaEdgeRFit
import Derived.Test.YtjifhmlfnnagcaaEdgeMem
namespace Go.Proofs.Ytjifhmlfnnagcaa
set_option linter.unusedSimpArgs false
set_option linter.unusedVariables false
open Go.RowKit Go.Maps

/-- What is left to raise. -/
def gapS (n : Nat) (L : Nat → Int) : Nat → Nat
  | 0 => 0
  | k + 1 => gapS n L k + (n - (L k).toNat)
def gapW (g n : Nat) (w : World) : Nat → Nat
  | 0 => 0
  | k + 1 => gapW g n w k + (n - (intOf ((w.cell? ⟨g, k, none⟩).getD (.int .i64 0))).toNat)
theorem gapW_eq {g n : Nat} {w : World} {L : Nat → Int} (h : w.rowIs g 3 n (fun i => .int .i64 (L i))) : ∀ k, k ≤ n → gapW g n w k = gapS n L k
  | 0, _ => rfl
  | k + 1, hk => by
    rw [gapW, gapS, gapW_eq h k (by omega), h.cell (show k < n by omega)]
    rfl
theorem gapS_le {n : Nat} {L M : Nat → Int} : ∀ k, (∀ i, i < k → L i ≤ M i) → gapS n M k ≤ gapS n L k
  | 0, _ => Nat.le_refl _
  | k + 1, h => by
    have h1 := gapS_le (n := n) k fun i hi => h i (by omega)
    have h2 := h k (by omega)
    rw [gapS, gapS]
    omega
theorem gapS_lt {n t : Nat} {L M : Nat → Int} (ht : L t < M t) (h0 : 0 ≤ L t) (hm : L t < n) : ∀ k, t < k → (∀ i, i < k → L i ≤ M i) → gapS n M k < gapS n L k
  | 0, hk, _ => by omega
  | k + 1, hk, h => by
    rw [gapS, gapS]
    by_cases e : t = k
    · subst e
      have h1 := gapS_le (n := n) t fun i hi => h i (by omega)
      omega
    · have h1 := gapS_lt ht h0 hm k (by omega) fun i hi => h i (by omega)
      have h2 := h k (by omega)
      omega
def updLv (L : Nat → Int) (t : Nat) (x : Int) (i : Nat) : Int := if i = t then x else L i
/-- What an edge asks for is there. -/
def lstL (L : Nat → Int) (x : Edg) : Int := if x.neg then L x.f.toNat + 1 else L x.f.toNat
def askLe (L : Nat → Int) (x : Edg) : Prop := lstL L x ≤ L x.t.toNat
structure RInv (n : Nat) (es : List Edg) (L : Nat → Int) : Prop where
  in_ : ∀ i, i < n → 0 ≤ L i ∧ L i < n
  low : ∀ f, Sol n (lnkT es) (lnkN es) f → ∀ i, i < n → L i ≤ f i
theorem sol_asks {n : Nat} {es : List Edg} {f : Nat → Int} (h : Sol n (lnkT es) (lnkN es) f) {x : Edg} (hx : x ∈ es) {kf kt : Nat} (e1 : x.f = kf) (e2 : x.t = kt) (hf : kf < n) (ht : kt < n) : lstL f x ≤ f kt := by
  unfold lstL
  rw [e1, Int.toNat_natCast]
  cases hg : x.neg with
  | true =>
    have hN : lnkN es kf kt = true := by
      unfold lnkN
      refine List.any_eq_true.2 ⟨x, hx, ?_⟩
      unfold isE
      simp [e1, e2, hg]
    have := h.lt kf kt hf ht hN
    simpa using this
  | false =>
    have := h.le kf kt hf ht (edge_lnk hx e1 e2)
    simpa using this
theorem lstL_mono {L f : Nat → Int} {x : Edg} (h : L x.f.toNat ≤ f x.f.toNat) : lstL L x ≤ lstL f x := by
  unfold lstL
  split <;> omega
theorem RInv.low_ask {n : Nat} {es : List Edg} {L : Nat → Int} (h : RInv n es L) {x : Edg} (hx : x ∈ es) {kf kt : Nat} (e1 : x.f = kf) (e2 : x.t = kt) (hf : kf < n) (ht : kt < n) : ∀ f, Sol n (lnkT es) (lnkN es) f → lstL L x ≤ f kt := fun f hs =>
  Int.le_trans (lstL_mono (by rw [e1, Int.toNat_natCast]; exact h.low f hs kf hf)) (sol_asks hs hx e1 e2 hf ht)
theorem RInv.raise {n : Nat} {es : List Edg} {L : Nat → Int} (h : RInv n es L) {x : Edg} (hx : x ∈ es) {kf kt : Nat} (e1 : x.f = kf) (e2 : x.t = kt) (hf : kf < n) (ht : kt < n) (hlt : L kt < lstL L x) (hn : lstL L x < n) : RInv n es (updLv L kt (lstL L x)) := by
  refine ⟨fun i hi => ?_, fun f hs i hi => ?_⟩
  · unfold updLv
    split
    · have := (h.in_ kt ht).1; omega
    · exact h.in_ i hi
  · unfold updLv
    split
    · rename_i e; subst e; exact h.low_ask hx e1 e2 hf ht f hs
    · exact h.low f hs i hi
theorem RInv.least {n : Nat} {es : List Edg} {L : Nat → Int} (h : RInv n es L) (ha : ∀ x ∈ es, askLe L x) : Least n (lnkT es) (lnkN es) L := by
  refine ⟨⟨fun u hu => (h.in_ u hu).1, fun u v hu hv e => ?_, fun u v hu hv e => ?_⟩, h.low⟩
  · obtain ⟨x, hx, e1, e2⟩ := lnk_edge e
    have := ha x hx
    unfold askLe lstL at this
    rw [e1, e2, Int.toNat_natCast, Int.toNat_natCast] at this
    split at this <;> omega
  · unfold lnkN at e
    obtain ⟨x, hx, e3⟩ := List.any_eq_true.1 e
    simp only [Bool.and_eq_true] at e3
    unfold isE at e3
    simp only [Bool.and_eq_true, beq_iff_eq] at e3
    have := ha x hx
    unfold askLe lstL at this
    rw [e3.1.1, e3.1.2, e3.2, Int.toNat_natCast, Int.toNat_natCast] at this
    simpa using this

def muL (g n : Nat) (ag : Value) (w : World) : Nat := 2 * gapW g n w n + (if boolOf ag then 1 else 0)
theorem muL_eq {g n : Nat} {w : World} {L : Nat → Int} (h : w.rowIs g 3 n (fun i => .int .i64 (L i))) (b : Bool) : muL g n (.bool b) w = 2 * gapS n L n + (if b then 1 else 0) := by
  unfold muL
  rw [gapW_eq h n (Nat.le_refl _)]
  rfl
-- WALK
/-- What the document's Levels answers. -/
def levAns (w : World) (n : Nat) (es : List Edg) (e : Ending) (w' : World) : Prop :=
  (∃ t, t < n ∧ (∀ f, Sol n (lnkT es) (lnkN es) f → (n : Int) ≤ f t) ∧ e = .returned (.tuple #[.slice none 0 0, .int .i64 40])) ∨ (∃ (g : Nat) (L : Nat → Int), e = .returned (.tuple #[.slice (some ⟨g, 0, none⟩) n n, .int .i64 0]) ∧ w'.rowIs g 3 n (fun i => .int .i64 (L i)) ∧ Least n (lnkT es) (lnkN es) L ∧ (∀ p, p < n → L p < n) ∧ w.heap.size ≤ g)
set_option maxRecDepth 100000 in
set_option maxHeartbeats 4000000 in
theorem rlevels_any {w : World} {v : Value} {es : List Edg} {n : Nat} (h : Has elEdg w v es) (hfit : fitP n es = true) :
    Calls Try.prog 13 #[.int .i64 (n : Int), v] w fun e w' => levAns w n es e w' ∧ Below w.heap.size w w' := by
  have hn : n ≤ 128 := by have := (fit_in8 hfit).1; omega
  have hmk := fun W : World => run_make_row' (P := Try.prog) 33 3 (.int .i64 0) 8 Try.underlying33 Try.infoInt8 rfl .i64 .i64 n (by omega) (by omega) W
  obtain ⟨va, vc, rfl, -, -, hlen⟩ := h.shape
  have HN := hide (fit_in8 hfit).2
  have HF := hide (rfit_any h n)
  rw [hfit] at HF
  have HL := hide h
  clear h hfit
  go_enter Try.func13, Try.ntmps13
  go_wp2_with (go_at_call 20; refine HF.out.mono ?_; rintro e W1 ⟨rfl, h1⟩; have HB1 := hide h1; clear h1)
  have HR0 : Hid ((W1.alloc (.cells (madeCells #[.int .i64 0] n) 3)).rowIs W1.heap.size 3 n (fun i => .int .i64 ((fun _ => 0 : Nat → Int) i))) := World.rowIs_made W1 (.int .i64 0) n 3
  have HB0 := hide (HB1.out.alloc HB1.out.size (.cells (madeCells #[.int .i64 0] n) 3))
  have HBg : Hid (w.heap.size ≤ W1.heap.size) := HB1.out.size
  have HI0 : Hid (RInv n es (fun _ => 0)) := ⟨fun i hi => ⟨Int.le_refl _, by show (0 : Int) < (n : Int); omega⟩, fun f hs i hi => hs.nn i hi⟩
  clear HF HB1 hmk
  go_loopw [7] (fun ag wl => ∃ (L : Nat → Int) (b : Bool), ag = .bool b ∧ Hid (wl.rowIs W1.heap.size 3 n (fun i => .int .i64 (L i))) ∧ Hid (RInv n es L ∧ (b = false → ∀ x ∈ es, askLe L x)) ∧ Hid (Below w.heap.size w wl)) (fun ag wl => muL W1.heap.size n ag wl)
  case atStart => exact ⟨fun _ => 0, true, rfl, HR0, ⟨HI0.out, fun h => by cases h⟩, HB0⟩
  case round =>
    clear HR0 HB0 HI0
    obtain ⟨L0, b0, rfl, HR0, HI0, HB0⟩ := hrel
    cases b0 with
    | false =>
      have HA := hide (HI0.out.1.least (HI0.out.2 rfl))
      have HAi := hide (fun p hp => (HI0.out.1.in_ p hp).2)
      go_wp2
      exact bodyPost_ret (v := .tuple #[.slice (some ⟨W1.heap.size, 0, none⟩) n n, .int .i64 0]) (by simp [results, Try.results13, go_sem]) rfl ⟨.inr ⟨_, L0, rfl, HR0.out, HA.out, HAi.out, HBg.out⟩, HB0.out⟩
    | true =>
      obtain ⟨N0, hN0⟩ : ∃ N0, gapS n L0 n = N0 := ⟨_, rfl⟩
      go_wp2
      have HMu : Hid (muL W1.heap.size n (.bool true) wr = 2 * N0 + 1) := by show _ = _; rw [muL_eq HR0.out, hN0]; rfl
      have HInv0 : Hid (RInv n es L0 ∧ (false = false → ∀ x ∈ es.take 0, askLe L0 x) ∧ (false = true → gapS n L0 n < N0) ∧ (false = false → gapS n L0 n ≤ N0)) := ⟨HI0.out.1, (fun _ x hx => by simp at hx), (fun h => by cases h), fun _ => by omega⟩
      clear hN0
      go_loopw [7, 8, 9] (fun ag y _ wl => ∃ (i : Nat) (L : Nat → Int) (b : Bool), i ≤ es.length ∧ y = .int .i64 (i : Int) ∧ ag = .bool b ∧ Hid (wl.rowIs W1.heap.size 3 n (fun i => .int .i64 (L i))) ∧ Hid (RInv n es L ∧ (b = false → ∀ x ∈ es.take i, askLe L x) ∧ (b = true → gapS n L n < N0) ∧ (b = false → gapS n L n ≤ N0)) ∧ Hid (Below w.heap.size w wl)) (fun _ y _ _ => es.length - (intOf y).toNat)
      case atStart => exact ⟨0, L0, false, by omega, rfl, rfl, HR0, HInv0, HB0⟩
      case round =>
        clear HR0 HI0 HB0 HInv0
        obtain ⟨i, L, ag, hil, rfl, rfl, HR, HInv, HB⟩ := hrel
        by_cases hlt2 : i < es.length
        · have hi1 : (i : Int) < (es.length : Int) := by omega
          have hi0 : (0 : Int) ≤ (i : Int) := by omega
          obtain ⟨b, off, rfl, -, -, hrow⟩ := HL.out.row (by omega)
          obtain ⟨x, hx⟩ : ∃ x, es[i]? = some x := ⟨_, List.getElem?_eq_getElem hlt2⟩
          have y0 := kept_cell HB.out (hrow i x hx 0 _ rfl)
          have y1 := kept_cell HB.out (hrow i x hx 1 _ rfl)
          have y2 := kept_cell HB.out (hrow i x hx 2 _ rfl)
          have y1n := hide (hrow i x hx 1 _ rfl)
          simp only [elEdg, Nat.add_zero] at y0 y1 y2 y1n
          obtain ⟨q1, q2, q3, q4⟩ := HN.out x (List.mem_of_getElem? hx)
          have HSnoc := hide (take_snoc8 hx)
          have HXm := hide (List.mem_of_getElem? hx)
          clear hrow hx
          obtain ⟨f, t, neg, r⟩ := x
          obtain ⟨kf, rfl⟩ : ∃ kf : Nat, f = kf := ⟨f.toNat, by dsimp only at q1; omega⟩
          obtain ⟨kt, rfl⟩ : ∃ kt : Nat, t = kt := ⟨t.toNat, by dsimp only at q3; omega⟩
          dsimp only at q1 q2 q3 q4 y0 y1 y2
          have hfk : kf < n := by omega
          have htk : kt < n := by omega
          have l0 := HR.out.cell hfk
          have l1 := HR.out.cell htk
          have l1f := HR.out.frozen kt
          have hbf := HInv.out.1.in_ kf hfk
          obtain ⟨xf, hxf⟩ : ∃ x, L kf = x := ⟨_, rfl⟩
          obtain ⟨xt, hxt⟩ : ∃ x, L kt = x := ⟨_, rfl⟩
          rw [hxf] at l0 hbf
          rw [hxt] at l1
          have hbf1 := hbf.1
          have hbf2 := hbf.2
          have HVals : Hid (L kf = xf ∧ L kt = xt) := ⟨hxf, hxt⟩
          clear hxf hxt hbf q1 q2 q3 q4
          cases neg with
          | true =>
            have HLs : Hid (lstL L ⟨kf, kt, true, r⟩ = xf + 1) := by show _ = _; unfold lstL; simp only [Int.toNat_natCast]; rw [HVals.out.1]; rfl
            have HLw : Hid (∀ f, Sol n (lnkT es) (lnkN es) f → xf + 1 ≤ f kt) := fun f hs => by rw [← HLs.out]; exact HInv.out.1.low_ask HXm.out rfl rfl hfk htk f hs
            by_cases hq : xt < xf + 1
            · have HRn : Hid ((wr.setCell ⟨W1.heap.size, kt, none⟩ (.int .i64 (xf + 1))).rowIs W1.heap.size 3 n (fun i => .int .i64 (updLv L kt (xf + 1) i))) := by
                refine (HR.out.set kt _).congr fun i _ => ?_
                unfold updLv
                split <;> simp_all
              have HBn : Hid (Below w.heap.size w (wr.setCell ⟨W1.heap.size, kt, none⟩ (.int .i64 (xf + 1)))) := HB.out.setCell HBg.out _
              by_cases hz : (n : Int) ≤ xf + 1
              · have HBad : Hid (∃ t, t < n ∧ ∀ f, Sol n (lnkT es) (lnkN es) f → (n : Int) ≤ f t) := ⟨kt, htk, fun f hs => Int.le_trans hz (HLw.out f hs)⟩
                go_wp2
                obtain ⟨t, ht, hf⟩ := HBad.out
                exact bodyPost_ret (v := .tuple #[.slice none 0 0, .int .i64 40]) (by simp [results, Try.results13, go_sem]) rfl ⟨.inl ⟨t, ht, hf, rfl⟩, HBn.out⟩
              · have HInv2 : Hid (RInv n es (updLv L kt (xf + 1)) ∧ (true = false → ∀ x ∈ es.take (i + 1), askLe (updLv L kt (xf + 1)) x) ∧ (true = true → gapS n (updLv L kt (xf + 1)) n < N0) ∧ (true = false → gapS n (updLv L kt (xf + 1)) n ≤ N0)) := by
                  have hin := HInv.out.1.in_ kt htk
                  have h1 : gapS n (updLv L kt (xf + 1)) n < gapS n L n := gapS_lt (t := kt) (by unfold updLv; rw [if_pos rfl, HVals.out.2]; exact hq) hin.1 hin.2 n htk fun j hj => by
                    unfold updLv
                    split
                    · rename_i e; rw [e, HVals.out.2]; omega
                    · exact Int.le_refl _
                  refine ⟨?_, (fun h => by cases h), fun _ => ?_, (fun h => by cases h)⟩
                  · rw [← HLs.out]; exact HInv.out.1.raise HXm.out rfl rfl hfk htk (by rw [HLs.out, HVals.out.2]; exact hq) (by rw [HLs.out]; omega)
                  · cases hag : ag with
                    | true => have := HInv.out.2.2.1 hag; omega
                    | false => have := HInv.out.2.2.2 hag; omega
                go_wp2
                go_roundw
                case rel => exact ⟨i + 1, updLv L kt (xf + 1), true, by omega, by go_num, rfl, HRn, HInv2, HBn⟩
                case measure => simp [intOf]; omega
            · have hz : ¬ (n : Int) ≤ xf + 1 := by have := (HInv.out.1.in_ kt htk).2; rw [HVals.out.2] at this; omega
              have HInv2 : Hid (RInv n es L ∧ (ag = false → ∀ x ∈ es.take (i + 1), askLe L x) ∧ (ag = true → gapS n L n < N0) ∧ (ag = false → gapS n L n ≤ N0)) := ⟨HInv.out.1, fun hag x hx => by
                rw [HSnoc.out] at hx
                rcases List.mem_append.1 hx with h4 | h4
                · exact HInv.out.2.1 hag x h4
                · simp only [List.mem_singleton] at h4
                  subst h4
                  unfold askLe
                  rw [HLs.out]
                  simp only [Int.toNat_natCast]
                  rw [HVals.out.2]
                  omega, HInv.out.2.2⟩
              go_wp2
              go_roundw
              case rel => exact ⟨i + 1, L, ag, by omega, by go_num, rfl, HR, HInv2, HB⟩
              case measure => simp [intOf]; omega
          | false =>
            have HLs : Hid (lstL L ⟨kf, kt, false, r⟩ = xf) := by show _ = _; unfold lstL; simp only [Int.toNat_natCast]; rw [HVals.out.1]; simp
            have HLw : Hid (∀ f, Sol n (lnkT es) (lnkN es) f → xf ≤ f kt) := fun f hs => by rw [← HLs.out]; exact HInv.out.1.low_ask HXm.out rfl rfl hfk htk f hs
            by_cases hq : xt < xf
            · have HRn : Hid ((wr.setCell ⟨W1.heap.size, kt, none⟩ (.int .i64 (xf))).rowIs W1.heap.size 3 n (fun i => .int .i64 (updLv L kt (xf) i))) := by
                refine (HR.out.set kt _).congr fun i _ => ?_
                unfold updLv
                split <;> simp_all
              have HBn : Hid (Below w.heap.size w (wr.setCell ⟨W1.heap.size, kt, none⟩ (.int .i64 (xf)))) := HB.out.setCell HBg.out _
              by_cases hz : (n : Int) ≤ xf
              · exact absurd hz (by omega)
              · have HInv2 : Hid (RInv n es (updLv L kt (xf)) ∧ (true = false → ∀ x ∈ es.take (i + 1), askLe (updLv L kt (xf)) x) ∧ (true = true → gapS n (updLv L kt (xf)) n < N0) ∧ (true = false → gapS n (updLv L kt (xf)) n ≤ N0)) := by
                  have hin := HInv.out.1.in_ kt htk
                  have h1 : gapS n (updLv L kt (xf)) n < gapS n L n := gapS_lt (t := kt) (by unfold updLv; rw [if_pos rfl, HVals.out.2]; exact hq) hin.1 hin.2 n htk fun j hj => by
                    unfold updLv
                    split
                    · rename_i e; rw [e, HVals.out.2]; omega
                    · exact Int.le_refl _
                  refine ⟨?_, (fun h => by cases h), fun _ => ?_, (fun h => by cases h)⟩
                  · rw [← HLs.out]; exact HInv.out.1.raise HXm.out rfl rfl hfk htk (by rw [HLs.out, HVals.out.2]; exact hq) (by rw [HLs.out]; omega)
                  · cases hag : ag with
                    | true => have := HInv.out.2.2.1 hag; omega
                    | false => have := HInv.out.2.2.2 hag; omega
                go_wp2
                go_roundw
                case rel => exact ⟨i + 1, updLv L kt (xf), true, by omega, by go_num, rfl, HRn, HInv2, HBn⟩
                case measure => simp [intOf]; omega
            · have hz : ¬ (n : Int) ≤ xf := by have := (HInv.out.1.in_ kt htk).2; rw [HVals.out.2] at this; omega
              have HInv2 : Hid (RInv n es L ∧ (ag = false → ∀ x ∈ es.take (i + 1), askLe L x) ∧ (ag = true → gapS n L n < N0) ∧ (ag = false → gapS n L n ≤ N0)) := ⟨HInv.out.1, fun hag x hx => by
                rw [HSnoc.out] at hx
                rcases List.mem_append.1 hx with h4 | h4
                · exact HInv.out.2.1 hag x h4
                · simp only [List.mem_singleton] at h4
                  subst h4
                  unfold askLe
                  rw [HLs.out]
                  simp only [Int.toNat_natCast]
                  rw [HVals.out.2]
                  omega, HInv.out.2.2⟩
              go_wp2
              go_roundw
              case rel => exact ⟨i + 1, L, ag, by omega, by go_num, rfl, HR, HInv2, HB⟩
              case measure => simp [intOf]; omega
        · obtain rfl : i = es.length := by omega
          have hi1 : ¬ (es.length : Int) < (es.length : Int) := by omega
          have HIv := HInv.out
          rw [List.take_of_length_le (Nat.le_refl _)] at HIv
          have HI2 := hide HIv
          clear HIv
          go_wp2
          go_roundw
          case rel => exact ⟨L, ag, rfl, HR, ⟨HI2.out.1, HI2.out.2.1⟩, HB⟩
          case measure =>
            rw [HMu.out, muL_eq HR.out]
            cases ag with
            | true => have := HI2.out.2.2.1 rfl; simp; omega
            | false => have := HI2.out.2.2.2 rfl; simp; omega
end Go.Proofs.Ytjifhmlfnnagcaa
