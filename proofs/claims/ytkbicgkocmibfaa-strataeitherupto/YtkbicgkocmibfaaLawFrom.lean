/- edictlaw08.fit and from: what is reached within some predicates is closed under the edges within them. -/
import Derived.Test.YtkbicgkocmibfaaGraphPub
namespace Go.Proofs.Ytkbicgkocmibfaa
set_option linter.unusedSimpArgs false
set_option linter.unusedVariables false
open Go.RowKit Go.Maps

theorem Try.infoBool : (Try.prog.info? 4).map (fun i => (i.zero, i.size, i.bytes)) = some (some (.bool false), 1, 1) := by kernel_rfl

def endU (back : Bool) (e : Edg) : Nat := if back then e.t.toNat else e.f.toNat
def endV (back : Bool) (e : Edg) : Nat := if back then e.f.toNat else e.t.toNat
def updB (f : Nat → Bool) (i : Nat) : Nat → Bool := fun j => if j = i then true else f j
def unsW (g n : Nat) (w : World) : Nat := (List.range n).countP fun i => match w.cell? ⟨g, i, none⟩ with | some (.bool b) => !b | _ => false
def unsS (n : Nat) (S : Nat → Bool) : Nat := (List.range n).countP fun i => !(S i)
theorem unsW_eq {w : World} {g n : Nat} {S : Nat → Bool} (h : w.rowIs g 4 n (fun i => .bool (S i))) : unsW g n w = unsS n S := by
  unfold unsW unsS
  refine List.countP_congr fun i hi => ?_
  rw [h.cell (List.mem_range.1 hi)]
theorem unsS_upd {n : Nat} {S : Nat → Bool} {v : Nat} (hv : v < n) (h : S v = false) : unsS n (updB S v) < unsS n S := by
  unfold unsS
  refine countP_lt (fun x _ hx => ?_) ⟨v, List.mem_range.2 hv, by rw [h]; rfl, by unfold updB; simp⟩
  unfold updB at hx
  split at hx
  · cases hx
  · exact hx
def boolOf : Value → Bool
  | .bool b => b
  | _ => false

def muF (g n : Nat) (ag : Value) (w : World) : Nat := 2 * unsW g n w + (if boolOf ag then 1 else 0)

theorem made_set (w : World) {n a : Nat} (ha : a < n) : (w.alloc (.cells ((madeCells #[Value.bool false] n).setIfInBounds a (.bool true)) 4)).rowIs w.heap.size 4 n (fun i => .bool (updB (fun _ => false) a i)) := by
  refine ⟨_, heap_alloc_new _ _, by rw [Array.size_setIfInBounds, size_madeCells], fun i hi => ?_⟩
  rw [Array.getElem?_setIfInBounds]
  unfold updB
  have h1 : (madeCells #[Value.bool false] n)[i]? = some (.bool false) := by simp [madeCells, hi, Nat.mod_one]
  by_cases h : a = i
  · subst h
    simp [size_madeCells, ha]
  · rw [if_neg h, h1]
    show _ = some (Value.bool (if i = a then true else false))
    rw [if_neg (fun h' => h (Eq.symm h'))]

set_option maxHeartbeats 1000000 in
theorem from_any {w : World} {v : Value} {es : List Edg} {n gi a : Nat} {I : Nat → Bool} (back : Bool) (h : Has elEdg w v es) (hin : ∀ x ∈ es, 0 ≤ x.f ∧ x.f < n ∧ 0 ≤ x.t ∧ x.t < n) (hI : w.rowIs gi 4 n (fun i => .bool (I i))) (ha : a < n) (hn : n ≤ 128) :
    Calls Try.prog 12 #[.int .i64 (n : Int), v, .slice (some ⟨gi, 0, none⟩) n n, .int .i64 (a : Int), .bool back] w fun e w' => ∃ (g : Nat) (S : Nat → Bool), e = .returned (.slice (some ⟨g, 0, none⟩) n n) ∧ w'.rowIs g 4 n (fun i => .bool (S i)) ∧ (S a = true ∧ ∀ x ∈ es, I (endU back x) = true → I (endV back x) = true → S (endU back x) = true → S (endV back x) = true) ∧ Below w.heap.size w w' := by
  have hmk := fun W : World => run_make_row' (P := Try.prog) 32 4 (.bool false) 1 Try.underlying32 Try.infoBool rfl .i64 .i64 n (by omega) (by omega) W
  obtain ⟨va, vc, rfl, -, -, hlen⟩ := h.shape
  have HL := hide h
  have HN := hide hin
  have HI := hide hI
  have hgi := hI.lt
  have hai : (a : Int) < (n : Int) := by omega
  have hai0 : (0 : Int) ≤ (a : Int) := by omega
  have hma : (madeCells #[Value.bool false] n)[a]? = some (.bool false) := by simp [madeCells, ha, Nat.mod_one]
  clear h hin hI
  go_enter Try.func12, Try.ntmps12
  have hbk : back = false ∨ back = true := by cases back <;> simp
  rcases hbk with rfl | rfl
  · go_wp2
    go_loopw [12] (fun ag wl => ∃ (S : Nat → Bool) (b : Bool), ag = .bool b ∧ Hid (wl.rowIs w.heap.size 4 n (fun i => .bool (S i))) ∧ Hid (S a = true ∧ (b = false → ∀ x ∈ es, I (endU false x) = true → I (endV false x) = true → S (endU false x) = true → S (endV false x) = true)) ∧ Hid (Below w.heap.size w wl)) (fun ag wl => muF w.heap.size n ag wl)
    case atStart =>
      refine ⟨updB (fun _ => false) a, true, rfl, ?_, ⟨by unfold updB; simp, fun h => by cases h⟩, ?_⟩
      · exact made_set w ha
      · exact (Below.refl _ w).alloc (Nat.le_refl _) _
    case round =>
      obtain ⟨S0, b0, rfl, HR0, HI0, HB0⟩ := hrel
      cases b0 with
      | false =>
        go_wp2
        go_ret
        exact ⟨_, rfl, S0, HR0.out, ⟨HI0.out.1, HI0.out.2 trivial⟩, HB0.out⟩
      | true =>
        go_wp2
        obtain ⟨N0, hN0⟩ : ∃ N0, unsS n S0 = N0 := ⟨_, rfl⟩
        have HMu : Hid (muF w.heap.size n (.bool true) wr = 2 * N0 + 1) := by show _ = _; unfold muF; rw [unsW_eq HR0.out, hN0]; rfl
        have HInv0 : Hid (S0 a = true ∧ (false = false → ∀ x ∈ es.take 0, I (endU false x) = true → I (endV false x) = true → S0 (endU false x) = true → S0 (endV false x) = true) ∧ (false = true → unsS n S0 < N0) ∧ (false = false → unsS n S0 ≤ N0)) := ⟨HI0.out.1, (fun _ x hx => by simp at hx), (fun h => by cases h), fun _ => by omega⟩
        clear hN0
        go_loopw [12, 13, 14, 15] (fun ag i _ _ wl => ∃ (k : Nat) (S : Nat → Bool) (b : Bool), k ≤ es.length ∧ i = .int .i64 k ∧ ag = .bool b ∧ Hid (wl.rowIs w.heap.size 4 n (fun i => .bool (S i))) ∧ Hid (S a = true ∧ (b = false → ∀ x ∈ es.take k, I (endU false x) = true → I (endV false x) = true → S (endU false x) = true → S (endV false x) = true) ∧ (b = true → unsS n S < N0) ∧ (b = false → unsS n S ≤ N0)) ∧ Hid (Below w.heap.size w wl)) (fun _ i _ _ _ => es.length - (intOf i).toNat)
        case atStart => exact ⟨0, S0, false, by omega, rfl, rfl, HR0, HInv0, HB0⟩
        case round =>
          clear HR0 HI0 HB0 HInv0
          obtain ⟨i, S, ag, hk, rfl, rfl, HR, HInv, HB⟩ := hrel
          by_cases hlt : i < es.length
          · have hi : (i : Int) < (es.length : Int) := by omega
            have hi0 : (0 : Int) ≤ (i : Int) := by omega
            obtain ⟨b, off, rfl, -, -, hrow⟩ := HL.out.row (by omega)
            obtain ⟨x, hx⟩ : ∃ x, es[i]? = some x := ⟨_, List.getElem?_eq_getElem hlt⟩
            have y0 := kept_cell HB.out (hrow i x hx 0 _ rfl)
            have y1 := kept_cell HB.out (hrow i x hx 1 _ rfl)
            simp only [elEdg, Nat.add_zero] at y0 y1
            obtain ⟨q1, q2, q3, q4⟩ := HN.out x (List.mem_of_getElem? hx)
            have HX := hide hx
            clear hrow hx
            obtain ⟨f, t, g, r⟩ := x
            obtain ⟨kf, rfl⟩ : ∃ kf : Nat, f = kf := ⟨f.toNat, by dsimp only at q1; omega⟩
            obtain ⟨kt, rfl⟩ : ∃ kt : Nat, t = kt := ⟨t.toNat, by dsimp only at q3; omega⟩
            dsimp only at q1 q2 q3 q4 y0 y1
            have HIr := hide (HI.out.of_block (HB.out.block _ hgi))
            have HEu : Hid (endU false ⟨kf, kt, g, r⟩ = kf ∧ endV false ⟨kf, kt, g, r⟩ = kt) := by show _ ∧ _; unfold endU endV; simp
            have i0 := HIr.out.cell (show kf < n by omega)
            have i1 := HIr.out.cell (show kt < n by omega)
            have s0 := HR.out.cell (show kf < n by omega)
            have s1 := HR.out.cell (show kt < n by omega)
            have s1f := HR.out.frozen kt
            have hvn : kt < n := by omega
            have HSnoc := hide (take_snoc8 HX.out)
            obtain ⟨bu, hbu⟩ : ∃ x, I kf = x := ⟨_, rfl⟩
            obtain ⟨bv, hbv⟩ : ∃ x, I kt = x := ⟨_, rfl⟩
            obtain ⟨cu, hcu⟩ : ∃ x, S kf = x := ⟨_, rfl⟩
            obtain ⟨cv, hcv⟩ : ∃ x, S kt = x := ⟨_, rfl⟩
            rw [hbu] at i0
            rw [hbv] at i1
            rw [hcu] at s0
            rw [hcv] at s1
            have HVals := hide (And.intro hbu (And.intro hbv (And.intro hcu hcv)))
            clear hbu hbv hcu hcv
            have HOk : Hid ((bu && (bv && (cu && !cv))) = false → (∀ x ∈ es.take i, I (endU false x) = true → I (endV false x) = true → S (endU false x) = true → S (endV false x) = true) → ∀ x ∈ es.take (i + 1), I (endU false x) = true → I (endV false x) = true → S (endU false x) = true → S (endV false x) = true) := fun hb hall x hx h1 h2 h3 => by
              rw [HSnoc.out] at hx
              rcases List.mem_append.1 hx with h4 | h4
              · exact hall x h4 h1 h2 h3
              · simp only [List.mem_singleton] at h4
                subst h4
                rw [HEu.out.1] at h1 h3
                rw [HEu.out.2] at h2 ⊢
                rw [HVals.out.1] at h1
                rw [HVals.out.2.1] at h2
                rw [HVals.out.2.2.1] at h3
                rw [HVals.out.2.2.2]
                rw [h1, h2, h3] at hb
                simpa using hb
            cases hb : (bu && (bv && (cu && !cv))) with
            | false =>
              have HInv2 := hide (And.intro HInv.out.1 (And.intro (fun hag => HOk.out hb (HInv.out.2.1 hag)) HInv.out.2.2))
              cases bu
              · go_wp2
                go_roundw
                case rel => exact ⟨i + 1, S, ag, by omega, by go_num, rfl, HR, HInv2, HB⟩
                case measure => simp [intOf]; omega
              · cases bv
                · go_wp2
                  go_roundw
                  case rel => exact ⟨i + 1, S, ag, by omega, by go_num, rfl, HR, HInv2, HB⟩
                  case measure => simp [intOf]; omega
                · cases cu
                  · go_wp2
                    go_roundw
                    case rel => exact ⟨i + 1, S, ag, by omega, by go_num, rfl, HR, HInv2, HB⟩
                    case measure => simp [intOf]; omega
                  · cases cv
                    · simp at hb
                    · go_wp2
                      go_roundw
                      case rel => exact ⟨i + 1, S, ag, by omega, by go_num, rfl, HR, HInv2, HB⟩
                      case measure => simp [intOf]; omega
            | true =>
              have hb' : bu = true ∧ bv = true ∧ cu = true ∧ cv = false := by
                revert hb; cases bu <;> cases bv <;> cases cu <;> cases cv <;> simp
              obtain ⟨rfl, rfl, rfl, rfl⟩ := hb'
              have HRn : Hid ((wr.setCell ⟨w.heap.size, kt, none⟩ (.bool true)).rowIs w.heap.size 4 n (fun i => .bool (updB S kt i))) := by
                refine (HR.out.set kt _).congr fun i _ => ?_
                unfold updB
                split <;> simp_all
              have HBn : Hid (Below w.heap.size w (wr.setCell ⟨w.heap.size, kt, none⟩ (.bool true))) := HB.out.setCell (Nat.le_refl _) _
              have HInv2 : Hid (updB S kt a = true ∧ (true = false → ∀ x ∈ es.take (i + 1), I (endU false x) = true → I (endV false x) = true → updB S kt (endU false x) = true → updB S kt (endV false x) = true) ∧ (true = true → unsS n (updB S kt) < N0) ∧ (true = false → unsS n (updB S kt) ≤ N0)) := by
                have h1 := unsS_upd hvn HVals.out.2.2.2
                refine ⟨?_, (fun h => by cases h), fun _ => ?_, (fun h => by cases h)⟩
                · unfold updB; split
                  · rfl
                  · exact HInv.out.1
                · cases hag : ag with
                  | true => have := HInv.out.2.2.1 hag; omega
                  | false => have := HInv.out.2.2.2 hag; omega
              go_wp2
              go_roundw
              case rel => exact ⟨i + 1, updB S kt, true, by omega, by go_num, rfl, HRn, HInv2, HBn⟩
              case measure => simp [intOf]; omega
          · obtain rfl : i = es.length := by omega
            have hi : ¬ (es.length : Int) < (es.length : Int) := by omega
            rw [List.take_of_length_le (Nat.le_refl _)] at HInv
            go_wp2
            refine ⟨⟨S, ag, rfl, HR, ⟨HInv.out.1, HInv.out.2.1⟩, HB⟩, ?_⟩
            rw [HMu.out]
            unfold muF
            rw [unsW_eq HR.out]
            cases ag with
            | true => have := HInv.out.2.2.1 rfl; simp [boolOf]; omega
            | false => have := HInv.out.2.2.2 rfl; simp [boolOf]; omega
  · go_wp2
    go_loopw [12] (fun ag wl => ∃ (S : Nat → Bool) (b : Bool), ag = .bool b ∧ Hid (wl.rowIs w.heap.size 4 n (fun i => .bool (S i))) ∧ Hid (S a = true ∧ (b = false → ∀ x ∈ es, I (endU true x) = true → I (endV true x) = true → S (endU true x) = true → S (endV true x) = true)) ∧ Hid (Below w.heap.size w wl)) (fun ag wl => muF w.heap.size n ag wl)
    case atStart =>
      refine ⟨updB (fun _ => false) a, true, rfl, ?_, ⟨by unfold updB; simp, fun h => by cases h⟩, ?_⟩
      · exact made_set w ha
      · exact (Below.refl _ w).alloc (Nat.le_refl _) _
    case round =>
      obtain ⟨S0, b0, rfl, HR0, HI0, HB0⟩ := hrel
      cases b0 with
      | false =>
        go_wp2
        go_ret
        exact ⟨_, rfl, S0, HR0.out, ⟨HI0.out.1, HI0.out.2 trivial⟩, HB0.out⟩
      | true =>
        go_wp2
        obtain ⟨N0, hN0⟩ : ∃ N0, unsS n S0 = N0 := ⟨_, rfl⟩
        have HMu : Hid (muF w.heap.size n (.bool true) wr = 2 * N0 + 1) := by show _ = _; unfold muF; rw [unsW_eq HR0.out, hN0]; rfl
        have HInv0 : Hid (S0 a = true ∧ (false = false → ∀ x ∈ es.take 0, I (endU true x) = true → I (endV true x) = true → S0 (endU true x) = true → S0 (endV true x) = true) ∧ (false = true → unsS n S0 < N0) ∧ (false = false → unsS n S0 ≤ N0)) := ⟨HI0.out.1, (fun _ x hx => by simp at hx), (fun h => by cases h), fun _ => by omega⟩
        clear hN0
        go_loopw [12, 13, 14, 15] (fun ag i _ _ wl => ∃ (k : Nat) (S : Nat → Bool) (b : Bool), k ≤ es.length ∧ i = .int .i64 k ∧ ag = .bool b ∧ Hid (wl.rowIs w.heap.size 4 n (fun i => .bool (S i))) ∧ Hid (S a = true ∧ (b = false → ∀ x ∈ es.take k, I (endU true x) = true → I (endV true x) = true → S (endU true x) = true → S (endV true x) = true) ∧ (b = true → unsS n S < N0) ∧ (b = false → unsS n S ≤ N0)) ∧ Hid (Below w.heap.size w wl)) (fun _ i _ _ _ => es.length - (intOf i).toNat)
        case atStart => exact ⟨0, S0, false, by omega, rfl, rfl, HR0, HInv0, HB0⟩
        case round =>
          clear HR0 HI0 HB0 HInv0
          obtain ⟨i, S, ag, hk, rfl, rfl, HR, HInv, HB⟩ := hrel
          by_cases hlt : i < es.length
          · have hi : (i : Int) < (es.length : Int) := by omega
            have hi0 : (0 : Int) ≤ (i : Int) := by omega
            obtain ⟨b, off, rfl, -, -, hrow⟩ := HL.out.row (by omega)
            obtain ⟨x, hx⟩ : ∃ x, es[i]? = some x := ⟨_, List.getElem?_eq_getElem hlt⟩
            have y0 := kept_cell HB.out (hrow i x hx 0 _ rfl)
            have y1 := kept_cell HB.out (hrow i x hx 1 _ rfl)
            simp only [elEdg, Nat.add_zero] at y0 y1
            obtain ⟨q1, q2, q3, q4⟩ := HN.out x (List.mem_of_getElem? hx)
            have HX := hide hx
            clear hrow hx
            obtain ⟨f, t, g, r⟩ := x
            obtain ⟨kf, rfl⟩ : ∃ kf : Nat, f = kf := ⟨f.toNat, by dsimp only at q1; omega⟩
            obtain ⟨kt, rfl⟩ : ∃ kt : Nat, t = kt := ⟨t.toNat, by dsimp only at q3; omega⟩
            dsimp only at q1 q2 q3 q4 y0 y1
            have HIr := hide (HI.out.of_block (HB.out.block _ hgi))
            have HEu : Hid (endU true ⟨kf, kt, g, r⟩ = kt ∧ endV true ⟨kf, kt, g, r⟩ = kf) := by show _ ∧ _; unfold endU endV; simp
            have i0 := HIr.out.cell (show kt < n by omega)
            have i1 := HIr.out.cell (show kf < n by omega)
            have s0 := HR.out.cell (show kt < n by omega)
            have s1 := HR.out.cell (show kf < n by omega)
            have s1f := HR.out.frozen kf
            have hvn : kf < n := by omega
            have HSnoc := hide (take_snoc8 HX.out)
            obtain ⟨bu, hbu⟩ : ∃ x, I kt = x := ⟨_, rfl⟩
            obtain ⟨bv, hbv⟩ : ∃ x, I kf = x := ⟨_, rfl⟩
            obtain ⟨cu, hcu⟩ : ∃ x, S kt = x := ⟨_, rfl⟩
            obtain ⟨cv, hcv⟩ : ∃ x, S kf = x := ⟨_, rfl⟩
            rw [hbu] at i0
            rw [hbv] at i1
            rw [hcu] at s0
            rw [hcv] at s1
            have HVals := hide (And.intro hbu (And.intro hbv (And.intro hcu hcv)))
            clear hbu hbv hcu hcv
            have HOk : Hid ((bu && (bv && (cu && !cv))) = false → (∀ x ∈ es.take i, I (endU true x) = true → I (endV true x) = true → S (endU true x) = true → S (endV true x) = true) → ∀ x ∈ es.take (i + 1), I (endU true x) = true → I (endV true x) = true → S (endU true x) = true → S (endV true x) = true) := fun hb hall x hx h1 h2 h3 => by
              rw [HSnoc.out] at hx
              rcases List.mem_append.1 hx with h4 | h4
              · exact hall x h4 h1 h2 h3
              · simp only [List.mem_singleton] at h4
                subst h4
                rw [HEu.out.1] at h1 h3
                rw [HEu.out.2] at h2 ⊢
                rw [HVals.out.1] at h1
                rw [HVals.out.2.1] at h2
                rw [HVals.out.2.2.1] at h3
                rw [HVals.out.2.2.2]
                rw [h1, h2, h3] at hb
                simpa using hb
            cases hb : (bu && (bv && (cu && !cv))) with
            | false =>
              have HInv2 := hide (And.intro HInv.out.1 (And.intro (fun hag => HOk.out hb (HInv.out.2.1 hag)) HInv.out.2.2))
              cases bu
              · go_wp2
                go_roundw
                case rel => exact ⟨i + 1, S, ag, by omega, by go_num, rfl, HR, HInv2, HB⟩
                case measure => simp [intOf]; omega
              · cases bv
                · go_wp2
                  go_roundw
                  case rel => exact ⟨i + 1, S, ag, by omega, by go_num, rfl, HR, HInv2, HB⟩
                  case measure => simp [intOf]; omega
                · cases cu
                  · go_wp2
                    go_roundw
                    case rel => exact ⟨i + 1, S, ag, by omega, by go_num, rfl, HR, HInv2, HB⟩
                    case measure => simp [intOf]; omega
                  · cases cv
                    · simp at hb
                    · go_wp2
                      go_roundw
                      case rel => exact ⟨i + 1, S, ag, by omega, by go_num, rfl, HR, HInv2, HB⟩
                      case measure => simp [intOf]; omega
            | true =>
              have hb' : bu = true ∧ bv = true ∧ cu = true ∧ cv = false := by
                revert hb; cases bu <;> cases bv <;> cases cu <;> cases cv <;> simp
              obtain ⟨rfl, rfl, rfl, rfl⟩ := hb'
              have HRn : Hid ((wr.setCell ⟨w.heap.size, kf, none⟩ (.bool true)).rowIs w.heap.size 4 n (fun i => .bool (updB S kf i))) := by
                refine (HR.out.set kf _).congr fun i _ => ?_
                unfold updB
                split <;> simp_all
              have HBn : Hid (Below w.heap.size w (wr.setCell ⟨w.heap.size, kf, none⟩ (.bool true))) := HB.out.setCell (Nat.le_refl _) _
              have HInv2 : Hid (updB S kf a = true ∧ (true = false → ∀ x ∈ es.take (i + 1), I (endU true x) = true → I (endV true x) = true → updB S kf (endU true x) = true → updB S kf (endV true x) = true) ∧ (true = true → unsS n (updB S kf) < N0) ∧ (true = false → unsS n (updB S kf) ≤ N0)) := by
                have h1 := unsS_upd hvn HVals.out.2.2.2
                refine ⟨?_, (fun h => by cases h), fun _ => ?_, (fun h => by cases h)⟩
                · unfold updB; split
                  · rfl
                  · exact HInv.out.1
                · cases hag : ag with
                  | true => have := HInv.out.2.2.1 hag; omega
                  | false => have := HInv.out.2.2.2 hag; omega
              go_wp2
              go_roundw
              case rel => exact ⟨i + 1, updB S kf, true, by omega, by go_num, rfl, HRn, HInv2, HBn⟩
              case measure => simp [intOf]; omega
          · obtain rfl : i = es.length := by omega
            have hi : ¬ (es.length : Int) < (es.length : Int) := by omega
            rw [List.take_of_length_le (Nat.le_refl _)] at HInv
            go_wp2
            refine ⟨⟨S, ag, rfl, HR, ⟨HInv.out.1, HInv.out.2.1⟩, HB⟩, ?_⟩
            rw [HMu.out]
            unfold muF
            rw [unsW_eq HR.out]
            cases ag with
            | true => have := HInv.out.2.2.1 rfl; simp [boolOf]; omega
            | false => have := HInv.out.2.2.2 rfl; simp [boolOf]; omega
end Go.Proofs.Ytkbicgkocmibfaa
