/- (strata.graph).bad: the first negated edge inside a component. (By mk_bad.py.) -/
import Derived.Test.YtjifhmlfnnagcaaGraphPub
import Derived.BigQuiet
namespace Go.Proofs.Ytjifhmlfnnagcaa
set_option linter.unusedSimpArgs false
set_option linter.unusedVariables false
open Go.RowKit Go.Maps

def badE (H : Nat → Int) (x : Edg) : Bool := x.neg && (H x.f.toNat == H x.t.toNat)

set_option maxHeartbeats 1000000 in
theorem badE_any {w : World} {bn gh n : Nat} {H : Nat → Int} (hc : w.cell? ⟨bn, 0, none⟩ = some (.slice (some ⟨gh, 0, none⟩) n n)) (hr : w.rowIs gh 3 n (fun i => .int .i64 (H i))) (x : Edg) (hx : 0 ≤ x.f ∧ x.f < n ∧ 0 ≤ x.t ∧ x.t < n) :
    Calls Try.prog 39 #[.agg #[.int .i64 x.f, .int .i64 x.t, .bool x.neg, .int .i64 x.r], .pointer (some ⟨bn, 0, none⟩)] w fun e w' => e = .returned (.bool (badE H x)) ∧ Below w.heap.size w w' := by
  obtain ⟨f, t, g, r⟩ := x
  obtain ⟨q1, q2, q3, q4⟩ := hx
  obtain ⟨kf, rfl⟩ : ∃ kf : Nat, f = kf := ⟨f.toNat, by dsimp only at q1; omega⟩
  obtain ⟨kt, rfl⟩ : ∃ kt : Nat, t = kt := ⟨t.toNat, by dsimp only at q3; omega⟩
  dsimp only at q1 q2 q3 q4
  have hb := belo1 w (.cells #[.int .i64 (kf : Int), .int .i64 (kt : Int), .bool g, .int .i64 r] 25)
  have c0 := kept_cell hb hc
  have r0 := kept_cell hb (hr.cell (show kf < n by omega))
  have r1 := kept_cell hb (hr.cell (show kt < n by omega))
  have HB := hide hb
  unfold badE
  simp only [Int.toNat_natCast]
  obtain ⟨a, ha⟩ : ∃ a, H kf = a := ⟨_, rfl⟩
  obtain ⟨b, hb'⟩ : ∃ b, H kt = b := ⟨_, rfl⟩
  rw [ha] at r0 ⊢
  rw [hb'] at r1 ⊢
  clear ha hb' hr hc hb
  have e0 : (w.alloc (.cells #[.int .i64 (kf : Int), .int .i64 (kt : Int), .bool g, .int .i64 r] 25)).cell? ⟨w.heap.size, 0, none⟩ = some (.int .i64 (kf : Int)) := by simp
  have e1 : (w.alloc (.cells #[.int .i64 (kf : Int), .int .i64 (kt : Int), .bool g, .int .i64 r] 25)).cell? ⟨w.heap.size, 1, none⟩ = some (.int .i64 (kt : Int)) := by simp
  have e2 : (w.alloc (.cells #[.int .i64 (kf : Int), .int .i64 (kt : Int), .bool g, .int .i64 r] 25)).cell? ⟨w.heap.size, 2, none⟩ = some (.bool g) := by simp
  cases g
  · go_enter Try.func39, Try.ntmps39
    go_wp2
    go_quiet (fail)
    go_wp2
    go_ret
    exact ⟨rfl, ⟨HB.out.os, HB.out.tape, HB.out.output, HB.out.size, HB.out.block⟩⟩
  · go_enter Try.func39, Try.ntmps39
    go_wp2
    go_region_held3 (fun w' => w'.cell? ⟨w.heap.size, 0, none⟩ = some (.int .i64 (kf : Int)) ∧ w'.cell? ⟨w.heap.size, 1, none⟩ = some (.int .i64 (kt : Int)) ∧ w'.cell? ⟨w.heap.size, 2, none⟩ = some (.bool true) ∧ w'.cell? ⟨bn, 0, none⟩ = some (.slice (some ⟨gh, 0, none⟩) n n) ∧ w'.cell? ⟨gh, kf, none⟩ = some (.int .i64 a) ∧ w'.cell? ⟨gh, kt, none⟩ = some (.int .i64 b))
      (exact ⟨e0, e1, e2, c0, r0, r1⟩) (fail)
    go_wp2
    go_ret
    exact ⟨by simp, HB.out.drew⟩

set_option maxHeartbeats 1000000 in
theorem idx_bad {w : World} {v : Value} {es : List Edg} {bn : Nat} {H : Nat → Int} (h : Has elEdg w v es)
    (hf : ∀ V : World, Below w.heap.size w V → ∀ x ∈ es, Calls Try.prog 39 #[.agg #[.int .i64 x.f, .int .i64 x.t, .bool x.neg, .int .i64 x.r], .pointer (some ⟨bn, 0, none⟩)] V fun e w' => e = .returned (.bool (badE H x)) ∧ Below V.heap.size V w') :
    Calls Try.prog 38 #[v, .func (.func 39) #[] #[.pointer (some ⟨bn, 0, none⟩)]] w fun e w' => e = .returned (.int .i64 (findI (badE H) es)) ∧ Below w.heap.size w w' := by
  obtain ⟨va, vc, rfl, -, -, hlen⟩ := h.shape
  have HL := hide h
  have HF := hide hf
  clear h hf
  go_enter Try.func38, Try.ntmps38
  go_wp2
  go_loopw [5, 8] (fun _ i wl => ∃ k : Nat, k ≤ es.length ∧ i = .int .i64 k ∧ Hid (∀ x ∈ es.take k, badE H x = false) ∧ Hid (Below w.heap.size w wl)) (fun _ i _ => es.length - (intOf i).toNat)
  case atStart => exact ⟨0, by omega, rfl, by show ∀ x ∈ es.take 0, badE H x = false; simp, Below.refl _ _⟩
  case round =>
    obtain ⟨k, hk, rfl, HK, HB⟩ := hrel
    by_cases hlt : k < es.length
    · have hi : (k : Int) < (es.length : Int) := by omega
      have hi0 : (0 : Int) ≤ (k : Int) := by omega
      obtain ⟨b, off, rfl, -, -, hrow⟩ := HL.out.row (by omega)
      obtain ⟨x, hx⟩ : ∃ x, es[k]? = some x := ⟨_, List.getElem?_eq_getElem hlt⟩
      have y0 := kept_cell HB.out (hrow k x hx 0 _ rfl)
      have y1 := kept_cell HB.out (hrow k x hx 1 _ rfl)
      have y2 := kept_cell HB.out (hrow k x hx 2 _ rfl)
      have y3 := kept_cell HB.out (hrow k x hx 3 _ rfl)
      simp only [elEdg, Nat.add_zero] at y0 y1 y2 y3
      have HX := hide hx
      have HC := hide (HF.out wr HB.out x (List.mem_of_getElem? hx))
      clear hrow hx
      cases he : badE H x with
      | true =>
        rw [he] at HC
        have HR := hide (findI_at HX.out HK.out he)
        go_wp2_with (go_at_call 39; refine HC.out.mono ?_; rintro e w2 ⟨rfl, h2⟩; have HB2 := hide (HB.out.trans (h2.mono HB.out.size)); clear h2)
        go_ret
        exact ⟨by rw [HR.out]; rfl, HB2.out⟩
      | false =>
        rw [he] at HC
        have HF2 := hide (all_snoc HX.out HK.out he)
        go_wp2_with (go_at_call 39; refine HC.out.mono ?_; rintro e w2 ⟨rfl, h2⟩; have HB2 := hide (HB.out.trans (h2.mono HB.out.size)); clear h2)
        go_roundw
        case rel => exact ⟨k + 1, by omega, by go_num, HF2, HB2⟩
        case measure => simp [intOf]; omega
    · obtain rfl : k = es.length := by omega
      have hi : ¬ (es.length : Int) < (es.length : Int) := by omega
      have HR := hide (findI_no HK.out)
      go_wp2
      go_ret
      exact ⟨by rw [HR.out]; rfl, HB.out⟩

set_option maxHeartbeats 1000000 in
theorem bad_any {w : World} {gl n c : Nat} {T N : Nat → Nat → Bool} {F : Nat → Nat → Int} {v : Value} {es : List Edg} (h : LinksAt w gl n T N F) (hn : n ≤ 128) (he : Has elEdg w v es) (hin : ∀ x ∈ es, 0 ≤ x.f ∧ x.f < n ∧ 0 ≤ x.t ∧ x.t < n) :
    Calls Try.prog 27 #[.agg #[.int .i64 (n : Int), .slice (some ⟨gl, 0, none⟩) (n * n) c], v] w fun e w' => ∃ H : Nat → Int, (∀ v, v < n → LeastOf (Ed n T) v (H v)) ∧ e = .returned (.int .i64 (findI (badE H) es)) ∧ Below w.heap.size w w' := by
  obtain ⟨va, vc, rfl, -, -, hlen⟩ := he.shape
  have hb0 := belo1 w (.cells #[.int .i64 (n : Int), .slice (some ⟨gl, 0, none⟩) (n * n) c] 48)
  have HHm := hide (homes_any (c := c) (h.kept hb0) hn)
  have HL := hide (he.kept hb0)
  have HB0 := hide hb0
  have HIn := hide hin
  clear h he hb0 hin
  go_enter Try.func27, Try.ntmps27
  go_wp2_with (first
    | (go_at_call 35; refine HHm.out.mono ?_; rintro e w1 ⟨gh, H, rfl, h1, h2, h3, h4⟩; have HR := hide h2; have HLe := hide h3; have HB1 := hide (HB0.out.trans (h4.mono HB0.out.size)); have HL1 := hide (HL.out.kept h4); clear h1 h2 h3 h4 HHm HL)
    | (go_at_call 38
       have hb2 := belo1 w1 (.cells #[.slice (some ⟨gh, 0, none⟩) n n] 33)
       have hc2 : (w1.alloc (.cells #[.slice (some ⟨gh, 0, none⟩) n n] 33)).cell? ⟨w1.heap.size, 0, none⟩ = some (.slice (some ⟨gh, 0, none⟩) n n) := by simp
       have hr2 := HR.out.alloc (.cells #[.slice (some ⟨gh, 0, none⟩) n n] 33)
       refine (idx_bad (H := H) (HL1.out.kept hb2) (fun V hV x hx => badE_any (kept_cell hV hc2) (hr2.of_block (hV.block _ hr2.lt)) x (HIn.out x hx))).mono ?_
       rintro e w2 ⟨rfl, h2⟩
       have HB2 := hide ((HB1.out.trans (hb2.mono HB1.out.size)).trans (h2.mono (HB1.out.trans (hb2.mono HB1.out.size)).size))
       clear h2 hb2 hc2 hr2))
  go_ret
  exact ⟨H, HLe.out, rfl, HB2.out⟩
end Go.Proofs.Ytjifhmlfnnagcaa
