/- The document's one and ready. -/
import Derived.Test.YtjifhmlfnnagcaaRefReach
import Derived.Test.YtjifhmlfnnagcaaGraphOrder
namespace Go.Proofs.Ytjifhmlfnnagcaa
set_option linter.unusedSimpArgs false
set_option linter.unusedVariables false
open Go.RowKit Go.Maps

def oneB (f : Nat → Nat → Bool) (a b : Nat) : Bool := (a == b) || (f a b && f b a)
def notReady (f : Nat → Nat → Bool) (d : Nat → Bool) (a : Nat) (x : Edg) : Bool := oneB f x.t.toNat a && (!oneB f x.f.toNat a && !d x.f.toNat)

theorem one_mut {n : Nat} {T f : Nat → Nat → Bool} (hf : ∀ i j, i < n → j < n → (f i j = true ↔ Wk (Ed n T) n i j)) {a b : Nat} (ha : a < n) (hb : b < n) : oneB f a b = true ↔ Mut (Ed n T) a b := by
  unfold oneB
  constructor
  · intro h
    simp at h
    rcases h with rfl | ⟨h1, h2⟩
    · exact Mut.refl _
    · exact ⟨((hf a b ha hb).1 h1).reach, ((hf b a hb ha).1 h2).reach⟩
  · rintro ⟨h1, h2⟩
    rcases reach_wk h1 with rfl | h1
    · simp
    · rcases reach_wk h2 with rfl | h2
      · simp
      · simp [(hf a b ha hb).2 h1, (hf b a hb ha).2 h2]
theorem one_home {n : Nat} {T f : Nat → Nat → Bool} {H : Nat → Int} (hf : ∀ i j, i < n → j < n → (f i j = true ↔ Wk (Ed n T) n i j)) (hH : ∀ v, v < n → LeastOf (Ed n T) v (H v)) {a b : Nat} (ha : a < n) (hb : b < n) : oneB f a b = (H a == H b) := by
  rw [Bool.eq_iff_iff, one_mut hf ha hb, ← least_eq (hH a ha) (hH b hb)]
  simp

set_option maxHeartbeats 1000000 in
theorem one_any {base : Nat} {w : World} {tv : Value} {n : Nat} {gs : List Nat} {f : Nat → Nat → Bool} (h : TabAt base w tv n gs f) (hl : gs.length = n) (hn : n ≤ 128) {a b : Nat} (ha : a < n) (hb : b < n) :
    Calls Try.prog 23 #[tv, .int .i64 (a : Int), .int .i64 (b : Int)] w fun e w' => e = .returned (.bool (oneB f a b)) ∧ Below w.heap.size w w' := by
  obtain ⟨gt, cap, hgt, hout⟩ := h.outer (by omega)
  rw [hl] at hgt
  subst hgt
  obtain ⟨ga, hga⟩ : ∃ g, gs[a]? = some g := ⟨_, List.getElem?_eq_getElem (by omega)⟩
  obtain ⟨gb, hgb⟩ : ∃ g, gs[b]? = some g := ⟨_, List.getElem?_eq_getElem (by omega)⟩
  have z0 := hout a ga hga
  have z1 := hout b gb hgb
  simp only [slN] at z0 z1
  have x0 := (h.row a ga hga).1.cell (i := b) hb
  have x1 := (h.row b gb hgb).1.cell (i := a) ha
  have a1 : (a : Int) < (n : Int) := by omega
  have a0 : (0 : Int) ≤ (a : Int) := by omega
  have b1 : (b : Int) < (n : Int) := by omega
  have b0 : (0 : Int) ≤ (b : Int) := by omega
  have HO : Hid (oneB f a b = ((a == b) || (f a b && f b a))) := rfl
  clear hout hga hgb h hl
  by_cases hab : a = b
  · subst hab
    have HR : Hid (oneB f a a = true) := by show _ = _; rw [HO.out]; simp
    rw [HR.out]
    go_enter Try.func23, Try.ntmps23
    go_wp2
    go_ret
    exact ⟨by first | (simp; done) | (simp [hab1]; done), Below.refl _ _⟩
  · have hab1 : ¬ (a : Int) = (b : Int) := by omega
    have HR : Hid (oneB f a b = (f a b && f b a)) := by show _ = _; rw [HO.out]; simp [hab]
    rw [HR.out]
    clear HO HR
    cases h1 : f a b with
    | false =>
      rw [h1] at x0
      go_enter Try.func23, Try.ntmps23
      go_wp2
      go_ret
      exact ⟨by first | (simp; done) | (simp [hab1]; done), Below.refl _ _⟩
    | true =>
      rw [h1] at x0
      cases h2 : f b a with
      | false =>
        rw [h2] at x1
        go_enter Try.func23, Try.ntmps23
        go_wp2
        go_ret
        exact ⟨by first | (simp; done) | (simp [hab1]; done), Below.refl _ _⟩
      | true =>
        rw [h2] at x1
        go_enter Try.func23, Try.ntmps23
        go_wp2
        go_ret
        exact ⟨by first | (simp; done) | (simp [hab1]; done), Below.refl _ _⟩

set_option maxRecDepth 100000 in
set_option maxHeartbeats 2000000 in
theorem ready_any {base : Nat} {w : World} {v tv : Value} {n gq : Nat} {gs : List Nat} {f : Nat → Nat → Bool} {d : Nat → Bool} {es : List Edg} (h : TabAt base w tv n gs f) (hl : gs.length = n) (hn : n ≤ 128) (he : Has elEdg w v es) (hin : ∀ x ∈ es, 0 ≤ x.f ∧ x.f < n ∧ 0 ≤ x.t ∧ x.t < n) (hd : w.rowIs gq 4 n (fun i => .bool (d i))) {a : Nat} (ha : a < n) :
    Calls Try.prog 22 #[tv, v, .slice (some ⟨gq, 0, none⟩) n n, .int .i64 (a : Int)] w fun e w' => e = .returned (.bool (!es.any (notReady f d a))) ∧ Below w.heap.size w w' := by
  obtain ⟨va, vc, rfl, -, -, hlen⟩ := he.shape
  obtain ⟨ta, tc, htv, -, -⟩ := h.grow.shape
  rw [List.length_map, hl] at htv
  subst htv
  obtain ⟨q, hq⟩ : ∃ q, es.length = q := ⟨_, rfl⟩
  have HQ := hide hq
  have HIn := hide hin
  have HE := hide he
  have HT := hide h
  have HGl := hide hl
  have HD := hide hd
  rw [hq] at HE hlen ⊢
  clear h hl he hin hd hq
  go_enter Try.func22, Try.ntmps22
  go_wp2
  go_loopw [9] (fun y wl => ∃ i : Nat, i ≤ q ∧ y = .int .i64 i ∧ Hid (∀ x ∈ es.take i, notReady f d a x = false) ∧ Hid (Below w.heap.size w wl)) (fun y _ => q - (intOf y).toNat)
  case atStart => exact ⟨0, by omega, rfl, (fun x hx => by simp at hx), Below.refl _ _⟩
  case round =>
    obtain ⟨i, hi, rfl, HP, HB⟩ := hrel
    by_cases hlt : i < q
    · have hi1 : (i : Int) < (q : Int) := by omega
      have hi0 : (0 : Int) ≤ (i : Int) := by omega
      obtain ⟨b, off, rfl, -, -, hrow⟩ := HE.out.row (by rw [HQ.out]; omega)
      obtain ⟨x, hx⟩ : ∃ x, es[i]? = some x := ⟨_, List.getElem?_eq_getElem (by rw [HQ.out]; exact hlt)⟩
      have HY : Hid (∀ V : World, Below w.heap.size w V → V.cell? ⟨b, off + i * 4, none⟩ = some (.int .i64 x.f) ∧ V.cell? ⟨b, off + i * 4 + 1, none⟩ = some (.int .i64 x.t)) := fun V hV => by
        have y0 := kept_cell hV (hrow i x hx 0 _ rfl)
        have y1 := kept_cell hV (hrow i x hx 1 _ rfl)
        simp only [elEdg, Nat.add_zero] at y0 y1
        exact ⟨y0, y1⟩
      obtain ⟨q1, q2, q3, q4⟩ := HIn.out x (List.mem_of_getElem? hx)
      have HTk := hide (take_snoc8 hx)
      have HXm := hide (List.mem_of_getElem? hx)
      have HN : Hid (notReady f d a x = (oneB f x.t.toNat a && (!oneB f x.f.toNat a && !d x.f.toNat))) := rfl
      clear hrow hx
      obtain ⟨kf0, kt0, neg, r⟩ := x
      obtain ⟨kf, rfl⟩ : ∃ kf : Nat, kf0 = kf := ⟨kf0.toNat, by dsimp only at q1; omega⟩
      obtain ⟨kt, rfl⟩ : ∃ kt : Nat, kt0 = kt := ⟨kt0.toNat, by dsimp only at q3; omega⟩
      dsimp only at q1 q2 q3 q4 HY HN
      simp only [Int.toNat_natCast] at HN
      have hfk : kf < n := by omega
      have htk : kt < n := by omega
      obtain ⟨y0, y1⟩ := HY.out wr HB.out
      have HO1 := hide (one_any (HT.out.kept HB.out) HGl.out hn htk ha)
      have HD0 : Hid (∀ V : World, Below w.heap.size w V → V.cell? ⟨gq, kf, none⟩ = some (.bool (d kf))) := fun V hV => kept_cell hV (HD.out.cell hfk)
      have HOf : Hid (∀ V : World, Below w.heap.size w V → Calls Try.prog 23 #[.slice ta n tc, .int .i64 (kf : Int), .int .i64 (a : Int)] V fun e w' => e = .returned (.bool (oneB f kf a)) ∧ Below V.heap.size V w') := fun V hV => one_any (HT.out.kept hV) HGl.out hn hfk ha
      cases h1 : oneB f kt a with
      | false =>
        rw [h1] at HO1 HN
        have HPn : Hid (∀ x ∈ es.take (i + 1), notReady f d a x = false) := fun x hx => by
          rw [HTk.out] at hx
          rcases List.mem_append.1 hx with h | h
          · exact HP.out x h
          · rw [List.mem_singleton.1 h, HN.out]; rfl
        clear h1 HN
        go_wp2_with (go_at_call 23; refine HO1.out.mono ?_; rintro e W1 ⟨rfl, b1⟩; have HB1 := hide (HB.out.trans (b1.mono HB.out.size)); clear b1 HO1)
        go_roundw
        case rel => exact ⟨i + 1, by omega, by go_num, HPn, HB1⟩
        case measure => simp [intOf]; omega
      | true =>
        rw [h1] at HO1 HN
        clear h1
        cases h2 : oneB f kf a with
        | true =>
          rw [h2] at HOf HN
          have HPn : Hid (∀ x ∈ es.take (i + 1), notReady f d a x = false) := fun x hx => by
            rw [HTk.out] at hx
            rcases List.mem_append.1 hx with h | h
            · exact HP.out x h
            · rw [List.mem_singleton.1 h, HN.out]; rfl
          clear h2 HN
          go_wp2_with (first
            | (go_at_call 23; refine HO1.out.mono ?_; rintro e W1 ⟨rfl, b1⟩; have HB1 := hide (HB.out.trans (b1.mono HB.out.size)); obtain ⟨y2, y3⟩ := HY.out W1 HB1.out; have HO2 := hide (HOf.out W1 HB1.out); clear b1 HO1)
            | (go_at_call 23; refine HO2.out.mono ?_; rintro e W2 ⟨rfl, b2⟩; have HB2 := hide (HB1.out.trans (b2.mono HB1.out.size)); clear b2 HO2))
          go_roundw
          case rel => exact ⟨i + 1, by omega, by go_num, HPn, HB2⟩
          case measure => simp [intOf]; omega
        | false =>
          rw [h2] at HOf HN
          clear h2
          cases h3 : d kf with
          | true =>
            rw [h3] at HD0 HN
            have HPn : Hid (∀ x ∈ es.take (i + 1), notReady f d a x = false) := fun x hx => by
              rw [HTk.out] at hx
              rcases List.mem_append.1 hx with h | h
              · exact HP.out x h
              · rw [List.mem_singleton.1 h, HN.out]; rfl
            clear h3 HN
            go_wp2_with (first
              | (go_at_call 23; refine HO1.out.mono ?_; rintro e W1 ⟨rfl, b1⟩; have HB1 := hide (HB.out.trans (b1.mono HB.out.size)); obtain ⟨y2, y3⟩ := HY.out W1 HB1.out; have HO2 := hide (HOf.out W1 HB1.out); clear b1 HO1)
              | (go_at_call 23; refine HO2.out.mono ?_; rintro e W2 ⟨rfl, b2⟩; have HB2 := hide (HB1.out.trans (b2.mono HB1.out.size)); obtain ⟨y4, y5⟩ := HY.out W2 HB2.out; have d0 := HD0.out W2 HB2.out; clear b2 HO2))
            go_roundw
            case rel => exact ⟨i + 1, by omega, by go_num, HPn, HB2⟩
            case measure => simp [intOf]; omega
          | false =>
            rw [h3] at HD0 HN
            have HAny : Hid (es.any (notReady f d a) = true) := List.any_eq_true.2 ⟨_, HXm.out, by rw [HN.out]; rfl⟩
            clear h3 HN
            go_wp2_with (first
              | (go_at_call 23; refine HO1.out.mono ?_; rintro e W1 ⟨rfl, b1⟩; have HB1 := hide (HB.out.trans (b1.mono HB.out.size)); obtain ⟨y2, y3⟩ := HY.out W1 HB1.out; have HO2 := hide (HOf.out W1 HB1.out); clear b1 HO1)
              | (go_at_call 23; refine HO2.out.mono ?_; rintro e W2 ⟨rfl, b2⟩; have HB2 := hide (HB1.out.trans (b2.mono HB1.out.size)); obtain ⟨y4, y5⟩ := HY.out W2 HB2.out; have d0 := HD0.out W2 HB2.out; clear b2 HO2))
            go_ret
            exact ⟨by rw [HAny.out]; simp, HB2.out⟩
    · obtain rfl : q = i := by omega
      have hi1 : ¬ (q : Int) < (q : Int) := by omega
      rw [List.take_of_length_le (by rw [HQ.out]; exact Nat.le_refl _)] at HP
      have HAny : Hid (es.any (notReady f d a) = false) := by
        show _ = _
        rw [List.any_eq_false]
        intro x hx
        rw [HP.out x hx]
        exact Bool.false_ne_true
      go_wp2
      go_ret
      exact ⟨by rw [HAny.out]; simp, HB.out⟩
end Go.Proofs.Ytjifhmlfnnagcaa
