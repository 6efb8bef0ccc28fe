/- slices.Min; the walk makes one component of what is open from a place on. -/
import Derived.Test.YtjifhmlfnnagcaaWalkEnter
namespace Go.Proofs.Ytjifhmlfnnagcaa
set_option linter.unusedSimpArgs false
set_option linter.unusedVariables false
open Go.RowKit Go.Maps

set_option maxHeartbeats 1000000 in
theorem min_any {w : World} {v : Value} {l : List Int} (h : Has elInt w v l) (hpos : 0 < l.length) :
    Calls Try.prog 51 #[v] w fun e w' => ∃ m : Int, e = .returned (.int .i64 m) ∧ (m ∈ l ∧ ∀ x ∈ l, m ≤ x) ∧ Below w.heap.size w w' := by
  obtain ⟨va, vc, rfl, -, -, hlen⟩ := h.shape
  obtain ⟨b, off, rfl, -, -, hrow⟩ := h.row hpos
  obtain ⟨x0, hx0⟩ : ∃ x, l[0]? = some x := ⟨_, List.getElem?_eq_getElem hpos⟩
  have y0 := hrow 0 x0 hx0 0 _ rfl
  simp only [elInt, Nat.add_zero, Nat.mul_one] at y0
  have HR := hide hrow
  have HX0 := hide hx0
  have d0 : ¬ (l.length : Int) < 1 := by omega
  clear hrow hx0 h
  go_enter Try.func51, Try.ntmps51
  go_wp2
  go_loopw [3, 4] (fun m i wl => ∃ (k : Nat) (y : Int), 1 ≤ k ∧ k ≤ l.length ∧ i = .int .i64 k ∧ m = .int .i64 y ∧ Hid (y ∈ l ∧ ∀ x ∈ l.take k, y ≤ x) ∧ wl = w) (fun _ i _ => l.length - (intOf i).toNat)
  case atStart => exact ⟨1, x0, by omega, by omega, rfl, rfl, (by
      refine ⟨List.mem_of_getElem? HX0.out, fun x hx => ?_⟩
      rw [take_snoc8 HX0.out] at hx
      simp at hx
      rw [hx]; exact Int.le_refl _), rfl⟩
  case round =>
    obtain ⟨k, y, hk1, hk, rfl, rfl, HY, hwr⟩ := hrel
    subst hwr
    by_cases hlt : k < l.length
    · have hi : (k : Int) < (l.length : Int) := by omega
      have hi0 : (0 : Int) ≤ (k : Int) := by omega
      obtain ⟨x, hx⟩ : ∃ x, l[k]? = some x := ⟨_, List.getElem?_eq_getElem hlt⟩
      have z0 := HR.out k x hx 0 _ rfl
      simp only [elInt, Nat.add_zero, Nat.mul_one] at z0
      have HX := hide hx
      clear hx
      by_cases hxy : x < y
      · have HY2 : Hid (x ∈ l ∧ ∀ z ∈ l.take (k + 1), x ≤ z) := by
          refine ⟨List.mem_of_getElem? HX.out, fun z hz => ?_⟩
          rw [take_snoc8 HX.out] at hz
          rcases List.mem_append.1 hz with h1 | h1
          · have := HY.out.2 z h1; omega
          · simp only [List.mem_singleton] at h1; omega
        go_wp2
        go_roundw
        case rel => exact ⟨k + 1, x, by omega, by omega, by go_num, rfl, HY2, trivial⟩
        case measure => simp [intOf]; omega
      · have HY2 : Hid (y ∈ l ∧ ∀ z ∈ l.take (k + 1), y ≤ z) := by
          refine ⟨HY.out.1, fun z hz => ?_⟩
          rw [take_snoc8 HX.out] at hz
          rcases List.mem_append.1 hz with h1 | h1
          · exact HY.out.2 z h1
          · simp only [List.mem_singleton] at h1; omega
        go_wp2
        go_roundw
        case rel => exact ⟨k + 1, y, by omega, by omega, by go_num, rfl, HY2, trivial⟩
        case measure => simp [intOf]; omega
    · obtain rfl : k = l.length := by omega
      have hi : ¬ (l.length : Int) < (l.length : Int) := by omega
      go_wp2
      go_ret
      rw [List.take_of_length_le (Nat.le_refl _)] at HY
      exact ⟨y, rfl, HY.out, Below.refl _ _⟩

theorem own_blk {ao : Option Addr} {n n' c : Nat} : (Value.slice ao n c).ownBlock = (Value.slice ao n' c).ownBlock := by
  cases ao <;> rfl

section
variable {base : Nat} {w : World} {p n gl c : Nat} {s : Tj} {po oo : Option Addr} {pc oc gp gw gh : Nat}
/-- What is open, cut off at k, in its field. -/
theorem WalkAt.cutOpen (h : WalkAt base w p n gl c s po pc oo oc gp gw gh) {k : Nat} (hk : k ≤ s.opn.length) : WalkAt base (w.setCell ⟨p, 3, none⟩ (.slice oo k oc)) p n gl c { s with opn := s.opn.take k } po pc oo oc gp gw gh := by
  have hl : (s.opn.take k).length = k := by rw [List.length_take]; omega
  refine ⟨?_, ?_, ?_, ?_, ?_, ?_, h.bs, h.dis, h.pdis, ?_⟩
  · have h1 := h.box
    dsimp only
    rw [hl]
    simp [World.setCell, Array.getElem?_modify, h1]
  · exact own_same h.path fun b hb => heap_other (h.pdis b hb).1
  · dsimp only
    rw [hl, List.map_take]
    exact own_same (own_cut h.opn hk) fun b hb => heap_other (h.odis b (by rw [own_blk (n' := k)]; exact hb)).1
  · exact h.place.of_block (heap_other h.dis.1.1.symm)
  · exact h.low.of_block (heap_other h.dis.1.2.1.symm)
  · exact h.home.of_block (heap_other h.dis.1.2.2.symm)
  · intro b hb
    exact h.odis b (by rw [own_blk (n' := (s.opn.take k).length)]; exact hb)
/-- The path, cut off at k, in its field. -/
theorem WalkAt.cutPath (h : WalkAt base w p n gl c s po pc oo oc gp gw gh) {k : Nat} (hk : k ≤ s.path.length) : WalkAt base (w.setCell ⟨p, 2, none⟩ (.slice po k pc)) p n gl c { s with path := s.path.take k } po pc oo oc gp gw gh := by
  have hl : (s.path.take k).length = k := by rw [List.length_take]; omega
  refine ⟨?_, ?_, ?_, ?_, ?_, ?_, h.bs, h.dis, ?_, ?_⟩
  · have h1 := h.box
    dsimp only
    rw [hl]
    simp [World.setCell, Array.getElem?_modify, h1]
  · dsimp only
    rw [hl, List.map_take]
    exact own_same (own_cut h.path hk) fun b hb => heap_other (h.pdis b (by rw [own_blk (n' := k)]; exact hb)).1
  · exact own_same h.opn fun b hb => heap_other (h.odis b hb).1
  · exact h.place.of_block (heap_other h.dis.1.1.symm)
  · exact h.low.of_block (heap_other h.dis.1.2.1.symm)
  · exact h.home.of_block (heap_other h.dis.1.2.2.symm)
  · intro b hb
    exact h.pdis b (by rw [own_blk (n' := (s.path.take k).length)]; exact hb)
  · intro b hb
    obtain ⟨h1, h2, h3, h4, h5⟩ := h.odis b hb
    exact ⟨h1, h2, h3, h4, fun e => h5 (by rw [own_blk (n' := (s.path.take k).length)]; exact e)⟩
/-- The same state, said otherwise. -/
theorem WalkAt.congr (h : WalkAt base w p n gl c s po pc oo oc gp gw gh) {s' : Tj} (e1 : s'.path = s.path) (e2 : s'.opn = s.opn) (e3 : ∀ i, i < n → s.place i = s'.place i) (e4 : ∀ i, i < n → s.low i = s'.low i) (e5 : ∀ i, i < n → s.home i = s'.home i) : WalkAt base w p n gl c s' po pc oo oc gp gw gh where
  box := by rw [e1, e2]; exact h.box
  path := by rw [e1]; exact h.path
  opn := by rw [e2]; exact h.opn
  place := h.place.congr fun i hi => by rw [e3 i hi]
  low := h.low.congr fun i hi => by rw [e4 i hi]
  home := h.home.congr fun i hi => by rw [e5 i hi]
  bs := h.bs
  dis := h.dis
  pdis := by rw [e1]; exact h.pdis
  odis := by rw [e1, e2]; exact h.odis
end

/-- What is open from place k on, as a slice of its own. -/
theorem WalkAt.tailHas {base : Nat} {w : World} {p n gl c : Nat} {s : Tj} {po : Option Addr} {pc oc gp gw gh g k : Nat} (h : WalkAt base w p n gl c s po pc (some ⟨g, 0, none⟩) oc gp gw gh) (hk : k ≤ s.opn.length) (hn : s.opn.length ≤ 128) (hv : ∀ v ∈ s.opn, v < 1000) : Has elInt w (.slice (some ⟨g, k, none⟩) (s.opn.length - k) (oc - k)) ((s.opn.drop k).map fun (v : Nat) => (v : Int)) := by
  have hcap : s.opn.length ≤ oc := by
    obtain ⟨ao, cap, e, h1, _⟩ := own_shape6 h.opn
    cases e
    exact h1
  refine ⟨_, _, by simp; rfl, by simp; omega, (fun e => by cases e), by simp; omega, fun x hx => ?_, fun hp => ⟨g, k, rfl, own_lt6 h.opn g rfl, trivial, fun i x hi j u hu => ?_⟩⟩
  · obtain ⟨v, hvm, rfl⟩ := List.mem_map.1 hx
    have := hv v (List.mem_of_mem_drop hvm)
    exact ⟨by omega, by omega⟩
  · have hj : j = 0 := by have := (List.getElem?_eq_some_iff.1 hu).1; simp [elInt] at this; exact this
    subst hj
    rw [List.getElem?_map, List.getElem?_drop] at hi
    cases hx : s.opn[k + i]? with
    | none => rw [hx] at hi; simp at hi
    | some v =>
      rw [hx] at hi
      simp only [Option.map_some, Option.some.injEq] at hi
      subst hi
      simp only [elInt, List.getElem?_cons_zero, Option.some.injEq] at hu
      subst hu
      obtain ⟨g', e, hc⟩ := h.openAt hx
      cases e
      simpa [elInt] using hc

set_option maxHeartbeats 1000000 in
theorem settle_any {base : Nat} {w : World} {p n gl c : Nat} {s : Tj} {po oo : Option Addr} {pc oc gp gw gh : Nat} (h : WalkAt base w p n gl c s po pc oo oc gp gw gh) (hn : n ≤ 128) (ho : s.opn.length ≤ 128) (hv : ∀ v ∈ s.opn, v < n) {k : Nat} (hk : k < s.opn.length) (hb : base ≤ w.heap.size) :
    Calls Try.prog 49 #[.pointer (some ⟨p, 0, none⟩), .int .i64 (k : Int)] w fun e w' => e = .returned (.tuple #[]) ∧ ∃ m : Nat, (m ∈ s.opn.drop k ∧ ∀ v ∈ s.opn.drop k, m ≤ v) ∧ WalkAt base w' p n gl c { s with opn := s.opn.take k, home := setH s.home (s.opn.drop k) m } po pc oo oc gp gw gh ∧ Below base w w' := by
  obtain ⟨c0, c1, c2, c3, c4, c5, c6⟩ := h.fields
  obtain ⟨x0, hx0⟩ : ∃ x, s.opn[0]? = some x := ⟨_, List.getElem?_eq_getElem (by omega)⟩
  obtain ⟨g, rfl, -⟩ := h.openAt hx0
  have hcap : s.opn.length ≤ oc := by
    obtain ⟨ao, cap, e, h1, _⟩ := own_shape6 h.opn
    cases e
    exact h1
  have HM := hide (min_any (h.tailHas (k := k) (by omega) ho (fun v hv' => by have := hv v hv'; omega)) (by simp; omega))
  have HH := hide h
  have HV := hide hv
  have k1 : (k : Int) ≤ (s.opn.length : Int) := by omega
  have k0 : (0 : Int) ≤ (k : Int) := by omega
  have k2 : (s.opn.length : Int) ≤ (oc : Int) := by omega
  have k3 : (k : Int) ≤ (oc : Int) := by omega
  clear h hv hx0
  go_enter Try.func49, Try.ntmps49
  go_wp2_with (go_at_call 51; refine HM.out.mono ?_; rintro e w2 ⟨m, rfl, hm, h2⟩; have HMi := hide hm; have HB2 := hide h2; clear hm h2)
  obtain ⟨mN, hmN, hme⟩ := List.mem_map.1 HMi.out.1
  have HMn : Hid (mN ∈ s.opn.drop k ∧ ∀ v ∈ s.opn.drop k, mN ≤ v) := ⟨hmN, fun v hv => by have := HMi.out.2 v (List.mem_map.2 ⟨v, hv, rfl⟩); omega⟩
  subst hme
  clear hmN HMi HM c0 c1 c2 c3 c4 c5 c6
  have HS2 : Hid (base ≤ w2.heap.size) := by show _ ≤ _; have := HB2.out.size; omega
  have HW2 := hide (HH.out.kept HB2.out)
  have HB := hide (HB2.out.mono hb)
  clear HB2 hb
  go_loopw [7, 18] (fun _ i wl => ∃ j : Nat, j ≤ s.opn.length - k ∧ i = .int .i64 j ∧ Hid (WalkAt base wl p n gl c { s with home := setH s.home ((s.opn.drop k).take j) mN } po pc (some ⟨g, 0, none⟩) oc gp gw gh) ∧ Hid (Below base w wl)) (fun _ i _ => s.opn.length - k - (intOf i).toNat)
  case atStart => exact ⟨0, by omega, rfl, HW2.out.congr rfl rfl (fun _ _ => rfl) (fun _ _ => rfl) (fun i _ => by unfold setH; simp), HB⟩
  case round =>
    obtain ⟨j, hj, rfl, HWj, HBj⟩ := hrel
    clear HW2 HB
    obtain ⟨-, -, -, c3, -, -, c6⟩ := HWj.out.fields
    dsimp only at c3
    have f3 := HWj.out.frozen 3
    by_cases hlt : j < s.opn.length - k
    · have hi : (j : Int) < ((s.opn.length - k : Nat) : Int) := by omega
      have hi0 : (0 : Int) ≤ (j : Int) := by omega
      obtain ⟨v, hv⟩ : ∃ v, s.opn[k + j]? = some v := ⟨_, List.getElem?_eq_getElem (by omega)⟩
      obtain ⟨g', e, hc⟩ := HWj.out.openAt (i := k + j) (x := v) hv
      cases e
      have hvn := HV.out v (List.mem_of_getElem? hv)
      have hvi : (v : Int) < (n : Int) := by omega
      have hv0 : (0 : Int) ≤ (v : Int) := by omega
      have z6 := HWj.out.home.cell hvn
      have f6 := HWj.out.home.frozen v
      have HD : Hid ((s.opn.drop k).take (j + 1) = (s.opn.drop k).take j ++ [v]) := by show _ = _; exact take_snoc8 (by rw [List.getElem?_drop]; exact hv)
      have HWn : Hid (WalkAt base (wr.setCell ⟨gh, v, none⟩ (.int .i64 (mN : Int))) p n gl c { s with home := setH s.home ((s.opn.drop k).take (j + 1)) mN } po pc (some ⟨g, 0, none⟩) oc gp gw gh) := by
        refine (HWj.out.setHome v (mN : Int)).congr rfl rfl (fun _ _ => rfl) (fun _ _ => rfl) (fun i _ => ?_)
        dsimp only
        rw [HD.out]
        unfold updI setH
        by_cases e : i = v
        · subst e; simp
        · simp [e]
      have HBn : Hid (Below base w (wr.setCell ⟨gh, v, none⟩ (.int .i64 (mN : Int)))) := HBj.out.setCell (by have := HH.out.bs; dsimp only; omega) _
      clear hv HD
      go_wp2
      go_roundw
      case rel => exact ⟨j + 1, by omega, by go_num, HWn, HBn⟩
      case measure => simp [intOf]; omega
    · obtain rfl : j = s.opn.length - k := by omega
      have hi : ¬ ((s.opn.length - k : Nat) : Int) < ((s.opn.length - k : Nat) : Int) := by omega
      have HWf : Hid (WalkAt base (wr.setCell ⟨p, 3, none⟩ (.slice (some ⟨g, 0, none⟩) k oc)) p n gl c { s with opn := s.opn.take k, home := setH s.home (s.opn.drop k) mN } po pc (some ⟨g, 0, none⟩) oc gp gw gh) := by
        have h1 := HWj.out.cutOpen (k := k) (by dsimp only; omega)
        rw [List.take_of_length_le (by simp)] at h1
        exact h1
      have HBf : Hid (Below base w (wr.setCell ⟨p, 3, none⟩ (.slice (some ⟨g, 0, none⟩) k oc))) := HBj.out.setCell (by have := HH.out.bs; dsimp only; omega) _
      go_wp2
      go_end0
      exact ⟨rfl, mN, HMn.out, HWf.out, HBf.out⟩
end Go.Proofs.Ytjifhmlfnnagcaa
