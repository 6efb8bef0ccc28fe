/- strata's walk in memory, and whether it may enter a predicate. -/
import Derived.Test.YtjifhmlfnnagcaaTarjanLeave
import Derived.Test.YtjifhmlfnnagcaaGraphNew2
import Derived.Test.YtjifhmlfnnagcaaFillMul
namespace Go.Proofs.Ytjifhmlfnnagcaa
set_option linter.unusedSimpArgs false
set_option linter.unusedVariables false
open Go.RowKit Go.Maps

def nv (k : Nat) : Value := .int .i64 (k : Int)

structure WalkAt (base : Nat) (w : World) (p n gl c : Nat) (s : Tj) (po : Option Addr) (pc : Nat) (oo : Option Addr) (oc gp gw gh : Nat) : Prop where
  box : w.heap[p]? = some (.cells #[.int .i64 (n : Int), .slice (some ⟨gl, 0, none⟩) (n * n) c, .slice po s.path.length pc, .slice oo s.opn.length oc, .slice (some ⟨gp, 0, none⟩) n n, .slice (some ⟨gw, 0, none⟩) n n, .slice (some ⟨gh, 0, none⟩) n n] 69 (0, 0))
  path : w.ownsRow base 3 1 (.slice po s.path.length pc) s.path.length (s.path.map nv)
  opn : w.ownsRow base 3 1 (.slice oo s.opn.length oc) s.opn.length (s.opn.map nv)
  place : w.rowIs gp 3 n (fun i => .int .i64 (s.place i))
  low : w.rowIs gw 3 n (fun i => .int .i64 (s.low i))
  home : w.rowIs gh 3 n (fun i => .int .i64 (s.home i))
  bs : base ≤ p ∧ base ≤ gp ∧ base ≤ gw ∧ base ≤ gh
  dis : (p ≠ gp ∧ p ≠ gw ∧ p ≠ gh) ∧ gp ≠ gw ∧ gp ≠ gh ∧ gw ≠ gh
  pdis : ∀ b, (Value.slice po s.path.length pc).ownBlock = some b → b ≠ p ∧ b ≠ gp ∧ b ≠ gw ∧ b ≠ gh
  odis : ∀ b, (Value.slice oo s.opn.length oc).ownBlock = some b → b ≠ p ∧ b ≠ gp ∧ b ≠ gw ∧ b ≠ gh ∧ (Value.slice po s.path.length pc).ownBlock ≠ some b

theorem own_same {w w' : World} {base size n : Nat} {e : TypeId} {v : Value} {xs : List Value} (h : w.ownsRow base e size v n xs) (hs : ∀ b, v.ownBlock = some b → w'.heap[b]? = w.heap[b]?) : w'.ownsRow base e size v n xs := by
  refine ⟨h.1, ?_⟩
  rcases h.2 with h0 | ⟨g, cap, cur, hv, hbase, hblk, rest⟩
  · exact .inl h0
  · exact .inr ⟨g, cap, cur, hv, hbase, by rw [hs g (by rw [hv]; rfl)]; exact hblk, rest⟩

theorem own_cut {w : World} {base n m : Nat} {e : TypeId} {ao : Option Addr} {cap : Nat} {xs : List Value} (h : w.ownsRow base e 1 (.slice ao n cap) n xs) (hm : m ≤ n) : w.ownsRow base e 1 (.slice ao m cap) m (xs.take m) := by
  have hl := h.1
  refine ⟨by rw [List.length_take]; omega, ?_⟩
  rcases h.2 with ⟨h1, h2⟩ | ⟨g, cap', cur, hv, hbase, hblk, r1, r2, r3, r4⟩
  · cases h1
    exact .inl ⟨by rw [show m = 0 by omega], by omega⟩
  · cases hv
    refine .inr ⟨g, cap, cur, rfl, hbase, hblk, by omega, r2, r3, ?_⟩
    rw [← r4, List.take_take]
    congr 1
    omega

section
variable {base : Nat} {w w' : World} {p n gl c : Nat} {s : Tj} {po oo : Option Addr} {pc oc gp gw gh : Nat}

/-- The seven fields. -/
theorem WalkAt.fields (h : WalkAt base w p n gl c s po pc oo oc gp gw gh) : w.cell? ⟨p, 0, none⟩ = some (.int .i64 (n : Int)) ∧ w.cell? ⟨p, 1, none⟩ = some (.slice (some ⟨gl, 0, none⟩) (n * n) c) ∧ w.cell? ⟨p, 2, none⟩ = some (.slice po s.path.length pc) ∧ w.cell? ⟨p, 3, none⟩ = some (.slice oo s.opn.length oc) ∧ w.cell? ⟨p, 4, none⟩ = some (.slice (some ⟨gp, 0, none⟩) n n) ∧ w.cell? ⟨p, 5, none⟩ = some (.slice (some ⟨gw, 0, none⟩) n n) ∧ w.cell? ⟨p, 6, none⟩ = some (.slice (some ⟨gh, 0, none⟩) n n) := by
  refine ⟨?_, ?_, ?_, ?_, ?_, ?_, ?_⟩ <;> simp [World.cell?, h.box]
theorem WalkAt.frozen (h : WalkAt base w p n gl c s po pc oo oc gp gw gh) (i : Nat) : w.frozen? ⟨p, i, none⟩ = false := by simp [World.frozen?, h.box]
theorem WalkAt.lt (h : WalkAt base w p n gl c s po pc oo oc gp gw gh) : p < w.heap.size := (Array.getElem?_eq_some_iff.1 h.box).1
theorem WalkAt.pathAt (h : WalkAt base w p n gl c s po pc oo oc gp gw gh) {i x : Nat} (hi : s.path[i]? = some x) : ∃ g, po = some ⟨g, 0, none⟩ ∧ w.cell? ⟨g, i, none⟩ = some (.int .i64 (x : Int)) := by
  obtain ⟨ao, cap, e, h1, h2, h3⟩ := own_shape6 h.path
  cases e
  have hlt := (List.getElem?_eq_some_iff.1 hi).1
  cases po with
  | none => exact absurd (h2 rfl).1 (by omega)
  | some ad =>
    obtain ⟨g, rfl, _⟩ := h3 ad rfl
    exact ⟨g, rfl, own_at h.path (by rw [List.getElem?_map, hi]; rfl)⟩
theorem WalkAt.openAt (h : WalkAt base w p n gl c s po pc oo oc gp gw gh) {i x : Nat} (hi : s.opn[i]? = some x) : ∃ g, oo = some ⟨g, 0, none⟩ ∧ w.cell? ⟨g, i, none⟩ = some (.int .i64 (x : Int)) := by
  obtain ⟨ao, cap, e, h1, h2, h3⟩ := own_shape6 h.opn
  cases e
  have hlt := (List.getElem?_eq_some_iff.1 hi).1
  cases oo with
  | none => exact absurd (h2 rfl).1 (by omega)
  | some ad =>
    obtain ⟨g, rfl, _⟩ := h3 ad rfl
    exact ⟨g, rfl, own_at h.opn (by rw [List.getElem?_map, hi]; rfl)⟩
/-- Whatever is made anew leaves it. -/
theorem WalkAt.kept (h : WalkAt base w p n gl c s po pc oo oc gp gw gh) (hb : Below w.heap.size w w') : WalkAt base w' p n gl c s po pc oo oc gp gw gh where
  box := by rw [hb.block p h.lt]; exact h.box
  path := own_kept6 h.path hb
  opn := own_kept6 h.opn hb
  place := h.place.of_block (hb.block _ h.place.lt)
  low := h.low.of_block (hb.block _ h.low.lt)
  home := h.home.of_block (hb.block _ h.home.lt)
  bs := h.bs
  dis := h.dis
  pdis := h.pdis
  odis := h.odis
end

/-- May the walk go on to q? -/
def mayB (s : Tj) (T : Nat → Nat → Bool) (q : Nat) : Bool := decide (s.place q < 0) && (match s.path.getLast? with | none => true | some t => T t q)
theorem mayB_iff (s : Tj) (T : Nat → Nat → Bool) (q : Nat) : mayB s T q = true ↔ s.place q < 0 ∧ (s.path = [] ∨ ∃ P t, s.path = P ++ [t] ∧ T t q = true) := by
  unfold mayB
  rw [Bool.and_eq_true, decide_eq_true_eq]
  refine and_congr_right fun _ => ?_
  cases h : s.path.getLast? with
  | none => simp [List.getLast?_eq_none_iff.1 h]
  | some t =>
    obtain ⟨P, hP⟩ := List.getLast?_eq_some_iff.1 h
    constructor
    · intro h1; exact .inr ⟨P, t, hP, h1⟩
    · rintro (h1 | ⟨P', t', h1, h2⟩)
      · rw [hP] at h1; simp at h1
      · rw [hP] at h1
        have := List.append_inj_right' h1 rfl
        simp only [List.cons.injEq, and_true] at this
        rw [this]; exact h2
theorem mayB_no {s : Tj} {T : Nat → Nat → Bool} {q : Nat} (h : ¬ s.place q < 0) : mayB s T q = false := by unfold mayB; simp [h]
theorem mayB_nil {s : Tj} {T : Nat → Nat → Bool} {q : Nat} (h : s.place q < 0) (hn : s.path = []) : mayB s T q = true := by unfold mayB; simp [h, hn]
theorem mayB_at {s : Tj} {T : Nat → Nat → Bool} {q t : Nat} {P : List Nat} (h : s.place q < 0) (hn : s.path = P ++ [t]) : mayB s T q = T t q := by unfold mayB; simp [h, hn]

set_option maxHeartbeats 1000000 in
theorem mayEnter_any {base : Nat} {w : World} {p n gl c : Nat} {s : Tj} {po oo : Option Addr} {pc oc gp gw gh : Nat} {T N : Nat → Nat → Bool} {F : Nat → Nat → Int} (h : WalkAt base w p n gl c s po pc oo oc gp gw gh) (hl : LinksAt w gl n T N F) (hn : n ≤ 128) {q : Nat} (hq : q < n) (hp : ∀ v ∈ s.path, v < n) (hsz : s.path.length ≤ 128) :
    Calls Try.prog 44 #[.pointer (some ⟨p, 0, none⟩), .int .i64 (q : Int)] w fun e w' => e = .returned (.bool (mayB s T q)) ∧ Below w.heap.size w w' := by
  obtain ⟨c0, c1, c2, c3, c4, c5, c6⟩ := h.fields
  have z0 := h.place.cell hq
  have hqi : (q : Int) < (n : Int) := by omega
  have hq0 : (0 : Int) ≤ (q : Int) := by omega
  have HH := hide h
  have HL := hide hl
  have HP := hide hp
  clear h hl hp
  by_cases hpl : s.place q < 0
  · have d0 : decide (0 ≤ s.place q) = false := by simpa using hpl
    have HPl := hide hpl
    clear hpl
    by_cases hnil : s.path.length = 0
    · have d1 : ((s.path.length : Int) == 0) = true := by simpa using hnil
      have HN := hide (List.eq_nil_of_length_eq_zero hnil)
      clear hnil
      have c2' := over_cell c2
      go_enter Try.func44, Try.ntmps44
      go_wp2
      refine wp_region_over (fun W => W = w) (by kernel_rfl) (by kernel_rfl) rfl ?_
      rintro W rfl
      repeat (go_big_quiet_step (first | fail))
      refine wpQuiet_nil ?_
      rintro _ ⟨z, rfl⟩
      go_wp2
      go_ret
      exact ⟨by rw [mayB_nil HPl.out HN.out]; rfl, over_below _ _⟩
    · have d1 : ((s.path.length : Int) == 0) = false := by rw [beq_eq_false_iff_ne]; omega
      obtain ⟨t, ht⟩ : ∃ t, s.path[s.path.length - 1]? = some t := ⟨_, List.getElem?_eq_getElem (by omega)⟩
      have HE : Hid (s.path = s.path.take (s.path.length - 1) ++ [t]) := by
        show _ = _
        rw [← take_snoc8 ht, show s.path.length - 1 + 1 = s.path.length by omega, List.take_length]
      obtain ⟨gq, rfl, z1⟩ := HH.out.pathAt ht
      have htn : t < n := HP.out t (List.mem_of_getElem? ht)
      have HC : Hid (∀ x, Calls Try.prog 47 #[.agg #[.int .i64 (n : Int), .slice (some ⟨gl, 0, none⟩) (n * n) c], .int .i64 (t : Int), .int .i64 (q : Int)] (over w x) fun e w' => e = .returned (.bool (T t q)) ∧ Below (over w x).heap.size (over w x) w') := fun x => leads_any (HL.out.kept (over_below w x)) hn htn hq
      have l1 : ((s.path.length : Int) - 1) < (s.path.length : Int) := by omega
      have l0 : (0 : Int) ≤ (s.path.length : Int) - 1 := by omega
      have o0 := over_cell c0
      have o1 := over_cell c1
      have o2 := over_cell c2
      have oz := over_cell z1
      obtain ⟨tb, htb⟩ : ∃ tb, T t q = tb := ⟨_, rfl⟩
      rw [htb] at HC
      have HTb := hide htb
      clear htb ht hnil hn
      go_enter Try.func44, Try.ntmps44
      go_wp2
      refine wp_region_over (fun W => W = w) (by kernel_rfl) (by kernel_rfl) rfl ?_
      rintro W rfl
      repeat (go_big_quiet_step (first | (go_at_call 47; exact calls_over (HC.out _))))
      refine wpQuiet_nil ?_
      rintro _ ⟨z, rfl⟩
      go_wp2
      go_ret
      exact ⟨by rw [mayB_at HPl.out HE.out, HTb.out]; rfl, over_below _ _⟩
  · have d0 : decide (0 ≤ s.place q) = true := by simp; omega
    have HPl := hide hpl
    clear hpl
    go_enter Try.func44, Try.ntmps44
    go_wp2
    go_ret
    exact ⟨by rw [mayB_no (by have := HPl.out; omega)]; rfl, Below.refl _ _⟩
end Go.Proofs.Ytjifhmlfnnagcaa
