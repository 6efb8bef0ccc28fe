/- The beginning of strata's homes: a walk that has met nothing, made in whatever order. -/
import Derived.Test.YtjifhmlfnnagcaaWalkLeave
import Derived.WalkMore
import Derived.Deep.Cut
import Derived.Deep.DeepCutAuto
namespace Go.Proofs.Ytjifhmlfnnagcaa
set_option linter.unusedSimpArgs false
set_option linter.unusedVariables false
open Go.RowKit Go.Maps

theorem heapA (w : World) (o : Obj) (b : Nat) : (w.alloc o).heap[b]? = if b = w.heap.size then some o else w.heap[b]? := by
  show (w.heap.push o)[b]? = _
  rw [Array.getElem?_push]

/-- A walk's box, nothing in it yet. -/
def ZB (V : World) (p : Nat) : Prop := V.heap[p]? = some (.cells #[.int .i64 0, .slice none 0 0, .slice none 0 0, .slice none 0 0, .slice none 0 0, .slice none 0 0, .slice none 0 0] 69 (0, 0))
theorem ZB.lt {V : World} {p : Nat} (h : ZB V p) : p < V.heap.size := (Array.getElem?_eq_some_iff.1 h).1
theorem ZB.facts {V : World} {p : Nat} (h : ZB V p) : (V.cell? ⟨p, 0, none⟩ = some (.int .i64 0) ∧ V.cell? ⟨p, 1, none⟩ = some (.slice none 0 0) ∧ V.cell? ⟨p, 2, none⟩ = some (.slice none 0 0) ∧ V.cell? ⟨p, 3, none⟩ = some (.slice none 0 0) ∧ V.cell? ⟨p, 4, none⟩ = some (.slice none 0 0) ∧ V.cell? ⟨p, 5, none⟩ = some (.slice none 0 0) ∧ V.cell? ⟨p, 6, none⟩ = some (.slice none 0 0)) ∧ (∀ i, V.frozen? ⟨p, i, none⟩ = false) := by
  unfold ZB at h
  refine ⟨⟨?_, ?_, ?_, ?_, ?_, ?_, ?_⟩, fun i => ?_⟩ <;> simp [World.cell?, World.frozen?, h]

/-- What has been made so far: the rows of places, of lows, of homes, the box. -/
structure St (Y V : World) (n : Nat) (o1 om o2 ob : Option Nat) : Prop where
  be : Below Y.heap.size Y V
  r1 : ∀ g, o1 = some g → Y.heap.size ≤ g ∧ V.rowIs g 3 n (fun _ => .int .i64 (-1))
  rm : ∀ g, om = some g → Y.heap.size ≤ g ∧ V.rowIs g 3 n (fun _ => .int .i64 0)
  r2 : ∀ g, o2 = some g → Y.heap.size ≤ g ∧ V.rowIs g 3 n (fun _ => .int .i64 (-1))
  rb : ∀ g, ob = some g → Y.heap.size ≤ g ∧ ZB V g
  d1 : ∀ g, o1 = some g → om ≠ some g ∧ o2 ≠ some g ∧ ob ≠ some g
  d2 : ∀ g, om = some g → o2 ≠ some g ∧ ob ≠ some g
  d3 : ∀ g, o2 = some g → ob ≠ some g
section
variable {Y V V' : World} {n g k : Nat} {o1 om o2 ob : Option Nat}
theorem St.start (Y : World) (n : Nat) : St Y Y n none none none none :=
  ⟨Below.refl _ _, fun g h => (by cases h), fun g h => (by cases h), fun g h => (by cases h), fun g h => (by cases h), fun g h => (by cases h), fun g h => (by cases h), fun g h => (by cases h)⟩
theorem St.kept (h : St Y V n o1 om o2 ob) (hb : Below V.heap.size V V') : St Y V' n o1 om o2 ob :=
  ⟨h.be.trans (hb.mono h.be.size), fun g e => ⟨(h.r1 g e).1, (h.r1 g e).2.of_block (hb.block _ (h.r1 g e).2.lt)⟩, fun g e => ⟨(h.rm g e).1, (h.rm g e).2.of_block (hb.block _ (h.rm g e).2.lt)⟩, fun g e => ⟨(h.r2 g e).1, (h.r2 g e).2.of_block (hb.block _ (h.r2 g e).2.lt)⟩,
    fun g e => ⟨(h.rb g e).1, by unfold ZB; rw [hb.block _ (h.rb g e).2.lt]; exact (h.rb g e).2⟩, h.d1, h.d2, h.d3⟩
theorem St.drew (h : St Y V n o1 om o2 ob) : St Y V.drew n o1 om o2 ob := h.kept (Below.refl _ _).drew
theorem St.lt (h : St Y V n o1 om o2 ob) : (∀ g, o1 = some g → g < V.heap.size) ∧ (∀ g, om = some g → g < V.heap.size) ∧ (∀ g, o2 = some g → g < V.heap.size) ∧ ∀ g, ob = some g → g < V.heap.size :=
  ⟨fun g e => (h.r1 g e).2.lt, fun g e => (h.rm g e).2.lt, fun g e => (h.r2 g e).2.lt, fun g e => (h.rb g e).2.lt⟩
theorem St.mk' (hk : V.heap.size = k) (h : St Y V n o1 none o2 ob) : St Y (V.alloc (.cells (madeCells #[.int .i64 0] n) 3)) n o1 (some k) o2 ob := by
  subst hk
  obtain ⟨l1, l2, l3, l4⟩ := h.lt
  have hk := h.kept (belo1 V (.cells (madeCells #[.int .i64 0] n) 3))
  refine ⟨hk.be, hk.r1, fun g e => ?_, hk.r2, hk.rb, fun g e => ⟨fun e2 => ?_, (h.d1 g e).2⟩, fun g e => ?_, h.d3⟩
  · cases e; exact ⟨h.be.size, World.rowIs_made _ _ _ _⟩
  · cases e2; have := l1 _ e; omega
  · cases e; exact ⟨fun e2 => by have := l3 _ e2; omega, fun e2 => by have := l4 _ e2; omega⟩
theorem St.bx (hk : V.heap.size = k) (h : St Y V n o1 om o2 none) : St Y (V.alloc (.cells #[.int .i64 0, .slice none 0 0, .slice none 0 0, .slice none 0 0, .slice none 0 0, .slice none 0 0, .slice none 0 0] 69)) n o1 om o2 (some k) := by
  subst hk
  obtain ⟨l1, l2, l3, l4⟩ := h.lt
  have hk := h.kept (belo1 V (.cells #[.int .i64 0, .slice none 0 0, .slice none 0 0, .slice none 0 0, .slice none 0 0, .slice none 0 0, .slice none 0 0] 69))
  refine ⟨hk.be, hk.r1, hk.rm, hk.r2, fun g e => ?_, fun g e => ⟨(h.d1 g e).1, (h.d1 g e).2.1, fun e2 => ?_⟩, fun g e => ⟨(h.d2 g e).1, fun e2 => ?_⟩, fun g e e2 => ?_⟩
  · cases e; exact ⟨h.be.size, heap_alloc_new _ _⟩
  · cases e2; have := l1 _ e; omega
  · cases e2; have := l2 _ e; omega
  · cases e2; have := l3 _ e; omega
theorem St.c1 (h : St Y V n none om none ob) (hg : V.heap.size ≤ g) (hr : V'.rowIs g 3 n (fun _ => .int .i64 (-1))) (hb : Below V.heap.size V V') : St Y V' n (some g) om none ob := by
  obtain ⟨l1, l2, l3, l4⟩ := h.lt
  have hk := h.kept hb
  refine ⟨hk.be, fun g' e => ?_, hk.rm, hk.r2, hk.rb, fun g' e => ?_, h.d2, h.d3⟩
  · cases e; exact ⟨Nat.le_trans h.be.size hg, hr⟩
  · cases e; exact ⟨fun e2 => by have := l2 _ e2; omega, fun e2 => (by cases e2), fun e2 => by have := l4 _ e2; omega⟩
theorem St.c2 (h : St Y V n o1 om none ob) (hg : V.heap.size ≤ g) (hr : V'.rowIs g 3 n (fun _ => .int .i64 (-1))) (hb : Below V.heap.size V V') : St Y V' n o1 om (some g) ob := by
  obtain ⟨l1, l2, l3, l4⟩ := h.lt
  have hk := h.kept hb
  refine ⟨hk.be, hk.r1, hk.rm, fun g' e => ?_, hk.rb, fun g' e => ⟨(h.d1 g' e).1, fun e2 => ?_, (h.d1 g' e).2.2⟩, fun g' e => ⟨fun e2 => ?_, (h.d2 g' e).2⟩, fun g' e e2 => ?_⟩
  · cases e; exact ⟨Nat.le_trans h.be.size hg, hr⟩
  · cases e2; have := l1 _ e; omega
  · cases e2; have := l2 _ e; omega
  · cases e; have := l4 _ e2; omega

/-- The walk, out of its parts. -/
theorem St.walk {gl c g1 gm g2 p : Nat} (h : St Y V n (some g1) (some gm) (some g2) (some p)) (hs : ∀ b, b ≠ p → V'.heap[b]? = V.heap[b]?)
    (hp : V'.heap[p]? = some (.cells #[.int .i64 (n : Int), .slice (some ⟨gl, 0, none⟩) (n * n) c, .slice none 0 0, .slice none 0 0, .slice (some ⟨g1, 0, none⟩) n n, .slice (some ⟨gm, 0, none⟩) n n, .slice (some ⟨g2, 0, none⟩) n n] 69 (0, 0))) :
    WalkAt Y.heap.size V' p n gl c ⟨[], [], fun _ => -1, fun _ => 0, fun _ => -1⟩ none 0 none 0 g1 gm g2 where
  box := hp
  path := World.ownsRow_nil _ _ _ _
  opn := World.ownsRow_nil _ _ _ _
  place := (h.r1 _ rfl).2.of_block (hs _ fun e => (h.d1 _ rfl).2.2 (by rw [e]))
  low := (h.rm _ rfl).2.of_block (hs _ fun e => (h.d2 _ rfl).2 (by rw [e]))
  home := (h.r2 _ rfl).2.of_block (hs _ fun e => (h.d3 _ rfl) (by rw [e]))
  bs := ⟨(h.rb _ rfl).1, (h.r1 _ rfl).1, (h.rm _ rfl).1, (h.r2 _ rfl).1⟩
  dis := ⟨⟨fun e => (h.d1 _ rfl).2.2 (by rw [e]), fun e => (h.d2 _ rfl).2 (by rw [e]), fun e => h.d3 _ rfl (by rw [e])⟩, fun e => (h.d1 _ rfl).1 (by rw [e]), fun e => (h.d1 _ rfl).2.1 (by rw [e]), fun e => (h.d2 _ rfl).1 (by rw [e])⟩
  pdis := fun b e => (by cases e)
  odis := fun b e => (by cases e)
theorem St.pge {p : Nat} (h : St Y V n o1 om o2 (some p)) : Y.heap.size ≤ p := (h.rb _ rfl).1
theorem St.store7 {p : Nat} (h : St Y V n o1 om o2 (some p)) (a0 a1 a2 a3 a4 a5 a6 : Value) : Below Y.heap.size Y (((((((V.setCell ⟨p, 0, none⟩ (a0)).setCell ⟨p, 1, none⟩ (a1)).setCell ⟨p, 2, none⟩ (a2)).setCell ⟨p, 3, none⟩ (a3)).setCell ⟨p, 4, none⟩ (a4)).setCell ⟨p, 5, none⟩ (a5)).setCell ⟨p, 6, none⟩ (a6)) := by
  have hp := (h.rb _ rfl).1
  exact (((((((h.be.setCell hp _).setCell hp _).setCell hp _).setCell hp _).setCell hp _).setCell hp _).setCell hp _)
theorem St.fin7 {gl c g1 gm g2 p : Nat} (h : St Y V n (some g1) (some gm) (some g2) (some p)) :
    WalkAt Y.heap.size (((((((V.setCell ⟨p, 0, none⟩ (.int .i64 (n : Int))).setCell ⟨p, 1, none⟩ (.slice (some ⟨gl, 0, none⟩) (n * n) c)).setCell ⟨p, 2, none⟩ (.slice none 0 0)).setCell ⟨p, 3, none⟩ (.slice none 0 0)).setCell ⟨p, 4, none⟩ (.slice (some ⟨g1, 0, none⟩) n n)).setCell ⟨p, 5, none⟩ (.slice (some ⟨gm, 0, none⟩) n n)).setCell ⟨p, 6, none⟩ (.slice (some ⟨g2, 0, none⟩) n n)) p n gl c ⟨[], [], fun _ => -1, fun _ => 0, fun _ => -1⟩ none 0 none 0 g1 gm g2 := by
  refine h.walk (fun b hb => ?_) ?_
  · rw [heap_other hb, heap_other hb, heap_other hb, heap_other hb, heap_other hb, heap_other hb, heap_other hb]
  · have hz := (h.rb _ rfl).2
    unfold ZB at hz
    simp [World.setCell, Array.getElem?_modify, hz]
theorem St.finA {gl c g1 gm g2 : Nat} (h : St Y V n (some g1) (some gm) (some g2) none) :
    WalkAt Y.heap.size (V.alloc (.cells #[.int .i64 (n : Int), .slice (some ⟨gl, 0, none⟩) (n * n) c, .slice none 0 0, .slice none 0 0, .slice (some ⟨g1, 0, none⟩) n n, .slice (some ⟨gm, 0, none⟩) n n, .slice (some ⟨g2, 0, none⟩) n n] 69)) V.heap.size n gl c ⟨[], [], fun _ => -1, fun _ => 0, fun _ => -1⟩ none 0 none 0 g1 gm g2 := by
  refine (St.bx rfl h).walk (fun b hb => ?_) (heap_alloc_new _ _)
  rw [heapA, heapA, if_neg hb, if_neg hb]
theorem St.finB {gl c g1 gm g2 : Nat} (h : St Y V n (some g1) none (some g2) none) (hm : gm = V.heap.size + 1) :
    WalkAt Y.heap.size ((V.alloc (.cells #[.int .i64 (n : Int), .slice (some ⟨gl, 0, none⟩) (n * n) c, .slice none 0 0, .slice none 0 0, .slice (some ⟨g1, 0, none⟩) n n, .slice (some ⟨gm, 0, none⟩) n n, .slice (some ⟨g2, 0, none⟩) n n] 69)).alloc (.cells (madeCells #[.int .i64 0] n) 3)) V.heap.size n gl c ⟨[], [], fun _ => -1, fun _ => 0, fun _ => -1⟩ none 0 none 0 g1 gm g2 := by
  subst hm
  refine (St.mk' (k := V.heap.size + 1) (by simp) (St.bx rfl h)).walk (fun b hb => ?_) ?_
  · rw [heapA, heapA, heapA, heapA, if_neg hb, if_neg hb]
    simp
  · rw [heapA, heapA]
    simp
theorem St.end7 {gl c g1 gm g2 p : Nat} (h : St Y V n (some g1) (some gm) (some g2) (some p)) : ∃ p' gp gw gh, Value.pointer (some ⟨p, 0, none⟩) = .pointer (some ⟨p', 0, none⟩) ∧ Hid (WalkAt Y.heap.size (((((((V.setCell ⟨p, 0, none⟩ (.int .i64 (n : Int))).setCell ⟨p, 1, none⟩ (.slice (some ⟨gl, 0, none⟩) (n * n) c)).setCell ⟨p, 2, none⟩ (.slice none 0 0)).setCell ⟨p, 3, none⟩ (.slice none 0 0)).setCell ⟨p, 4, none⟩ (.slice (some ⟨g1, 0, none⟩) n n)).setCell ⟨p, 5, none⟩ (.slice (some ⟨gm, 0, none⟩) n n)).setCell ⟨p, 6, none⟩ (.slice (some ⟨g2, 0, none⟩) n n)) p' n gl c ⟨[], [], fun _ => -1, fun _ => 0, fun _ => -1⟩ none 0 none 0 gp gw gh) ∧ Hid (Below Y.heap.size Y (((((((V.setCell ⟨p, 0, none⟩ (.int .i64 (n : Int))).setCell ⟨p, 1, none⟩ (.slice (some ⟨gl, 0, none⟩) (n * n) c)).setCell ⟨p, 2, none⟩ (.slice none 0 0)).setCell ⟨p, 3, none⟩ (.slice none 0 0)).setCell ⟨p, 4, none⟩ (.slice (some ⟨g1, 0, none⟩) n n)).setCell ⟨p, 5, none⟩ (.slice (some ⟨gm, 0, none⟩) n n)).setCell ⟨p, 6, none⟩ (.slice (some ⟨g2, 0, none⟩) n n))) :=
  ⟨_, _, _, _, rfl, h.fin7, h.store7 _ _ _ _ _ _ _⟩
theorem St.endA {gl c g1 gm g2 k : Nat} (h : St Y V n (some g1) (some gm) (some g2) none) (hk : k = V.heap.size) : ∃ p' gp gw gh, Value.pointer (some ⟨k, 0, none⟩) = .pointer (some ⟨p', 0, none⟩) ∧ Hid (WalkAt Y.heap.size (V.alloc (.cells #[.int .i64 (n : Int), .slice (some ⟨gl, 0, none⟩) (n * n) c, .slice none 0 0, .slice none 0 0, .slice (some ⟨g1, 0, none⟩) n n, .slice (some ⟨gm, 0, none⟩) n n, .slice (some ⟨g2, 0, none⟩) n n] 69)) p' n gl c ⟨[], [], fun _ => -1, fun _ => 0, fun _ => -1⟩ none 0 none 0 gp gw gh) ∧ Hid (Below Y.heap.size Y (V.alloc (.cells #[.int .i64 (n : Int), .slice (some ⟨gl, 0, none⟩) (n * n) c, .slice none 0 0, .slice none 0 0, .slice (some ⟨g1, 0, none⟩) n n, .slice (some ⟨gm, 0, none⟩) n n, .slice (some ⟨g2, 0, none⟩) n n] 69))) := by
  subst hk
  exact ⟨_, _, _, _, rfl, h.finA, h.be.alloc h.be.size _⟩
theorem St.endB {gl c g1 gm g2 : Nat} (h : St Y V n (some g1) none (some g2) none) (hm : gm = V.heap.size + 1) : ∃ p' gp gw gh, Value.pointer (some ⟨V.heap.size, 0, none⟩) = .pointer (some ⟨p', 0, none⟩) ∧ Hid (WalkAt Y.heap.size ((V.alloc (.cells #[.int .i64 (n : Int), .slice (some ⟨gl, 0, none⟩) (n * n) c, .slice none 0 0, .slice none 0 0, .slice (some ⟨g1, 0, none⟩) n n, .slice (some ⟨gm, 0, none⟩) n n, .slice (some ⟨g2, 0, none⟩) n n] 69)).alloc (.cells (madeCells #[.int .i64 0] n) 3)) p' n gl c ⟨[], [], fun _ => -1, fun _ => 0, fun _ => -1⟩ none 0 none 0 gp gw gh) ∧ Hid (Below Y.heap.size Y ((V.alloc (.cells #[.int .i64 (n : Int), .slice (some ⟨gl, 0, none⟩) (n * n) c, .slice none 0 0, .slice none 0 0, .slice (some ⟨g1, 0, none⟩) n n, .slice (some ⟨gm, 0, none⟩) n n, .slice (some ⟨g2, 0, none⟩) n n] 69)).alloc (.cells (madeCells #[.int .i64 0] n) 3))) :=
  ⟨_, _, _, _, rfl, h.finB hm, (h.be.alloc h.be.size _).alloc (Nat.le_trans h.be.size (belo1 _ _).size) _⟩
end

/-- How much is left to do, read off memory: twice the predicates not met yet, and the path's length. -/
def muW (gp p n : Nat) (w : World) : Nat := 2 * ((List.range n).countP fun i => match w.cell? ⟨gp, i, none⟩ with | some (.int _ x) => decide (x < 0) | _ => false) + (match w.cell? ⟨p, 2, none⟩ with | some (.slice _ l _) => l | _ => 0)
def muS (n : Nat) (s : Tj) : Nat := 2 * ((List.range n).countP fun i => decide (s.place i < 0)) + s.path.length
theorem muW_eq {base : Nat} {w : World} {p n gl c : Nat} {s : Tj} {po oo : Option Addr} {pc oc gp gw gh : Nat} (h : WalkAt base w p n gl c s po pc oo oc gp gw gh) : muW gp p n w = muS n s := by
  unfold muW muS
  rw [h.fields.2.2.1]
  congr 2
  refine List.countP_congr fun i hi => ?_
  rw [h.place.cell (List.mem_range.1 hi)]
theorem muS_enter {n : Nat} {s : Tj} {q : Nat} (hq : q < n) (hw : s.place q < 0) : muS n (s.enter q) < muS n s := by
  have key : ∀ m, ((List.range m).countP fun i => decide ((s.enter q).place i < 0)) + (if q < m then 1 else 0) = (List.range m).countP fun i => decide (s.place i < 0) := by
    intro m
    induction m with
    | zero => simp
    | succ m ih =>
      rw [List.range_succ, List.countP_append, List.countP_append]
      simp only [List.countP_cons, List.countP_nil, Nat.zero_add]
      by_cases e : m = q
      · subst e
        have h1 : (s.enter m).place m = s.opn.length := by unfold Tj.enter; exact updI_at _ _ _
        rw [if_neg (by omega)] at ih
        simp only [h1, hw, decide_true, if_true]
        rw [if_neg (by simp), if_pos (by omega)]
        omega
      · have h1 : (s.enter q).place m = s.place m := by unfold Tj.enter; exact updI_ne _ _ e
        rw [h1]
        have h2 : (if q < m + 1 then 1 else 0) = if q < m then 1 else 0 := by
          by_cases h : q < m
          · rw [if_pos h, if_pos (by omega)]
          · rw [if_neg h, if_neg (by omega)]
        rw [h2]
        omega
  have h1 := key n
  rw [if_pos hq] at h1
  unfold muS
  have h2 : (s.enter q).path.length = s.path.length + 1 := by unfold Tj.enter; simp
  rw [h2]
  omega
end Go.Proofs.Ytjifhmlfnnagcaa
