/- strata's graph in memory: one link a pair of predicates; link, leads. -/
import Derived.Test.YtjifhmlfnnagcaaEdgeFit
namespace Go.Proofs.Ytjifhmlfnnagcaa
set_option linter.unusedSimpArgs false
set_option linter.unusedVariables false
open Go.RowKit

/-- The links of a graph of n predicates, in block gl. -/
def LinksAt (w : World) (gl n : Nat) (T N : Nat → Nat → Bool) (F : Nat → Nat → Int) : Prop :=
  ∃ cur : Array Value, w.heap[gl]? = some (.cells cur 61 (0, 0)) ∧ cur.size = n * n * 3 ∧ ∀ u v, u < n → v < n → cur[(u * n + v) * 3]? = some (.bool (T u v)) ∧ cur[(u * n + v) * 3 + 1]? = some (.bool (N u v)) ∧ cur[(u * n + v) * 3 + 2]? = some (.int .i64 (F u v))

theorem LinksAt.same {w w' : World} {gl n : Nat} {T N : Nat → Nat → Bool} {F : Nat → Nat → Int} (h : LinksAt w gl n T N F) (hs : w'.heap[gl]? = w.heap[gl]?) : LinksAt w' gl n T N F := by
  obtain ⟨cur, h1, h2⟩ := h
  exact ⟨cur, by rw [hs]; exact h1, h2⟩
theorem LinksAt.lt {w : World} {gl n : Nat} {T N : Nat → Nat → Bool} {F : Nat → Nat → Int} (h : LinksAt w gl n T N F) : gl < w.heap.size := by
  obtain ⟨cur, h1, h2⟩ := h
  exact (Array.getElem?_eq_some_iff.1 h1).1
theorem LinksAt.kept {w w' : World} {gl n : Nat} {T N : Nat → Nat → Bool} {F : Nat → Nat → Int} (h : LinksAt w gl n T N F) (hb : Below w.heap.size w w') : LinksAt w' gl n T N F := h.same (hb.block gl h.lt)
theorem LinksAt.low {w w' : World} {gl n B : Nat} {T N : Nat → Nat → Bool} {F : Nat → Nat → Int} (h : LinksAt w gl n T N F) (hb : Below B w w') (hB : gl < B) : LinksAt w' gl n T N F := h.same (hb.block gl hB)
theorem LinksAt.cells {w : World} {gl n : Nat} {T N : Nat → Nat → Bool} {F : Nat → Nat → Int} (h : LinksAt w gl n T N F) {u v : Nat} (hu : u < n) (hv : v < n) :
    w.cell? ⟨gl, (u * n + v) * 3, none⟩ = some (.bool (T u v)) ∧ w.cell? ⟨gl, (u * n + v) * 3 + 1, none⟩ = some (.bool (N u v)) ∧ w.cell? ⟨gl, (u * n + v) * 3 + 2, none⟩ = some (.int .i64 (F u v)) := by
  obtain ⟨cur, h1, h2, h3⟩ := h
  obtain ⟨g1, g2, g3⟩ := h3 u v hu hv
  simp [World.cell?, h1, g1, g2, g3]

theorem LinksAt.frozen {w : World} {gl n : Nat} {T N : Nat → Nat → Bool} {F : Nat → Nat → Int} (h : LinksAt w gl n T N F) (i : Nat) : w.frozen? ⟨gl, i, none⟩ = false := by
  obtain ⟨cur, h1, _⟩ := h
  simp [World.frozen?, h1]

theorem pair_lt {n u v : Nat} (hu : u < n) (hv : v < n) : u * n + v < n * n := by
  calc u * n + v < u * n + n := by omega
    _ = (u + 1) * n := by rw [Nat.add_mul, Nat.one_mul]
    _ ≤ n * n := Nat.mul_le_mul_right _ hu
theorem pair_inj {n u v u' v' : Nat} (hv : v < n) (hv' : v' < n) (e : u * n + v = u' * n + v') : u = u' ∧ v = v' := by
  have hn : 0 < n := by omega
  have h1 : (u * n + v) / n = u := by rw [Nat.mul_comm, Nat.mul_add_div hn, Nat.div_eq_of_lt hv]; rfl
  have h2 : (u' * n + v') / n = u' := by rw [Nat.mul_comm, Nat.mul_add_div hn, Nat.div_eq_of_lt hv']; rfl
  rw [e, h2] at h1
  subst h1
  exact ⟨rfl, by omega⟩

set_option maxHeartbeats 1000000 in
theorem link_any {w : World} {gl n c u v : Nat} (hn : n ≤ 128) (hu : u < n) (hv : v < n) :
    Calls Try.prog 34 #[.agg #[.int .i64 (n : Int), .slice (some ⟨gl, 0, none⟩) (n * n) c], .int .i64 (u : Int), .int .i64 (v : Int)] w fun e w' => e = .returned (.pointer (some ⟨gl, (u * n + v) * 3, none⟩)) ∧ Below w.heap.size w w' := by
  have hb := belo1 w (.cells #[.int .i64 (n : Int), .slice (some ⟨gl, 0, none⟩) (n * n) c] 48)
  have HB := hide hb
  clear hb
  have hlt := pair_lt hu hv
  have hle : u * n ≤ 16384 := Nat.le_trans (Nat.mul_le_mul (Nat.le_of_lt (Nat.lt_of_lt_of_le hu hn)) hn) (by decide)
  have hnn : n * n ≤ 16384 := Nat.le_trans (Nat.mul_le_mul hn hn) (by decide)
  go_enter Try.func34, Try.ntmps34
  go_wp2
  go_ret
  exact ⟨rfl, HB.out⟩

/-- A graph by value. -/
abbrev grV (n gl c : Nat) : Value := .agg #[.int .i64 (n : Int), .slice (some ⟨gl, 0, none⟩) (n * n) c]

set_option maxHeartbeats 1000000 in
theorem leads_any {w : World} {gl n c u v : Nat} {T N : Nat → Nat → Bool} {F : Nat → Nat → Int} (h : LinksAt w gl n T N F) (hn : n ≤ 128) (hu : u < n) (hv : v < n) :
    Calls Try.prog 47 #[.agg #[.int .i64 (n : Int), .slice (some ⟨gl, 0, none⟩) (n * n) c], .int .i64 (u : Int), .int .i64 (v : Int)] w fun e w' => e = .returned (.bool (T u v)) ∧ Below w.heap.size w w' := by
  have hb := belo1 w (.cells #[.int .i64 (n : Int), .slice (some ⟨gl, 0, none⟩) (n * n) c] 48)
  have HB := hide hb
  have HL := hide (h.kept hb)
  have HC := hide (fun W : World => link_any (w := W) (gl := gl) (c := c) hn hu hv)
  have HD : Hid (u < n ∧ v < n) := ⟨hu, hv⟩
  clear h hb hn hu hv
  go_enter Try.func47, Try.ntmps47
  go_wp2_with (go_at_call 34; refine (HC.out _).mono ?_; rintro e w2 ⟨rfl, h2⟩; have c0 := ((HL.out.kept h2).cells HD.out.1 HD.out.2).1; have HB2 := hide (HB.out.trans (h2.mono HB.out.size)); clear h2)
  go_ret
  exact ⟨rfl, HB2.out⟩
end Go.Proofs.Ytjifhmlfnnagcaa
