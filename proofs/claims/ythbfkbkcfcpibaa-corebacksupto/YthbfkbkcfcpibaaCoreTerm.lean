/- What core.within, core.termOf and the document's termOf answer. -/
import Derived.Test.YthbfkbkcfcpibaaOpenCore
import Derived.Test.YthbfkbkcfcpibaaWellBase
namespace Go.Proofs.Ythbfkbkcfcpibaa
set_option linter.unusedSimpArgs false
set_option linter.unusedVariables false
open Go.RowKit

/-- The element at a place that may be any number. -/
def idx {α : Type} (l : List α) (n : Int) : Option α := if n < 0 then none else l[n.toNat]?

theorem idx_some {α : Type} {l : List α} {n : Int} {x : α} (h : idx l n = some x) : ∃ k : Nat, n = k ∧ k < l.length ∧ l[k]? = some x := by
  unfold idx at h
  split at h
  · cases h
  · exact ⟨n.toNat, by omega, (List.getElem?_eq_some_iff.1 h).1, h⟩
theorem idx_none {α : Type} {l : List α} {n : Int} (h : idx l n = none) : n < 0 ∨ ∃ k : Nat, n = k ∧ l.length ≤ k := by
  unfold idx at h
  split at h
  · left; assumption
  · right; exact ⟨n.toNat, by omega, List.getElem?_eq_none_iff.1 h⟩
theorem idx_nat {α : Type} (l : List α) (k : Nat) : idx l (k : Int) = l[k]? := by
  unfold idx
  rw [if_neg (by omega)]
  simp
theorem idx_isSome {α : Type} (l : List α) (n : Int) : (idx l n).isSome = (decide (0 ≤ n) && decide (n < (l.length : Int))) := by
  unfold idx
  by_cases h : n < 0
  · rw [if_pos h]; simp; omega
  · rw [if_neg h]
    by_cases h2 : n.toNat < l.length
    · rw [List.getElem?_eq_getElem h2]; simp; omega
    · rw [List.getElem?_eq_none (by omega)]; simp; omega

def varT (s : ByteArray) : Trm := ⟨4, 0, s, 0⟩
def conT (c : Con) : Trm := ⟨c.k, c.n, c.s, 0⟩
/-- A slot in names, if it points at something. -/
def termP (cs : List Con) (vs : List ByteArray) (s : Slo) : Option Trm := if s.v then (idx vs s.n).map varT else (idx cs s.n).map conT

theorem withinPred (n : Int) (ao : Option Addr) (len cap : Nat) (w : World) :
    Calls Try.prog 30 #[.int .i64 n, .slice ao len cap] w fun e w' => e = .returned (.bool (decide (0 ≤ n) && decide (n < (len : Int)))) ∧ w' = w := by
  by_cases h : 0 ≤ n
  · by_cases h2 : n < (len : Int)
    · go_enter Try.func30, Try.ntmps30
      go_wp2
      go_ret
      simp [h, h2]
    · go_enter Try.func30, Try.ntmps30
      go_wp2
      go_ret
      simp [h, h2]
  · go_enter Try.func30, Try.ntmps30
    go_wp2
    go_ret
    simp [h]; omega

theorem withinCon (n : Int) (ao : Option Addr) (len cap : Nat) (w : World) :
    Calls Try.prog 31 #[.int .i64 n, .slice ao len cap] w fun e w' => e = .returned (.bool (decide (0 ≤ n) && decide (n < (len : Int)))) ∧ w' = w := by
  by_cases h : 0 ≤ n
  · by_cases h2 : n < (len : Int)
    · go_enter Try.func31, Try.ntmps31
      go_wp2
      go_ret
      simp [h, h2]
    · go_enter Try.func31, Try.ntmps31
      go_wp2
      go_ret
      simp [h, h2]
  · go_enter Try.func31, Try.ntmps31
    go_wp2
    go_ret
    simp [h]; omega

theorem withinStr (n : Int) (ao : Option Addr) (len cap : Nat) (w : World) :
    Calls Try.prog 39 #[.int .i64 n, .slice ao len cap] w fun e w' => e = .returned (.bool (decide (0 ≤ n) && decide (n < (len : Int)))) ∧ w' = w := by
  by_cases h : 0 ≤ n
  · by_cases h2 : n < (len : Int)
    · go_enter Try.func39, Try.ntmps39
      go_wp2
      go_ret
      simp [h, h2]
    · go_enter Try.func39, Try.ntmps39
      go_wp2
      go_ret
      simp [h, h2]
  · go_enter Try.func39, Try.ntmps39
    go_wp2
    go_ret
    simp [h]; omega


theorem below3 (w : World) (a b c : Obj) : Below w.heap.size w (((w.alloc a).alloc b).alloc c) := (((Below.refl _ w).alloc (Nat.le_refl _) _).alloc (by simp) _).alloc (by simp; omega) _
theorem below4 (w : World) (a b c d : Obj) : Below w.heap.size w ((((w.alloc a).alloc b).alloc c).alloc d) := ((((Below.refl _ w).alloc (Nat.le_refl _) _).alloc (by simp) _).alloc (by simp; omega) _).alloc (by simp; omega) _
theorem below5 (w : World) (a b c d e : Obj) : Below w.heap.size w (((((w.alloc a).alloc b).alloc c).alloc d).alloc e) := (below4 w a b c d).alloc (by simp; omega) _

set_option maxHeartbeats 1000000 in
theorem termOf_any {w : World} {pv cv rv fv hv pw tv nv vv : Value} {q cl : Int} {cs : List Con} {vs : List ByteArray} {s : Slo} {t : Trm} (hc : Has elCon w cv cs) (hs : Has elStr w vv vs) (h : termP cs vs s = some t) :
    Calls Try.prog 29 #[.agg #[pv, cv, rv, fv], .agg #[.int .i64 q, hv, pw, tv, nv, vv, .int .i64 cl], .agg #[.bool s.v, .int .i64 s.n]] w fun e w' => e = .returned t.val ∧ Below w.heap.size w w' := by
  obtain ⟨ca, cc, rfl, -, -, -⟩ := hc.shape
  obtain ⟨va, vc, rfl, -, -, -⟩ := hs.shape
  obtain ⟨v, n⟩ := s
  cases v with
  | true =>
    simp only [termP, if_true, Option.map_eq_some_iff] at h
    obtain ⟨x, hx, rfl⟩ := h
    obtain ⟨k, rfl, hk, hx⟩ := idx_some hx
    obtain ⟨b, off, rfl, -, -, hrow⟩ := hs.row (by omega)
    have c0 := fun a b c d => kept_cell (below4 w a b c d) (hrow k x hx 0 (.string x) rfl)
    simp only [elStr, Nat.mul_one, Nat.add_zero] at c0
    have hk' : (k : Int) < (vs.length : Int) := by omega
    have hk0 : (0 : Int) ≤ (k : Int) := by omega
    clear hc hs hrow hx
    go_enter Try.func29, Try.ntmps29
    go_wp2
    exact bodyPost_ret (v := .agg #[.int .i64 4, .int .i64 0, .string x, .int .i64 0]) (by simp [results, Try.results29, go_sem]) rfl ⟨rfl, below4 w _ _ _ _⟩
  | false =>
    simp only [termP, Bool.false_eq_true, if_false, Option.map_eq_some_iff] at h
    obtain ⟨x, hx, rfl⟩ := h
    obtain ⟨k, rfl, hk, hx⟩ := idx_some hx
    obtain ⟨b, off, rfl, -, -, hrow⟩ := hc.row (by omega)
    have c0 := fun a b c d => kept_cell (below4 w a b c d) (hrow k x hx 0 _ rfl)
    have c1 := fun a b c d => kept_cell (below4 w a b c d) (hrow k x hx 1 _ rfl)
    have c2 := fun a b c d => kept_cell (below4 w a b c d) (hrow k x hx 2 _ rfl)
    simp only [elCon, Nat.mul_one, Nat.add_zero] at c0 c1 c2
    have hk' : (k : Int) < (cs.length : Int) := by omega
    have hk0 : (0 : Int) ≤ (k : Int) := by omega
    clear hc hs hrow hx
    obtain ⟨xk, xn, xs⟩ := x
    go_enter Try.func29, Try.ntmps29
    go_wp2
    exact bodyPost_ret (v := .agg #[.int .i64 xk, .int .i64 xn, .string xs, .int .i64 0]) (by simp [results, Try.results29, go_sem]) rfl ⟨rfl, below5 w _ _ _ _ _⟩

def noT : Trm := ⟨0, 0, ⟨#[]⟩, 0⟩
def getT (o : Option Trm) : Trm := o.getD noT

set_option maxHeartbeats 1000000 in
theorem rtermOf_any {w : World} {pv cv rv fv vv : Value} {cs : List Con} {vs : List ByteArray} {s : Slo} (hc : Has elCon w cv cs) (hs : Has elStr w vv vs) :
    Calls Try.prog 18 #[.agg #[pv, cv, rv, fv], .agg #[.bool s.v, .int .i64 s.n], vv] w fun e w' => e = .returned (.tuple #[(getT (termP cs vs s)).val, .bool (termP cs vs s).isSome]) ∧ Below w.heap.size w w' := by
  obtain ⟨ca, cc, rfl, -, -, -⟩ := hc.shape
  obtain ⟨va, vc, rfl, -, -, -⟩ := hs.shape
  obtain ⟨v, n⟩ := s
  cases v with
  | true =>
    have ht : termP cs vs ⟨true, n⟩ = (idx vs n).map varT := rfl
    rw [ht]
    clear ht
    cases hx : idx vs n with
    | none =>
      rcases idx_none hx with hn | ⟨k, rfl, hk⟩
      · clear hc hs hx
        go_enter Try.func18, Try.ntmps18
        go_wp2
        exact bodyPost_ret (v := .tuple #[.agg #[.int .i64 0, .int .i64 0, .string ⟨#[]⟩, .int .i64 0], .bool false]) (by simp [results, Try.results18, go_sem]) rfl ⟨rfl, by first | exact below3 w _ _ _ | exact below4 w _ _ _ _⟩
      · have hk' : (vs.length : Int) ≤ (k : Int) := by omega
        have hk0 : ¬ (k : Int) < 0 := by omega
        clear hc hs hx
        go_enter Try.func18, Try.ntmps18
        go_wp2
        exact bodyPost_ret (v := .tuple #[.agg #[.int .i64 0, .int .i64 0, .string ⟨#[]⟩, .int .i64 0], .bool false]) (by simp [results, Try.results18, go_sem]) rfl ⟨rfl, by first | exact below3 w _ _ _ | exact below4 w _ _ _ _⟩
    | some x =>
      obtain ⟨k, rfl, hk, hx⟩ := idx_some hx
      obtain ⟨b, off, rfl, -, -, hrow⟩ := hs.row (by omega)
      have c0 := fun a b c => kept_cell (below3 w a b c) (hrow k x hx 0 (.string x) rfl)
      simp only [elStr, Nat.mul_one, Nat.add_zero] at c0
      have hk' : (k : Int) < (vs.length : Int) := by omega
      have hk0 : (0 : Int) ≤ (k : Int) := by omega
      clear hc hs hrow hx
      go_enter Try.func18, Try.ntmps18
      go_wp2
      exact bodyPost_ret (v := .tuple #[.agg #[.int .i64 4, .int .i64 0, .string x, .int .i64 0], .bool true]) (by simp [results, Try.results18, go_sem]) rfl ⟨rfl, by first | exact below3 w _ _ _ | exact below4 w _ _ _ _⟩
  | false =>
    have ht : termP cs vs ⟨false, n⟩ = (idx cs n).map conT := rfl
    rw [ht]
    clear ht
    cases hx : idx cs n with
    | none =>
      rcases idx_none hx with hn | ⟨k, rfl, hk⟩
      · clear hc hs hx
        go_enter Try.func18, Try.ntmps18
        go_wp2
        exact bodyPost_ret (v := .tuple #[.agg #[.int .i64 0, .int .i64 0, .string ⟨#[]⟩, .int .i64 0], .bool false]) (by simp [results, Try.results18, go_sem]) rfl ⟨rfl, by first | exact below3 w _ _ _ | exact below4 w _ _ _ _⟩
      · have hk' : (cs.length : Int) ≤ (k : Int) := by omega
        have hk0 : ¬ (k : Int) < 0 := by omega
        clear hc hs hx
        go_enter Try.func18, Try.ntmps18
        go_wp2
        exact bodyPost_ret (v := .tuple #[.agg #[.int .i64 0, .int .i64 0, .string ⟨#[]⟩, .int .i64 0], .bool false]) (by simp [results, Try.results18, go_sem]) rfl ⟨rfl, by first | exact below3 w _ _ _ | exact below4 w _ _ _ _⟩
    | some x =>
      obtain ⟨k, rfl, hk, hx⟩ := idx_some hx
      obtain ⟨b, off, rfl, -, -, hrow⟩ := hc.row (by omega)
      have c0 := fun a b c => kept_cell (below3 w a b c) (hrow k x hx 0 _ rfl)
      have c1 := fun a b c => kept_cell (below3 w a b c) (hrow k x hx 1 _ rfl)
      have c2 := fun a b c => kept_cell (below3 w a b c) (hrow k x hx 2 _ rfl)
      simp only [elCon, Nat.mul_one, Nat.add_zero] at c0 c1 c2
      have hk' : (k : Int) < (cs.length : Int) := by omega
      have hk0 : (0 : Int) ≤ (k : Int) := by omega
      clear hc hs hrow hx
      obtain ⟨xk, xn, xs⟩ := x
      go_enter Try.func18, Try.ntmps18
      go_wp2
      exact bodyPost_ret (v := .tuple #[.agg #[.int .i64 xk, .int .i64 xn, .string xs, .int .i64 0], .bool true]) (by simp [results, Try.results18, go_sem]) rfl ⟨rfl, by first | exact below3 w _ _ _ | exact below4 w _ _ _ _⟩
end Go.Proofs.Ythbfkbkcfcpibaa
