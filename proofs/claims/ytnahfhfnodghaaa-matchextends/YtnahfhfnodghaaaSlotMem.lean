/- Slots, lists of slots and of numbers in memory; what idOf and the document's value answer of a slot under a substitution. -/
import Derived.Test.YtnahfhfnodghaaaProg
import Derived.Test.YtnahfhfnodghaaaBox
import Derived.WalkKit
import Derived.WalkSpells
import Derived.Deep.DeepCutAuto
import Derived.WalkLawsBesides
namespace Go.Proofs.Ytnahfhfnodghaaa
set_option linter.unusedSimpArgs false
set_option linter.unusedVariables false
open Go.RowKit

/-- A slice of numbers that can be read. -/
def IsNums (w : World) (ao : Option Addr) (len : Nat) (l : List Int) : Prop :=
  l.length = len ∧ len * 8 ≤ 140737488355328 ∧ (∀ x ∈ l, I64 x) ∧ (0 < len → ∃ b off, ao = some ⟨b, off, none⟩ ∧ ∀ i x, l[i]? = some x → w.cell? ⟨b, off + i, none⟩ = some (.int .i64 x))

theorem IsNums.kept {w w' : World} {ao : Option Addr} {len : Nat} {l : List Int} (h : IsNums w ao len l) (hb : Below w.heap.size w w') : IsNums w' ao len l :=
  ⟨h.1, h.2.1, h.2.2.1, fun hp => by obtain ⟨b, off, e, hc⟩ := h.2.2.2 hp; exact ⟨b, off, e, fun i x hi => kept_cell hb (hc i x hi)⟩⟩

structure Slt where
  v : Bool
  n : Int
def Slt.val (s : Slt) : Value := .agg #[.bool s.v, .int .i64 s.n]
def sltAt (w : World) (b off : Nat) (s : Slt) : Prop := w.cell? ⟨b, off, none⟩ = some (.bool s.v) ∧ w.cell? ⟨b, off + 1, none⟩ = some (.int .i64 s.n)
/-- A slice of slots. -/
def IsSlts (w : World) (ao : Option Addr) (len : Nat) (l : List Slt) : Prop :=
  l.length = len ∧ len * 16 ≤ 140737488355328 ∧ (∀ x ∈ l, I64 x.n) ∧ (0 < len → ∃ b off, ao = some ⟨b, off, none⟩ ∧ ∀ i s, l[i]? = some s → sltAt w b (off + i * 2) s)

theorem sltAt.kept {w w' : World} {b off : Nat} {s : Slt} (h : sltAt w b off s) (hb : Below w.heap.size w w') : sltAt w' b off s := ⟨kept_cell hb h.1, kept_cell hb h.2⟩
theorem IsSlts.kept {w w' : World} {ao : Option Addr} {len : Nat} {l : List Slt} (h : IsSlts w ao len l) (hb : Below w.heap.size w w') : IsSlts w' ao len l :=
  ⟨h.1, h.2.1, h.2.2.1, fun hp => by obtain ⟨b, off, e, hc⟩ := h.2.2.2 hp; exact ⟨b, off, e, fun i s hi => (hc i s hi).kept hb⟩⟩

/-- The id that a slot comes to under a substitution, or -1. -/
def idP (s : Slt) (sub : List Int) : Int :=
  if s.n < 0 then -1 else if s.v then (match sub[s.n.toNat]? with | some x => if x < 0 then -1 else x | none => -1) else s.n

theorem idP_ge (s : Slt) (sub : List Int) : -1 ≤ idP s sub := by
  unfold idP
  split
  · omega
  · split
    · split
      · split <;> omega
      · omega
    · omega

theorem idP_I64 {s : Slt} {sub : List Int} (hs : I64 s.n) (hi : ∀ x ∈ sub, I64 x) : I64 (idP s sub) := by
  have h1 := idP_ge s sub
  refine ⟨by omega, ?_⟩
  unfold idP
  split
  · omega
  · split
    · split
      · rename_i x hx
        have := hi x (List.mem_of_getElem? hx)
        split
        · omega
        · exact this.2
      · omega
    · exact hs.2

theorem idOf_any {s : Slt} {w : World} {ao : Option Addr} {len cap : Nat} {sub : List Int} (hs : I64 s.n) (h : IsNums w ao len sub) :
    Calls Try.prog 25 #[s.val, .slice ao len cap] w fun e w' => e = .returned (.int .i64 (idP s sub)) ∧ Below w.heap.size w w' := by
  obtain ⟨v, n⟩ := s
  unfold Slt.val
  obtain ⟨hl, hlen, hI, hrow⟩ := h
  have hn1 := hs.1
  have hn2 := hs.2
  simp only at hn1 hn2
  have HB : Hid (Below w.heap.size w (w.alloc (.cells #[.bool v, .int .i64 n] 43))) := (Below.refl _ _).alloc (Nat.le_refl _) _
  by_cases h0 : n < 0
  · have e : idP ⟨v, n⟩ sub = -1 := by simp [idP, h0]
    rw [e]
    clear hI hrow hl
    go_enter Try.func25, Try.ntmps25
    go_wp2
    go_ret
    exact ⟨rfl, HB.out⟩
  · cases v with
    | false =>
      have e : idP ⟨false, n⟩ sub = n := by simp [idP, h0]
      rw [e]
      clear hI hrow hl
      go_enter Try.func25, Try.ntmps25
      go_wp2
      go_ret
      exact ⟨rfl, HB.out⟩
    | true =>
      obtain ⟨k, rfl⟩ : ∃ k : Nat, n = k := ⟨n.toNat, by omega⟩
      by_cases hk : (len : Int) ≤ (k : Int)
      · have e : idP ⟨true, (k : Int)⟩ sub = -1 := by
          have : sub[k]? = none := List.getElem?_eq_none (by omega)
          simp only [idP, Int.toNat_natCast, this]
          simp
        rw [e]
        clear hI hrow hl
        go_enter Try.func25, Try.ntmps25
        go_wp2
        go_ret
        exact ⟨rfl, HB.out⟩
      · obtain ⟨x, hx⟩ : ∃ x, sub[k]? = some x := ⟨_, List.getElem?_eq_getElem (by omega)⟩
        obtain ⟨b, off, rfl, hc⟩ := hrow (by omega)
        have c0 := kept_cell HB.out (hc k x hx)
        have hkl : (k : Int) < (len : Int) := by omega
        by_cases hx0 : x < 0
        · have e : idP ⟨true, (k : Int)⟩ sub = -1 := by simp only [idP, Int.toNat_natCast, hx]; rw [if_neg h0]; simp [hx0]
          rw [e]
          clear hI hc hl hx
          go_enter Try.func25, Try.ntmps25
          go_wp2
          all_goals go_ret
          all_goals first | exact ⟨rfl, HB.out⟩ | exact ⟨by rw [show x = -1 from by omega]; rfl, HB.out⟩
        · have e : idP ⟨true, (k : Int)⟩ sub = x := by simp only [idP, Int.toNat_natCast, hx]; rw [if_neg h0]; simp [hx0]
          rw [e]
          clear hI hc hl hx
          go_enter Try.func25, Try.ntmps25
          go_wp2
          go_ret
          exact ⟨rfl, HB.out⟩

theorem value_any {s : Slt} {w : World} {ao : Option Addr} {len cap : Nat} {sub : List Int} (hs : I64 s.n) (h : IsNums w ao len sub) :
    Calls Try.prog 26 #[s.val, .slice ao len cap] w fun e w' => e = .returned (.int .i64 (idP s sub)) ∧ Below w.heap.size w w' := by
  obtain ⟨v, n⟩ := s
  unfold Slt.val
  obtain ⟨hl, hlen, hI, hrow⟩ := h
  have hn1 := hs.1
  have hn2 := hs.2
  simp only at hn1 hn2
  have HB : Hid (Below w.heap.size w (w.alloc (.cells #[.bool v, .int .i64 n] 43))) := (Below.refl _ _).alloc (Nat.le_refl _) _
  by_cases h0 : n < 0
  · have e : idP ⟨v, n⟩ sub = -1 := by simp [idP, h0]
    rw [e]
    clear hI hrow hl
    go_enter Try.func26, Try.ntmps26
    go_wp2
    go_ret
    exact ⟨rfl, HB.out⟩
  · cases v with
    | false =>
      have e : idP ⟨false, n⟩ sub = n := by simp [idP, h0]
      rw [e]
      clear hI hrow hl
      go_enter Try.func26, Try.ntmps26
      go_wp2
      go_ret
      exact ⟨rfl, HB.out⟩
    | true =>
      obtain ⟨k, rfl⟩ : ∃ k : Nat, n = k := ⟨n.toNat, by omega⟩
      by_cases hk : (len : Int) ≤ (k : Int)
      · have e : idP ⟨true, (k : Int)⟩ sub = -1 := by
          have : sub[k]? = none := List.getElem?_eq_none (by omega)
          simp only [idP, Int.toNat_natCast, this]
          simp
        rw [e]
        clear hI hrow hl
        go_enter Try.func26, Try.ntmps26
        go_wp2
        go_ret
        exact ⟨rfl, HB.out⟩
      · obtain ⟨x, hx⟩ : ∃ x, sub[k]? = some x := ⟨_, List.getElem?_eq_getElem (by omega)⟩
        obtain ⟨b, off, rfl, hc⟩ := hrow (by omega)
        have c0 := kept_cell HB.out (hc k x hx)
        have hkl : (k : Int) < (len : Int) := by omega
        by_cases hx0 : x < 0
        · have e : idP ⟨true, (k : Int)⟩ sub = -1 := by simp only [idP, Int.toNat_natCast, hx]; rw [if_neg h0]; simp [hx0]
          rw [e]
          clear hI hc hl hx
          go_enter Try.func26, Try.ntmps26
          go_wp2
          go_ret
          exact ⟨rfl, HB.out⟩
        · have e : idP ⟨true, (k : Int)⟩ sub = x := by simp only [idP, Int.toNat_natCast, hx]; rw [if_neg h0]; simp [hx0]
          rw [e]
          clear hI hc hl hx
          go_enter Try.func26, Try.ntmps26
          go_wp2
          go_ret
          exact ⟨rfl, HB.out⟩
end Go.Proofs.Ytnahfhfnodghaaa
