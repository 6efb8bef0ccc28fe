/- A slice of a slice: its beginning, its end; and the lists that they are. -/
import Derived.Test.YtihkhnljjegopaaLists
import Derived.Test.YtihkhnljjegopaaProg
import Derived.Laws.Slices
namespace Go.Proofs.Ytihkhnljjegopaa
set_option linter.unusedSimpArgs false
set_option linter.unusedVariables false
open Go.RowKit

theorem addr_zero (a : Addr) : a.add 0 = a := by unfold Addr.add; rw [if_pos rfl]
section
variable {P : Program} {t : TypeId} {s : Nat}
theorem run_to (ht : P.underlying t = some (.slice (P.elem t))) (hs : ∀ V : World, (sizeOf (P.elem t)).run P V = .ok s V) (a : Option Addr) (n cap i : Nat) (h : i ≤ cap) (V : World) :
    (Instr.slice t (.slice a n cap) none (some (.int .i64 (i : Int))) none).run P V = .ok (.slice a i cap) V := by
  rw [run_slice_h V t a n cap ht .i64 (i : Int) (by omega) (by omega), hs V]
  simp only [Result.andThen, sliced, Int.toNat_natCast, Nat.sub_zero, Nat.zero_mul]
  congr 2
  split
  · rfl
  · cases a with
    | none => rfl
    | some a => rw [Option.map_some, addr_zero]
/-- Where the end of a slice lies. -/
def tailA (a : Option Addr) (i cap s : Nat) : Option Addr := if cap = i then a else a.map (·.add (i * s))
theorem run_from (ht : P.underlying t = some (.slice (P.elem t))) (hs : ∀ V : World, (sizeOf (P.elem t)).run P V = .ok s V) (a : Option Addr) (n cap i : Nat) (h : i ≤ n) (V : World) :
    (Instr.slice t (.slice a n cap) (some (.int .i64 (i : Int))) none none).run P V = .ok (.slice (tailA a i cap s) (n - i) (cap - i)) V := by
  rw [run_slice_l V t a n cap ht .i64 (i : Int) (by omega) (by omega), hs V]
  simp only [Result.andThen, sliced, Int.toNat_natCast, tailA]
theorem at_of (ht : P.underlying t = some (.slice (P.elem t))) {x : Value} {lo hi : Option Value} {V : World} {r : Result Value} (h : (Instr.slice t x lo hi none).run P V = r) : (Instr.sliceAt t x lo hi none).run P V = r := by
  rw [run_sliceAt_slice V t x lo hi none ht]; exact h
end

theorem Lst.to {α : Type} {E : El α} {w : World} {F : Nat → Prop} {a : Option Addr} {n cap i : Nat} {l : List α} (h : Lst E w F (.slice a n cap) l) (hi : i ≤ l.length) : Lst E w F (.slice a i cap) (l.take i) := by
  obtain ⟨ao, c, e, h1, h2, h3, h4, h5⟩ := h
  injection e with e1 e2 e3
  subst e1 e3
  have hl : (l.take i).length = i := by rw [List.length_take]; omega
  refine ⟨_, _, by rw [hl], by omega, fun h => ?_, by omega, fun x hx => h4 x (List.mem_of_mem_take hx), fun hp => ?_⟩
  · have := h2 h
    omega
  · obtain ⟨b, off, e2, hb, hF, hc⟩ := h5 (by omega)
    exact ⟨b, off, e2, hb, hF, fun k x hx j u hu => hc k x (by rw [List.getElem?_take] at hx; split at hx; exact hx; cases hx) j u hu⟩
theorem Lst.from {α : Type} {E : El α} {w : World} {F : Nat → Prop} {a : Option Addr} {n cap i : Nat} {l : List α} (h : Lst E w F (.slice a n cap) l) (hi : i ≤ l.length) : Lst E w F (.slice (tailA a i cap E.size) (n - i) (cap - i)) (l.drop i) := by
  obtain ⟨ao, c, e, h1, h2, h3, h4, h5⟩ := h
  injection e with e1 e2 e3
  subst e1 e3
  have hl : (l.drop i).length = n - i := by rw [List.length_drop, e2]
  refine ⟨_, _, by rw [hl], by omega, fun h => ?_, by omega, fun x hx => h4 x (List.mem_of_mem_drop hx), fun hp => ?_⟩
  · unfold tailA at h
    split at h
    · have := h2 h
      omega
    · cases a with
      | none => have := h2 rfl; omega
      | some a => cases h
  · obtain ⟨b, off, e2, hb, hF, hc⟩ := h5 (by omega)
    subst e2
    refine ⟨b, off + i * E.size, ?_, hb, hF, fun k x hx j u hu => ?_⟩
    · unfold tailA
      rw [if_neg (by omega), Option.map_some]
      congr 1
      unfold Addr.add
      split
      · rename_i h0
        rw [h0, Nat.add_zero]
      · rfl
    · rw [List.getElem?_drop] at hx
      have := hc (i + k) x hx j u hu
      rw [Nat.add_mul, ← Nat.add_assoc] at this
      exact this

theorem sl_rules_to (a : Option Addr) (n cap i : Nat) (h : i ≤ cap) (V : World) : (Instr.slice 22 (.slice a n cap) none (some (.int .i64 (i : Int))) none).run Try.prog V = .ok (.slice a i cap) V :=
  run_to (s := 7) (by kernel_rfl) (fun V => by kernel_rfl) a n cap i h V
end Go.Proofs.Ytihkhnljjegopaa
