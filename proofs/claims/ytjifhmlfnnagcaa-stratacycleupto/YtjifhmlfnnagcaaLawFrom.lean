/- edictlaw08.fit and from: what is reached within some predicates is closed under the edges within them. -/
import Derived.Test.YtjifhmlfnnagcaaGraphPub
namespace Go.Proofs.Ytjifhmlfnnagcaa
set_option linter.unusedSimpArgs false
set_option linter.unusedVariables false
open Go.RowKit Go.Maps

theorem Try.infoBool : (Try.prog.info? 4).map (fun i => (i.zero, i.size, i.bytes)) = some (some (.bool false), 1, 1) := by kernel_rfl

def endU (back : Bool) (e : Edg) : Nat := if back then e.t.toNat else e.f.toNat
def endV (back : Bool) (e : Edg) : Nat := if back then e.f.toNat else e.t.toNat
def updB (f : Nat → Bool) (i : Nat) : Nat → Bool := fun j => if j = i then true else f j
def unsW (g n : Nat) (w : World) : Nat := (List.range n).countP fun i => match w.cell? ⟨g, i, none⟩ with | some (.bool b) => !b | _ => false
def unsS (n : Nat) (S : Nat → Bool) : Nat := (List.range n).countP fun i => !(S i)
theorem unsW_eq {w : World} {g n : Nat} {S : Nat → Bool} (h : w.rowIs g 4 n (fun i => .bool (S i))) : unsW g n w = unsS n S := by
  unfold unsW unsS
  refine List.countP_congr fun i hi => ?_
  rw [h.cell (List.mem_range.1 hi)]
theorem unsS_upd {n : Nat} {S : Nat → Bool} {v : Nat} (hv : v < n) (h : S v = false) : unsS n (updB S v) < unsS n S := by
  unfold unsS
  refine countP_lt (fun x _ hx => ?_) ⟨v, List.mem_range.2 hv, by rw [h]; rfl, by unfold updB; simp⟩
  unfold updB at hx
  split at hx
  · cases hx
  · exact hx
def boolOf : Value → Bool
  | .bool b => b
  | _ => false

def muF (g n : Nat) (ag : Value) (w : World) : Nat := 2 * unsW g n w + (if boolOf ag then 1 else 0)

theorem made_set (w : World) {n a : Nat} (ha : a < n) : (w.alloc (.cells ((madeCells #[Value.bool false] n).setIfInBounds a (.bool true)) 4)).rowIs w.heap.size 4 n (fun i => .bool (updB (fun _ => false) a i)) := by
  refine ⟨_, heap_alloc_new _ _, by rw [Array.size_setIfInBounds, size_madeCells], fun i hi => ?_⟩
  rw [Array.getElem?_setIfInBounds]
  unfold updB
  have h1 : (madeCells #[Value.bool false] n)[i]? = some (.bool false) := by simp [madeCells, hi, Nat.mod_one]
  by_cases h : a = i
  · subst h
    simp [size_madeCells, ha]
  · rw [if_neg h, h1]
    show _ = some (Value.bool (if i = a then true else false))
    rw [if_neg (fun h' => h (Eq.symm h'))]

end Go.Proofs.Ytjifhmlfnnagcaa
