/- strata.newGraph: the links that edges make. -/
import Derived.Test.YtjifhmlfnnagcaaGraphLink
import Derived.Laws.MakeOwn
import Derived.Deep.RegionHeld3
namespace Go.Proofs.Ytjifhmlfnnagcaa
set_option linter.unusedSimpArgs false
set_option linter.unusedVariables false
open Go.RowKit Go.Maps

def isE (u v : Nat) (e : Edg) : Bool := (e.f == (u : Int)) && (e.t == (v : Int))
/-- Is there an edge from u to v? A negated one? The first one's number. -/
def lnkT (es : List Edg) (u v : Nat) : Bool := es.any (isE u v)
def lnkN (es : List Edg) (u v : Nat) : Bool := es.any fun e => isE u v e && e.neg
def lnkF (es : List Edg) (u v : Nat) : Int := if lnkT es u v then findI (isE u v) es else 0

theorem Try.infoLnk : (Try.prog.info? 61).map (fun i => (i.zero, i.size, i.bytes)) = some (some (.agg #[.bool false, .bool false, .int .i64 0]), 3, 16) := by kernel_rfl

theorem makeLnks (n : Nat) (hn : n ≤ 128) : ∃ o, (∀ w : World, (Instr.makeSlice 46 (.int .i64 ((n : Int) * (n : Int))) (.int .i64 ((n : Int) * (n : Int)))).run Try.prog w = .ok (.slice (some ⟨w.heap.size, 0, none⟩) (n * n) (n * n)) (w.alloc o)) ∧ ∀ w : World, LinksAt (w.alloc o) w.heap.size n (fun _ _ => false) (fun _ _ => false) (fun _ _ => 0) := by
  obtain ⟨i0, hi0, hz0, hz1, hz2⟩ := info_parts Try.infoLnk
  have hnn : n * n ≤ 16384 := Nat.le_trans (Nat.mul_le_mul hn hn) (by decide)
  refine ⟨.cells (madeCells (Value.cells (.agg #[.bool false, .bool false, .int .i64 0])) (n * n * 3)) 61, fun w => ?_, fun w => ⟨_, heap_alloc_new _ _, ?_, fun u v hu hv => ?_⟩⟩
  · have := run_make (P := Try.prog) w 46 61 i0 _ Try.underlying46 hi0 hz0 .i64 .i64 ((n * n : Nat) : Int) ((n * n : Nat) : Int) (by omega) (by omega) (by rw [hz2]; omega) (by omega)
    rw [hz1] at this
    simp only [Int.toNat_natCast] at this
    have e : ((n * n : Nat) : Int) = (n : Int) * (n : Int) := by simp
    rw [e] at this
    exact this
  · rw [size_madeCells]
  · have hlt := pair_lt hu hv
    generalize hi : u * n + v = i at hlt ⊢
    have hz : (Value.agg #[.bool false, .bool false, .int .i64 0]).cells = #[.bool false, .bool false, .int .i64 0] := rfl
    rw [hz]
    have k0 : i * 3 < n * n * 3 := by omega
    have k1 : i * 3 + 1 < n * n * 3 := by omega
    have k2 : i * 3 + 2 < n * n * 3 := by omega
    have m0 : i * 3 % 3 = 0 := by omega
    have m1 : (i * 3 + 1) % 3 = 1 := by omega
    have m2 : (i * 3 + 2) % 3 = 2 := by omega
    refine ⟨?_, ?_, ?_⟩
    · simp [madeCells, k0]
    · simp [madeCells, k1, m1]
    · simp [madeCells, k2, m2]

/-- One link written. -/
def upd2 {α : Type} (f : Nat → Nat → α) (u v : Nat) (x : α) : Nat → Nat → α := fun a b => if a = u ∧ b = v then x else f a b
theorem LinksAt.put {w : World} {gl n : Nat} {T N : Nat → Nat → Bool} {F : Nat → Nat → Int} (h : LinksAt w gl n T N F) {u v : Nat} (hu : u < n) (hv : v < n) :
    (∀ b, LinksAt (w.setCell ⟨gl, (u * n + v) * 3, none⟩ (.bool b)) gl n (upd2 T u v b) N F) ∧ (∀ b, LinksAt (w.setCell ⟨gl, (u * n + v) * 3 + 1, none⟩ (.bool b)) gl n T (upd2 N u v b) F) ∧ ∀ x, LinksAt (w.setCell ⟨gl, (u * n + v) * 3 + 2, none⟩ (.int .i64 x)) gl n T N (upd2 F u v x) := by
  obtain ⟨cur, h1, h2, h3⟩ := h
  have hlt := pair_lt hu hv
  have hw : ∀ i y, (w.setCell ⟨gl, i, none⟩ y).heap[gl]? = some (.cells (cur.setIfInBounds i y) 61 (0, 0)) := fun i y => by simp [World.setCell, Array.getElem?_modify, h1]
  have other : ∀ a b, a < n → b < n → ¬ (a = u ∧ b = v) → a * n + b ≠ u * n + v := fun a b _ hb hne e => hne (pair_inj hb hv e)
  refine ⟨fun b => ⟨_, hw _ _, by simpa using h2, fun a c ha hc => ?_⟩, fun b => ⟨_, hw _ _, by simpa using h2, fun a c ha hc => ?_⟩, fun b => ⟨_, hw _ _, by simpa using h2, fun a c ha hc => ?_⟩⟩
  all_goals
    obtain ⟨g1, g2, g3⟩ := h3 a c ha hc
    have hac := pair_lt ha hc
    simp only [Array.getElem?_setIfInBounds, upd2]
    by_cases e : a = u ∧ c = v
    · obtain ⟨rfl, rfl⟩ := e
      simp only [and_self, if_true]
      refine ⟨?_, ?_, ?_⟩
      all_goals first
        | (rw [if_pos (by omega)])
        | (rw [if_pos rfl, if_pos (by omega)])
        | (rw [if_neg (by omega)]; assumption)
    · have hne := other a c ha hc e
      simp only [if_neg e]
      refine ⟨?_, ?_, ?_⟩
      all_goals (rw [if_neg (by omega)]; assumption)

theorem LinksAt.congr {w : World} {gl n : Nat} {T N T' N' : Nat → Nat → Bool} {F F' : Nat → Nat → Int} (h : LinksAt w gl n T N F) (e : ∀ u v, u < n → v < n → T u v = T' u v ∧ N u v = N' u v ∧ F u v = F' u v) : LinksAt w gl n T' N' F' := by
  obtain ⟨cur, h1, h2, h3⟩ := h
  refine ⟨cur, h1, h2, fun u v hu hv => ?_⟩
  obtain ⟨e1, e2, e3⟩ := e u v hu hv
  rw [← e1, ← e2, ← e3]
  exact h3 u v hu hv

theorem isE_self (u v : Nat) (g : Bool) (r : Int) : isE u v ⟨u, v, g, r⟩ = true := by simp [isE]
theorem isE_other {u v a b : Nat} {g : Bool} {r : Int} (h : ¬ (a = u ∧ b = v)) : isE a b ⟨u, v, g, r⟩ = false := by
  unfold isE
  rw [Bool.and_eq_false_iff]
  by_cases e : a = u
  · right; rw [beq_eq_false_iff_ne]; dsimp only; omega
  · left; rw [beq_eq_false_iff_ne]; dsimp only; omega

theorem findI_snoc {α : Type} {p : α → Bool} {l : List α} {x : α} : findI p (l ++ [x]) = if l.any p then findI p l else if p x then (l.length : Int) else -1 := by
  unfold findI
  rw [List.findIdx?_append]
  cases h : l.findIdx? p with
  | none =>
    have : l.any p = false := by
      rw [List.findIdx?_eq_none_iff] at h
      rw [List.any_eq_false]; intro y hy; simp [h y hy]
    rw [this]
    cases hx : p x <;> simp [List.findIdx?_cons, hx]
  | some k =>
    have : l.any p = true := by rw [← List.findIdx?_isSome, h]; rfl
    rw [this]; simp

/-- One edge more: its link alone changes. -/
theorem lnk_snoc {L : List Edg} {u v : Nat} {g : Bool} {r : Int} (a b : Nat) :
    lnkT (L ++ [⟨u, v, g, r⟩]) a b = upd2 (lnkT L) u v true a b ∧ lnkN (L ++ [⟨u, v, g, r⟩]) a b = upd2 (lnkN L) u v (lnkN L u v || g) a b ∧ lnkF (L ++ [⟨u, v, g, r⟩]) a b = upd2 (lnkF L) u v (if lnkT L u v then lnkF L u v else L.length) a b := by
  unfold upd2
  by_cases e : a = u ∧ b = v
  · obtain ⟨rfl, rfl⟩ := e
    simp only [and_self, if_true]
    have h1 : lnkT (L ++ [⟨a, b, g, r⟩]) a b = true := by unfold lnkT; simp [isE_self]
    refine ⟨h1, by unfold lnkN; simp [isE_self], ?_⟩
    unfold lnkF
    rw [h1, findI_snoc]
    simp only [if_true, isE_self]
    cases h : lnkT L a b with
    | true => unfold lnkT at h; rw [h]; simp
    | false => unfold lnkT at h; rw [h]; simp
  · have hn := isE_other (g := g) (r := r) e
    simp only [if_neg e]
    have h1 : lnkT (L ++ [⟨u, v, g, r⟩]) a b = lnkT L a b := by unfold lnkT; simp [hn]
    refine ⟨h1, by unfold lnkN; simp [hn], ?_⟩
    unfold lnkF
    rw [h1]
    cases h : lnkT L a b with
    | true => unfold lnkT at h; rw [findI_snoc, h]; simp
    | false => simp
end Go.Proofs.Ytjifhmlfnnagcaa
