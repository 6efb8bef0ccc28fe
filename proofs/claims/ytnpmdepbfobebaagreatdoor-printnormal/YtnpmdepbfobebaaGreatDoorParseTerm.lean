/- parse's reader takes a term. -/
import Derived.Test.YtnpmdepbfobebaaGreatDoorProg
import Derived.Test.YtnpmdepbfobebaaGreatDoorParseTake
import Derived.Deep.RegionHeld3
namespace Go.Proofs.YtnpmdepbfobebaaGreatDoor
set_option linter.unusedSimpArgs false
set_option linter.unusedVariables false
open Go.RowKit
attribute [local go_sem] over_cellAt over_frozenAt over_setAt

/-- The reader stands ahead of the tokens R. -/
def Ahead (w : World) (p : Nat) (ao : Option Addr) (cap : Nat) (L : List Tok) (c f : Int) (R : List Tok) : Prop := ∃ i, Rdr w p ao cap L c f i ∧ L.drop i = R

theorem Ahead.kept {w w' : World} {p : Nat} {ao : Option Addr} {cap : Nat} {L : List Tok} {c f : Int} {R : List Tok} (h : Ahead w p ao cap L c f R) (hb : Below w.heap.size w w') : Ahead w' p ao cap L c f R := by
  obtain ⟨i, h1, h2⟩ := h
  exact ⟨i, h1.kept hb, h2⟩
theorem Ahead.lt {w : World} {p : Nat} {ao : Option Addr} {cap : Nat} {L : List Tok} {c f : Int} {R : List Tok} (h : Ahead w p ao cap L c f R) : p < w.heap.size := by
  obtain ⟨i, h1, _⟩ := h
  exact h1.lt

theorem Ahead.good {w : World} {p : Nat} {ao : Option Addr} {cap : Nat} {L : List Tok} {c f : Int} {R : List Tok} (h : Ahead w p ao cap L c f R) : ∀ t ∈ R, t.good := by
  obtain ⟨i, h1, h2⟩ := h
  exact fun t ht => h1.good t (List.mem_of_mem_drop (by rw [h2]; exact ht))

theorem drop_head {L : List Tok} {i : Nat} {t : Tok} {r : List Tok} (h : L.drop i = t :: r) : L[i]? = some t ∧ L.drop (i + 1) = r := by
  constructor
  · have := congrArg (fun l => l[0]?) h
    simpa using this
  · have := congrArg (List.drop 1) h
    simpa [List.drop_drop] using this

theorem look_good {w : World} {p : Nat} {ao : Option Addr} {cap : Nat} {L : List Tok} {c f : Int} {t : Tok} {r : List Tok} (h : Ahead w p ao cap L c f (t :: r)) :
    Calls Tryz.prog 69 #[.pointer (some ⟨p, 0, none⟩)] w fun e w' => e = .returned (tokV t) ∧ Below w.heap.size w w' := by
  obtain ⟨i, h1, h2⟩ := h
  exact look_ok h1 (drop_head h2).1
theorem look_none {w : World} {p : Nat} {ao : Option Addr} {cap : Nat} {L : List Tok} {c f : Int} (h : Ahead w p ao cap L c f []) :
    Calls Tryz.prog 69 #[.pointer (some ⟨p, 0, none⟩)] w fun e w' => e = PEnd c f ∧ Below w.heap.size w w' := by
  obtain ⟨i, h1, h2⟩ := h
  have := h1.le
  exact look_end h1 (by have := List.drop_eq_nil_iff.1 h2; omega)

theorem take_good {w : World} {p : Nat} {ao : Option Addr} {cap : Nat} {L : List Tok} {c f : Int} {R r : List Tok} {t : Tok} {ks : List Int} (g : Nat) (h : Ahead w p ao cap L c f R) (hk : KsAt w g ks) (hkl : ks.length ≤ 100) (hT : takeP c f ks R = .ok t r) :
    Calls Tryz.prog 51 #[.pointer (some ⟨p, 0, none⟩), .slice (some ⟨g, 0, none⟩) ks.length ks.length] w fun e w' => e = .returned (tokV t) ∧ Ahead w' p ao cap L c f r ∧ Only (fun b => b = p) w w' := by
  obtain ⟨i, h1, h2⟩ := h
  match R, h2, hT with
  | x :: r', h2, hT =>
    simp only [takeP] at hT
    by_cases hm : x.k ∈ ks
    · rw [if_pos hm] at hT
      injection hT with e1 e2
      subst e1 e2
      obtain ⟨d1, d2⟩ := drop_head h2
      exact (take_ok g ks h1 d1 hk hkl hm).mono fun e w' ⟨he, hr, ho⟩ => ⟨he, ⟨i + 1, hr, d2⟩, ho⟩
    · rw [if_neg hm] at hT; cases hT
theorem take_fail {w : World} {p : Nat} {ao : Option Addr} {cap : Nat} {L : List Tok} {c f ec eo : Int} {R : List Tok} {ks : List Int} (g : Nat) (h : Ahead w p ao cap L c f R) (hk : KsAt w g ks) (hkl : ks.length ≤ 100) (hT : takeP c f ks R = .bad ec eo) :
    Calls Tryz.prog 51 #[.pointer (some ⟨p, 0, none⟩), .slice (some ⟨g, 0, none⟩) ks.length ks.length] w fun e w' => e = PEnd ec eo ∧ Below w.heap.size w w' := by
  obtain ⟨i, h1, h2⟩ := h
  match R, h2, hT with
  | [], h2, hT =>
    simp only [takeP] at hT
    injection hT with e1 e2
    subst e1 e2
    have := h1.le
    exact take_end g ks h1 (by have := List.drop_eq_nil_iff.1 h2; omega)
  | x :: r', h2, hT =>
    simp only [takeP] at hT
    by_cases hm : x.k ∈ ks
    · rw [if_pos hm] at hT; cases hT
    · rw [if_neg hm] at hT
      injection hT with e1 e2
      subst e1 e2
      exact take_bad g ks h1 (drop_head h2).1 hk hkl hm

set_option maxHeartbeats 1000000 in
theorem termOf_any (t : Tok) (w : World) :
    Calls Tryz.prog 82 #[tokV t] w fun e w' => e = .returned (termP t).val ∧ Below w.heap.size w w' := by
  have HK := hide (termKind_any t.k)
  unfold tokV termP Trm.val
  go_enter Tryz.func82, Tryz.ntmps82
  go_wp2
  go_region_held3 (fun w' => w'.cell? ⟨w.heap.size, 0, none⟩ = some (.int .i64 t.k) ∧ w'.cell? ⟨w.heap.size, 1, none⟩ = some (.string t.t) ∧ w'.cell? ⟨w.heap.size, 2, none⟩ = some (.int .i64 t.n) ∧ w'.cell? ⟨w.heap.size, 4, none⟩ = some (.int .i64 (t.off : Int)))
    (go_keep)
    (first | (go_at_call 98; refine (HK.out _).mono ?_; rintro e w' ⟨rfl, hw'⟩; have hw' := hw'.symm; subst hw'))
  all_goals (try go_wp2)
  all_goals exact bodyPost_ret (v := .agg #[.int .i64 (kindT t.k), .int .i64 t.n, .string t.t, .int .i64 (t.off : Int)]) (by simp [results, Tryz.results82, go_sem]) rfl ⟨rfl, (((Below.refl _ _).alloc (Nat.le_refl _) _).alloc (by simp) _).drew⟩
end Go.Proofs.YtnpmdepbfobebaaGreatDoor
