/- parse's reader: look, take, limit, giveUp. -/
import Derived.Test.YtnpmdepbfobebaaGreatDoorProg
import Derived.Test.YtnpmdepbfobebaaGreatDoorParsePure
import Derived.WalkLawsBesides
namespace Go.Proofs.YtnpmdepbfobebaaGreatDoor
set_option linter.unusedSimpArgs false
set_option linter.unusedVariables false
open Go.RowKit
attribute [local go_sem] over_cellAt over_frozenAt over_setAt

/-- A token whose parts are as small as they are in a text. -/
def Tok.good (t : Tok) : Prop := t.t.size ≤ 65536 ∧ I64 t.k ∧ I64 t.n ∧ I64 t.op ∧ t.off ≤ 65536

/-- The reader at block p: its tokens, why none follows them, where it stands. -/
structure Rdr (w : World) (p : Nat) (ao : Option Addr) (cap : Nat) (L : List Tok) (c f : Int) (i : Nat) : Prop where
  blk : w.heap[p]? = some (.cells #[.slice ao L.length cap, .int .i64 c, .int .i64 0, .int .i64 f, .int .i64 (i : Int)] 113 (0, 0))
  toks : 0 < L.length → ∃ g, ao = some ⟨g, 0, none⟩ ∧ g ≠ p ∧ ∀ j t, L[j]? = some t → TokAt w g (j * 6) t
  le : i ≤ L.length
  small : L.length ≤ 65538
  good : ∀ t ∈ L, t.good

theorem Rdr.lt {w : World} {p : Nat} {ao : Option Addr} {cap : Nat} {L : List Tok} {c f : Int} {i : Nat} (h : Rdr w p ao cap L c f i) : p < w.heap.size := (Array.getElem?_eq_some_iff.1 h.blk).1
theorem Rdr.kept {w w' : World} {p : Nat} {ao : Option Addr} {cap : Nat} {L : List Tok} {c f : Int} {i : Nat} (h : Rdr w p ao cap L c f i) (hb : Below w.heap.size w w') : Rdr w' p ao cap L c f i :=
  ⟨by rw [hb.block _ h.lt]; exact h.blk, fun h0 => by obtain ⟨g, e, hg, hr⟩ := h.toks h0; exact ⟨g, e, hg, fun j t ht => (hr j t ht).kept hb⟩, h.le, h.small, h.good⟩
theorem Rdr.cells {w : World} {p : Nat} {ao : Option Addr} {cap : Nat} {L : List Tok} {c f : Int} {i : Nat} (h : Rdr w p ao cap L c f i) :
    w.cell? ⟨p, 0, none⟩ = some (.slice ao L.length cap) ∧ w.cell? ⟨p, 1, none⟩ = some (.int .i64 c) ∧ w.cell? ⟨p, 2, none⟩ = some (.int .i64 0) ∧ w.cell? ⟨p, 3, none⟩ = some (.int .i64 f) ∧ w.cell? ⟨p, 4, none⟩ = some (.int .i64 (i : Int)) ∧ w.frozen? ⟨p, 4, none⟩ = false := by
  refine ⟨?_, ?_, ?_, ?_, ?_, ?_⟩ <;> simp [World.cell?, World.frozen?, h.blk]

abbrev faultP (c o : Int) : Value := .iface 31 (.agg #[.int .i64 c, .int .i64 0, .int .i64 o])
abbrev PEnd (c o : Int) : Ending := .panicked [{ v := faultP c o, recovered := false }]

theorem giveUp_any (c o : Int) (w : World) : Calls Tryz.prog 71 #[.int .i64 c, .int .i64 o] w fun e w' => e = PEnd c o ∧ w' = w := by
  go_enter Tryz.func71, Tryz.ntmps71
  go_wp2
  exact ⟨rfl, rfl, rfl⟩
  
theorem limit_ok (n m c o : Int) (w : World) (h : n ≠ m) : Calls Tryz.prog 53 #[.int .i64 n, .int .i64 m, .int .i64 c, .int .i64 o] w fun e w' => (∃ v, e = .returned v) ∧ w' = w := by
  have he : (n == m) = false := by simpa using h
  go_enter Tryz.func53, Tryz.ntmps53
  go_wp2
  exact bodyPost_end (v := .tuple #[]) (by simp [results, Tryz.results53, go_sem]) rfl ⟨⟨_, rfl⟩, rfl⟩
theorem limit_bad (n c o : Int) (w : World) : Calls Tryz.prog 53 #[.int .i64 n, .int .i64 n, .int .i64 c, .int .i64 o] w fun e w' => e = PEnd c o ∧ w' = w := by
  have HG := hide (giveUp_any c o)
  go_enter Tryz.func53, Tryz.ntmps53
  go_wp2_with (go_at_call 71; refine (HG.out _).mono ?_; rintro e w' ⟨rfl, hw'⟩; have hw' := hw'.symm; subst hw')
  exact ⟨rfl, rfl, rfl⟩

theorem misplaced_any (k : Int) (w : World) : Calls Tryz.prog 72 #[.int .i64 k] w fun e w' => e = .returned (.int .i64 (misK k)) ∧ w' = w := by
  by_cases h : k = 0
  · subst h
    rw [show misK 0 = 21 from rfl]
    go_enter Tryz.func72, Tryz.ntmps72
    go_wp2
    go_ret
    exact ⟨rfl, rfl⟩
  · have he : (k == 0) = false := by simpa using h
    rw [show misK k = 20 from by unfold misK; rw [if_neg h]]
    clear h
    go_enter Tryz.func72, Tryz.ntmps72
    go_wp2
    go_ret
    exact ⟨rfl, rfl⟩

theorem termKind_any (k : Int) (w : World) : Calls Tryz.prog 98 #[.int .i64 k] w fun e w' => e = .returned (.int .i64 (kindT k)) ∧ w' = w := by
  by_cases h3 : k = 3
  · subst h3
    rw [show kindT 3 = 1 from rfl]
    go_enter Tryz.func98, Tryz.ntmps98
    go_wp2
    go_ret
    exact ⟨rfl, rfl⟩
  · have e3 : (k == 3) = false := by simpa using h3
    by_cases h1 : k = 1
    · subst h1
      rw [show kindT 1 = 2 from rfl]
      go_enter Tryz.func98, Tryz.ntmps98
      go_wp2
      go_ret
      exact ⟨rfl, rfl⟩
    · have e1 : (k == 1) = false := by simpa using h1
      by_cases h4 : k = 4
      · subst h4
        rw [show kindT 4 = 3 from rfl]
        go_enter Tryz.func98, Tryz.ntmps98
        go_wp2
        go_ret
        exact ⟨rfl, rfl⟩
      · have e4 : (k == 4) = false := by simpa using h4
        rw [show kindT k = 4 from by unfold kindT; rw [if_neg h3, if_neg h1, if_neg h4]]
        clear h1 h3 h4
        go_enter Tryz.func98, Tryz.ntmps98
        go_wp2
        go_ret
        exact ⟨rfl, rfl⟩

def tokV (t : Tok) : Value := .agg #[.int .i64 t.k, .string t.t, .int .i64 t.n, .int .i64 t.op, .int .i64 (t.off : Int), .int .i64 (t.en : Int)]

set_option maxHeartbeats 1000000 in
theorem look_ok {p : Nat} {ao : Option Addr} {cap : Nat} {L : List Tok} {c f : Int} {i : Nat} {w : World} {t : Tok} (h : Rdr w p ao cap L c f i) (ht : L[i]? = some t) :
    Calls Tryz.prog 69 #[.pointer (some ⟨p, 0, none⟩)] w fun e w' => e = .returned (tokV t) ∧ Below w.heap.size w w' := by
  have hi := (List.getElem?_eq_some_iff.1 ht).1
  obtain ⟨c0, c1, c2, c3, c4, -⟩ := h.cells
  obtain ⟨g, rfl, hgp, hr⟩ := h.toks (by omega)
  obtain ⟨x0, x1, x2, x3, x4, x5⟩ := hr i t ht
  have hsm := h.small
  have hp := h.lt
  have hg : g < w.heap.size := lt_of_cell x0
  have hne : ((i : Int) == (L.length : Int)) = false := by simp; omega
  have hlt : (i : Int) < (L.length : Int) := by omega
  clear h hr
  unfold tokV
  go_enter Tryz.func69, Tryz.ntmps69
  go_wp2
  go_region
  go_wp2
  go_region
  go_wp2
  exact bodyPost_ret (v := .agg #[.int .i64 t.k, .string t.t, .int .i64 t.n, .int .i64 t.op, .int .i64 (t.off : Int), .int .i64 (t.en : Int)]) (by simp [results, Tryz.results69, go_sem]) rfl ⟨rfl, (((Below.refl _ _).alloc (Nat.le_refl _) _).drew).drew⟩

set_option maxHeartbeats 1000000 in
theorem look_end {p : Nat} {ao : Option Addr} {cap : Nat} {L : List Tok} {c f : Int} {i : Nat} {w : World} (h : Rdr w p ao cap L c f i) (ht : i = L.length) :
    Calls Tryz.prog 69 #[.pointer (some ⟨p, 0, none⟩)] w fun e w' => e = PEnd c f ∧ Below w.heap.size w w' := by
  obtain ⟨c0, c1, c2, c3, c4, -⟩ := h.cells
  have hsm := h.small
  have hp := h.lt
  subst ht
  clear h
  go_enter Tryz.func69, Tryz.ntmps69
  go_wp2
  go_region
  go_wp2
  exact ⟨rfl, rfl, ((Below.refl _ _).alloc (Nat.le_refl _) _).drew⟩
end Go.Proofs.YtnpmdepbfobebaaGreatDoor
