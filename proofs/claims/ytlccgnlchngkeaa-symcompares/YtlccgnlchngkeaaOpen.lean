/- What an argument that can be read as data holds: a constant by value, a list of constants, a list of strings. -/
import Derived.Test.YtlccgnlchngkeaaOrder
import Derived.Test.YtlccgnlchngkeaaOver
import Derived.ProofKit
import Derived.OpenShut
import Derived.ShutString
import Derived.ChangeOld
import Derived.SizedLaws
import Derived.Deep.Slices
import Derived.Deep.Strs
namespace Go.Proofs.Ytlccgnlchngkeaa
set_option linter.unusedSimpArgs false
set_option linter.unusedVariables false
open Go.RowKit Go.Deep Go.ChangeShapes Go.WideShapes Go.ChangeAt

/-- It fits Go's kinds. -/
def Con.ok (c : Con) : Prop := (-9223372036854775808 ≤ c.k ∧ c.k ≤ 9223372036854775807) ∧ (-9223372036854775808 ≤ c.n ∧ c.n ≤ 9223372036854775807) ∧ c.s.size ≤ maxLen

/-- The constants cs lie in a row from offset off of block b on. -/
def conRow (w : World) (b off : Nat) (cs : List Con) : Prop :=
  ∀ i c, cs[i]? = some c → w.cell? ⟨b, off + i * 3, none⟩ = some (.int .i64 c.k) ∧ w.cell? ⟨b, off + i * 3 + 1, none⟩ = some (.int .i64 c.n) ∧ w.cell? ⟨b, off + i * 3 + 2, none⟩ = some (.string c.s)

/-- A slice value (address ao, length len) leads to the constants cs. -/
def IsCons (w : World) (ao : Option Addr) (len : Nat) (cs : List Con) : Prop :=
  cs.length = len ∧ len * 32 ≤ 140737488351232 ∧ (∀ c ∈ cs, c.ok) ∧ (0 < len → ∃ b off, ao = some ⟨b, off, none⟩ ∧ conRow w b off cs)

/-- A slice value leads to the strings ss. -/
def IsStrs (w : World) (ao : Option Addr) (len : Nat) (ss : List ByteArray) : Prop :=
  ss.length = len ∧ len * 16 ≤ 140737488351232 ∧ (∀ s ∈ ss, s.size ≤ maxLen) ∧ (0 < len → ∃ b off, ao = some ⟨b, off, none⟩ ∧ ∀ i s, ss[i]? = some s → w.cell? ⟨b, off + i, none⟩ = some (.string s))

section
variable {H : Type} {enc : TypeId × Value → H} {P : Program} {w : World}

theorem addr_add {b off : Nat} (k : Nat) : (⟨b, off, none⟩ : Addr).add k = ⟨b, off + k, none⟩ := by
  unfold Addr.add
  split
  · rename_i h; simp [h]
  · rfl

theorem con_of_cells {e : TypeId} {f0 f1 f2 : Field} {base fuel : Nat} {spare : Nat → Bool} {held : Bool} {b off : Nat} {cs : List Value} {y : DataW H × List MemPlace}
    (he : P.underlying e = some (.struct #[f0, f1, f2])) (ce : P.cellsOf e = 3) (o0 : f0.offset = 0) (o1 : f1.offset = 1) (o2 : f2.offset = 2)
    (u0 : P.underlying f0.type = some (.int .i64)) (u1 : P.underlying f1.type = some (.int .i64)) (u2 : P.underlying f2.type = some .string)
    (c0 : P.cellsOf f0.type = 1) (c1 : P.cellsOf f1.type = 1) (c2 : P.cellsOf f2.type = 1)
    (hc : w.cells? base ⟨b, off, none⟩ (P.cellsOf e) = some cs) (hd : DataW.trod enc P w base spare held fuel e cs = some y) :
    ∃ c : Con, c.ok ∧ w.cell? ⟨b, off, none⟩ = some (.int .i64 c.k) ∧ w.cell? ⟨b, off + 1, none⟩ = some (.int .i64 c.n) ∧ w.cell? ⟨b, off + 2, none⟩ = some (.string c.s) := by
  rw [ce] at hc
  obtain ⟨_, hlen, hcell⟩ := World.cells?_some hc
  obtain ⟨y0, y1, y2, n, _, _, t0, t1, t2⟩ := trod_struct3 he hd
  match cs, hlen with
  | [v0, v1, v2], _ =>
    rw [o0, c0] at t0
    rw [o1, c1] at t1
    rw [o2, c2] at t2
    simp only [List.drop_zero, List.drop_succ_cons, List.take_succ_cons, List.take_zero] at t0 t1 t2
    obtain ⟨a0, e0, _, w0⟩ := DataW.trod_int u0 t0
    obtain ⟨a1, e1, _, w1⟩ := DataW.trod_int u1 t1
    obtain ⟨s, e2, _, hs⟩ := DataW.trod_string u2 t2
    simp only [List.cons.injEq, and_true] at e0 e1 e2
    subst e0 e1 e2
    have g0 := hcell 0 (by omega)
    have g1 := hcell 1 (by omega)
    have g2 := hcell 2 (by omega)
    rw [addr_add] at g0 g1 g2
    exact ⟨⟨a0, a1, s⟩, ⟨bounds_i64 w0, bounds_i64 w1, hs⟩, by simpa using g0, by simpa using g1, by simpa using g2⟩

theorem open_cons {t e : TypeId} {f0 f1 f2 : Field} {ao : Option Addr} {len cap : Nat} {d : DataW H} {ps : List MemPlace} {ts : List TypeId} {ds : List (DataW H)} {j : Nat}
    (ht : P.underlying t = some (.slice e)) (he : P.underlying e = some (.struct #[f0, f1, f2])) (ce : P.cellsOf e = 3) (be : P.bytesOf e = 32) (o0 : f0.offset = 0) (o1 : f1.offset = 1) (o2 : f2.offset = 2)
    (u0 : P.underlying f0.type = some (.int .i64)) (u1 : P.underlying f1.type = some (.int .i64)) (u2 : P.underlying f2.type = some .string)
    (c0 : P.cellsOf f0.type = 1) (c1 : P.cellsOf f1.type = 1) (c2 : P.cellsOf f2.type = 1)
    (h : DataW.Trod enc P w 0 (fun _ => true) true t (.slice ao len cap) d ps)
    (hsz : (DataW.weightsEach P ts ds).all (· ≤ reachBytes) = true) (hts : ts[j]? = some t) (hds : ds[j]? = some d) :
    ∃ cs, IsCons w ao len cs := by
  obtain ⟨fuel, hf⟩ := h
  rcases open_slice ht hf with ⟨h1, _⟩ | ⟨a, len', cap', m, n, D, Pl, h1, hb, hl, hm, hmm, hx, hel⟩
  · simp [Value.cells] at h1
    obtain ⟨rfl, rfl, rfl⟩ := h1
    exact ⟨[], rfl, by omega, by simp, fun h => absurd h (by omega)⟩
  · simp [Value.cells] at h1
    obtain ⟨rfl, rfl, rfl⟩ := h1
    simp only [if_true] at hmm
    subst hmm
    simp only [Prod.mk.injEq] at hx
    have hreach := sized_slice hsz hts (by rw [hds, hx.1]) ht
    rw [be] at hreach
    simp only [List.length_map, List.length_range, reachBytes] at hreach
    obtain ⟨b, off, spot⟩ := a
    by_cases hlen : len = 0
    · subst hlen
      exact ⟨[], rfl, by omega, by simp, fun h => absurd h (by omega)⟩
    · have hspot : spot = none := by
        obtain ⟨cs', g1, _⟩ := hel 0 (by omega)
        rw [ce] at g1
        obtain ⟨_, hl3, g2⟩ := World.cells?_some g1
        have g3 := g2 0 (by omega)
        match cs', hl3 with
        | [v0, v1, v2], _ => exact World.cell?_spot (a := ⟨b, off, spot⟩) (v := v0) (by simpa [Addr.add] using g3)
      subst hspot
      have each : ∀ i, i < len → ∃ c : Con, c.ok ∧ w.cell? ⟨b, off + i * 3, none⟩ = some (.int .i64 c.k) ∧ w.cell? ⟨b, off + i * 3 + 1, none⟩ = some (.int .i64 c.n) ∧ w.cell? ⟨b, off + i * 3 + 2, none⟩ = some (.string c.s) := by
        intro i hi
        obtain ⟨cs', g1, g2⟩ := hel i (by omega)
        rw [addr_add] at g1
        have hr := con_of_cells he ce o0 o1 o2 u0 u1 u2 c0 c1 c2 g1 g2
        rw [ce] at hr
        exact hr
      have each2 : ∀ n, n ≤ len → ∃ l : List Con, l.length = n ∧ (∀ c ∈ l, c.ok) ∧ conRow w b off l := by
        intro n hn
        induction n with
        | zero => exact ⟨[], rfl, by simp, fun i c hc => by simp at hc⟩
        | succ n ih =>
          obtain ⟨l, h1, h2, h3⟩ := ih (by omega)
          obtain ⟨c, g0, g1, g2, g3⟩ := each n (by omega)
          refine ⟨l ++ [c], by simp [h1], ?_, ?_⟩
          · intro x hx
            rcases List.mem_append.1 hx with hx | hx
            · exact h2 x hx
            · rw [List.mem_singleton.1 hx]; exact g0
          · intro i x hx
            rcases Nat.lt_or_ge i l.length with hi | hi
            · rw [List.getElem?_append_left hi] at hx; exact h3 i x hx
            · rw [List.getElem?_append_right hi] at hx
              have hi0 : i - l.length = 0 := by
                rcases Nat.eq_zero_or_pos (i - l.length) with h | h
                · exact h
                · rw [List.getElem?_eq_none (by simp; omega)] at hx; exact absurd hx (by simp)
              rw [hi0] at hx
              have hin : i = n := by omega
              simp only [List.getElem?_cons_zero, Option.some.injEq] at hx
              subst hx hin
              exact ⟨g1, g2, g3⟩
      obtain ⟨l, h1, h2, h3⟩ := each2 len (Nat.le_refl _)
      exact ⟨l, h1, by omega, h2, fun _ => ⟨b, off, rfl, h3⟩⟩

theorem open_strings2 {t e : TypeId} {ao : Option Addr} {len cap : Nat} {d : DataW H} {ps : List MemPlace} {ts : List TypeId} {ds : List (DataW H)} {j : Nat}
    (ht : P.underlying t = some (.slice e)) (he : P.underlying e = some .string) (ce : P.cellsOf e = 1) (be : P.bytesOf e = 16)
    (h : DataW.Trod enc P w 0 (fun _ => true) true t (.slice ao len cap) d ps)
    (hsz : (DataW.weightsEach P ts ds).all (· ≤ reachBytes) = true) (hts : ts[j]? = some t) (hds : ds[j]? = some d) :
    ∃ ss, IsStrs w ao len ss := by
  obtain ⟨fuel, hf⟩ := h
  rcases open_slice ht hf with ⟨h1, _⟩ | ⟨a, len', cap', m, n, D, Pl, h1, hb, hl, hm, hmm, hx, hel⟩
  · simp [Value.cells] at h1
    obtain ⟨rfl, rfl, rfl⟩ := h1
    exact ⟨[], rfl, by omega, by simp, fun h => absurd h (by omega)⟩
  · simp [Value.cells] at h1
    obtain ⟨rfl, rfl, rfl⟩ := h1
    simp only [if_true] at hmm
    subst hmm
    simp only [Prod.mk.injEq] at hx
    have hreach := sized_slice hsz hts (by rw [hds, hx.1]) ht
    rw [be] at hreach
    simp only [List.length_map, List.length_range, reachBytes] at hreach
    obtain ⟨b, off, spot⟩ := a
    by_cases hlen : len = 0
    · subst hlen
      exact ⟨[], rfl, by omega, by simp, fun h => absurd h (by omega)⟩
    · have hspot : spot = none := by
        obtain ⟨cs', g1, _⟩ := hel 0 (by omega)
        rw [ce] at g1
        obtain ⟨_, hl3, g2⟩ := World.cells?_some g1
        have g3 := g2 0 (by omega)
        match cs', hl3 with
        | [v0], _ => exact World.cell?_spot (a := ⟨b, off, spot⟩) (v := v0) (by simpa [Addr.add] using g3)
      subst hspot
      have each : ∀ i, i < len → ∃ s : ByteArray, s.size ≤ maxLen ∧ w.cell? ⟨b, off + i, none⟩ = some (.string s) := by
        intro i hi
        obtain ⟨cs', g1, g2⟩ := hel i (by omega)
        rw [addr_add, ce, Nat.mul_one] at g1
        obtain ⟨_, hl3, g3⟩ := World.cells?_some g1
        obtain ⟨s, e0, _, hs⟩ := DataW.trod_string he g2
        subst e0
        have g4 := g3 0 (by omega)
        rw [addr_add] at g4
        exact ⟨s, hs, by simpa using g4⟩
      have each2 : ∀ n, n ≤ len → ∃ l : List ByteArray, l.length = n ∧ (∀ c ∈ l, c.size ≤ maxLen) ∧ ∀ i s, l[i]? = some s → w.cell? ⟨b, off + i, none⟩ = some (.string s) := by
        intro n hn
        induction n with
        | zero => exact ⟨[], rfl, by simp, fun i c hc => by simp at hc⟩
        | succ n ih =>
          obtain ⟨l, h1, h2, h3⟩ := ih (by omega)
          obtain ⟨c, g0, g1⟩ := each n (by omega)
          refine ⟨l ++ [c], by simp [h1], ?_, ?_⟩
          · intro x hx
            rcases List.mem_append.1 hx with hx | hx
            · exact h2 x hx
            · rw [List.mem_singleton.1 hx]; exact g0
          · intro i x hx
            rcases Nat.lt_or_ge i l.length with hi | hi
            · rw [List.getElem?_append_left hi] at hx; exact h3 i x hx
            · rw [List.getElem?_append_right hi] at hx
              have hi0 : i - l.length = 0 := by
                rcases Nat.eq_zero_or_pos (i - l.length) with h | h
                · exact h
                · rw [List.getElem?_eq_none (by simp; omega)] at hx; exact absurd hx (by simp)
              rw [hi0] at hx
              have hin : i = n := by omega
              simp only [List.getElem?_cons_zero, Option.some.injEq] at hx
              subst hx hin
              exact g1
      obtain ⟨l, h1, h2, h3⟩ := each2 len (Nat.le_refl _)
      exact ⟨l, h1, by omega, h2, fun _ => ⟨b, off, rfl, h3⟩⟩
end
end Go.Proofs.Ytlccgnlchngkeaa
