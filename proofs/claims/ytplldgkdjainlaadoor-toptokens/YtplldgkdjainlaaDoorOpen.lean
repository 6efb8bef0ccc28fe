/- What an argument that can be read as data holds: a constant by value, a list of structs, a list of strings; each string and list within the form's own reach. -/
import Derived.Test.YtplldgkdjainlaaDoorOrder
import Derived.Test.YtplldgkdjainlaaDoorOver
import Derived.ProofKit
import Derived.OpenShut
import Derived.ShutString
import Derived.ChangeOld
import Derived.SizedLaws
import Derived.Deep.Slices
import Derived.Deep.Strs
import Derived.Lib.SmallJoins
namespace Go.Proofs.YtplldgkdjainlaaDoor
set_option linter.unusedSimpArgs false
set_option linter.unusedVariables false
open Go.RowKit Go.Deep Go.ChangeShapes Go.WideShapes Go.ChangeAt Go.Joins

/-- It fits Go's kinds. -/
def I64 (x : Int) : Prop := -9223372036854775808 ≤ x ∧ x ≤ 9223372036854775807
def Con.ok (c : Con) : Prop := I64 c.k ∧ I64 c.n ∧ c.s.size ≤ 140737488351232

/-- The constant c lies in three cells. -/
def conAt (w : World) (b off : Nat) (c : Con) : Prop :=
  w.cell? ⟨b, off, none⟩ = some (.int .i64 c.k) ∧ w.cell? ⟨b, off + 1, none⟩ = some (.int .i64 c.n) ∧ w.cell? ⟨b, off + 2, none⟩ = some (.string c.s)

/-- The constants cs lie in a row from offset off of block b on. -/
def conRow (w : World) (b off : Nat) (cs : List Con) : Prop := ∀ i c, cs[i]? = some c → conAt w b (off + i * 3) c

/-- A slice value (address ao, length len) leads to the constants cs. -/
def IsCons (w : World) (ao : Option Addr) (len : Nat) (cs : List Con) : Prop :=
  cs.length = len ∧ len * 32 ≤ 140737488355328 ∧ (∀ c ∈ cs, c.ok) ∧ (0 < len → ∃ b off, ao = some ⟨b, off, none⟩ ∧ conRow w b off cs)

/-- A slice value leads to the strings ss. -/
def IsStrs (w : World) (ao : Option Addr) (len : Nat) (ss : List ByteArray) : Prop :=
  ss.length = len ∧ len * 16 ≤ 140737488351232 ∧ (∀ s ∈ ss, s.size ≤ 140737488351232) ∧ (0 < len → ∃ b off, ao = some ⟨b, off, none⟩ ∧ ∀ i s, ss[i]? = some s → w.cell? ⟨b, off + i, none⟩ = some (.string s))

theorem addr_add {b off : Nat} (k : Nat) : (⟨b, off, none⟩ : Addr).add k = ⟨b, off + k, none⟩ := by
  unfold Addr.add
  split
  · rename_i h; simp [h]
  · rfl

/-- From one thing at each place to a list. -/
theorem list_of_each {α : Type} {R : Nat → α → Prop} : ∀ (n : Nat), (∀ i, i < n → ∃ c, R i c) → ∃ l : List α, l.length = n ∧ ∀ i c, l[i]? = some c → R i c
  | 0, _ => ⟨[], rfl, fun i c hc => by simp at hc⟩
  | n + 1, h => by
    obtain ⟨l, h1, h3⟩ := list_of_each (R := R) n (fun i hi => h i (by omega))
    obtain ⟨c, g⟩ := h n (by omega)
    refine ⟨l ++ [c], by simp [h1], ?_⟩
    intro i x hx
    rcases Nat.lt_or_ge i l.length with hi | hi
    · rw [List.getElem?_append_left hi] at hx; exact h3 i x hx
    · rw [List.getElem?_append_right hi] at hx
      have hi0 : i - l.length = 0 := by
        rcases Nat.eq_zero_or_pos (i - l.length) with h | h
        · exact h
        · rw [List.getElem?_eq_none (by simp; omega)] at hx; exact absurd hx (by simp)
      rw [hi0] at hx
      have hin : i = n := by omega
      simp only [List.getElem?_cons_zero, Option.some.injEq] at hx
      subst hx hin
      exact g

section
variable {H : Type} {enc : TypeId × Value → H} {P : Program} {w : World}

theorem weights_all {e : TypeId} : ∀ {l : List (DataW H)} {d : DataW H}, d ∈ l → ∀ n ∈ d.weights P e, n ∈ DataW.weightsAll P e l
  | x :: r, d, hd, n, hn => by
    simp only [DataW.weightsAll, List.mem_append]
    rcases List.mem_cons.1 hd with rfl | hd
    · exact .inl hn
    · exact .inr (weights_all hd n hn)

/-- A list of whatever structs: nil or empty; or a row, each element with its cells and its own reading, within the reach. -/
theorem open_rows {t e : TypeId} {ao : Option Addr} {len cap size : Nat} {d : DataW H} {ps : List MemPlace} {ts : List TypeId} {ds : List (DataW H)} {j : Nat}
    (ht : P.underlying t = some (.slice e)) (ce : P.cellsOf e = size) (hsize : 0 < size)
    (h : DataW.Trod enc P w 0 (fun _ => true) true t (.slice ao len cap) d ps)
    (hsz : (DataW.weightsEach P ts ds).all (· ≤ reachBytes) = true) (hts : ts[j]? = some t) (hds : ds[j]? = some d) :
    len * P.bytesOf e ≤ 140737488351232 ∧ (0 < len → ∃ b off, ao = some ⟨b, off, none⟩ ∧ ∀ i, i < len → ∃ cs fuel y, w.cells? 0 ⟨b, off + i * size, none⟩ size = some cs ∧ DataW.trod enc P w 0 (fun _ => true) true fuel e cs = some y ∧ ∀ n ∈ y.1.weights P e, n ≤ 140737488351232) := by
  obtain ⟨fuel, hf⟩ := h
  rcases open_slice ht hf with ⟨h1, _⟩ | ⟨a, len', cap', m, n, D, Pl, h1, hb, hl, hm, hmm, hx, hel⟩
  · simp [Value.cells] at h1
    obtain ⟨rfl, rfl, rfl⟩ := h1
    exact ⟨by omega, fun h => absurd h (by omega)⟩
  · simp [Value.cells] at h1
    obtain ⟨rfl, rfl, rfl⟩ := h1
    simp only [if_true] at hmm
    subst hmm
    simp only [Prod.mk.injEq] at hx
    have hreach := sized_slice hsz hts (by rw [hds, hx.1]) ht
    simp only [List.length_map, List.length_range, reachBytes] at hreach
    have hlr : len * P.bytesOf e ≤ 140737488351232 := Nat.le_trans (Nat.mul_le_mul_right _ (by omega)) hreach
    obtain ⟨b, off, spot⟩ := a
    refine ⟨hlr, fun hlen => ?_⟩
    have hspot : spot = none := by
      obtain ⟨cs', g1, _⟩ := hel 0 (by omega)
      rw [ce] at g1
      obtain ⟨_, hl3, g2⟩ := World.cells?_some g1
      have g3 := g2 0 hsize
      have g4 : w.cell? ⟨b, off, spot⟩ = some (cs'[0]'(by omega)) := by
        simp only [Nat.zero_mul, Addr.add, if_true] at g3
        rw [g3]; exact List.getElem?_eq_getElem _
      exact World.cell?_spot g4
    subst hspot
    refine ⟨b, off, rfl, fun i hi => ?_⟩
    obtain ⟨cs', g1, g2⟩ := hel i (by omega)
    rw [addr_add, ce] at g1
    refine ⟨cs', n, (D i, Pl i), g1, g2, fun k hk => ?_⟩
    have hmem : k ∈ d.weights P t := by
      rw [hx.1]
      simp only [DataW.weights, ht, List.mem_cons, List.mem_append]
      exact .inr (.inl (weights_all (List.mem_map.2 ⟨i, List.mem_range.2 hi, rfl⟩) k hk))
    have := List.all_eq_true.1 hsz k (DataW.weights_mem_each hts hds k hmem)
    exact of_decide_eq_true this

theorem con_of_cells {e : TypeId} {f0 f1 f2 : Field} {fuel : Nat} {b off : Nat} {cs : List Value} {y : DataW H × List MemPlace}
    (he : P.underlying e = some (.struct #[f0, f1, f2])) (o0 : f0.offset = 0) (o1 : f1.offset = 1) (o2 : f2.offset = 2)
    (u0 : P.underlying f0.type = some (.int .i64)) (u1 : P.underlying f1.type = some (.int .i64)) (u2 : P.underlying f2.type = some .string)
    (c0 : P.cellsOf f0.type = 1) (c1 : P.cellsOf f1.type = 1) (c2 : P.cellsOf f2.type = 1)
    (hc : w.cells? 0 ⟨b, off, none⟩ 3 = some cs) (hd : DataW.trod enc P w 0 (fun _ => true) true fuel e cs = some y) (hw : ∀ n ∈ y.1.weights P e, n ≤ 140737488351232) :
    ∃ c : Con, c.ok ∧ conAt w b off c := by
  obtain ⟨_, hlen, hcell⟩ := World.cells?_some hc
  obtain ⟨y0, y1, y2, n, hy, _, t0, t1, t2⟩ := trod_struct3 he hd
  match cs, hlen with
  | [v0, v1, v2], _ =>
    rw [o0, c0] at t0
    rw [o1, c1] at t1
    rw [o2, c2] at t2
    simp only [List.drop_zero, List.drop_succ_cons, List.take_succ_cons, List.take_zero] at t0 t1 t2
    obtain ⟨a0, e0, x0, w0⟩ := DataW.trod_int u0 t0
    obtain ⟨a1, e1, x1, w1⟩ := DataW.trod_int u1 t1
    obtain ⟨s, e2, x2, hs⟩ := DataW.trod_string u2 t2
    simp only [List.cons.injEq, and_true] at e0 e1 e2
    subst e0 e1 e2 x0 x1 x2
    have g0 := hcell 0 (by omega)
    have g1 := hcell 1 (by omega)
    have g2 := hcell 2 (by omega)
    rw [addr_add] at g0 g1 g2
    have hs2 : s.size ≤ 140737488351232 := by
      refine hw s.size ?_
      rw [hy]
      simp [DataW.weights, DataW.weightsEach, he]
    exact ⟨⟨a0, a1, s⟩, ⟨bounds_i64 w0, bounds_i64 w1, hs2⟩, by simpa using g0, by simpa using g1, by simpa using g2⟩

theorem open_cons {t e : TypeId} {f0 f1 f2 : Field} {ao : Option Addr} {len cap : Nat} {d : DataW H} {ps : List MemPlace} {ts : List TypeId} {ds : List (DataW H)} {j : Nat}
    (ht : P.underlying t = some (.slice e)) (he : P.underlying e = some (.struct #[f0, f1, f2])) (ce : P.cellsOf e = 3) (be : P.bytesOf e = 32) (o0 : f0.offset = 0) (o1 : f1.offset = 1) (o2 : f2.offset = 2)
    (u0 : P.underlying f0.type = some (.int .i64)) (u1 : P.underlying f1.type = some (.int .i64)) (u2 : P.underlying f2.type = some .string)
    (c0 : P.cellsOf f0.type = 1) (c1 : P.cellsOf f1.type = 1) (c2 : P.cellsOf f2.type = 1)
    (h : DataW.Trod enc P w 0 (fun _ => true) true t (.slice ao len cap) d ps)
    (hsz : (DataW.weightsEach P ts ds).all (· ≤ reachBytes) = true) (hts : ts[j]? = some t) (hds : ds[j]? = some d) :
    ∃ cs, IsCons w ao len cs := by
  obtain ⟨hr, hrow⟩ := open_rows ht ce (by omega) h hsz hts hds
  rw [be] at hr
  by_cases hlen : 0 < len
  · obtain ⟨b, off, rfl, hel⟩ := hrow hlen
    obtain ⟨l, h1, h2⟩ := list_of_each (R := fun i (c : Con) => c.ok ∧ conAt w b (off + i * 3) c) len (fun i hi => by
      obtain ⟨cs, fuel, y, g1, g2, g3⟩ := hel i hi
      exact con_of_cells he o0 o1 o2 u0 u1 u2 c0 c1 c2 g1 g2 g3)
    refine ⟨l, h1, by omega, fun c hc => ?_, fun _ => ⟨b, off, rfl, fun i c hc => (h2 i c hc).2⟩⟩
    obtain ⟨i, hi⟩ := List.mem_iff_getElem?.1 hc
    exact (h2 i c hi).1
  · obtain rfl : len = 0 := by omega
    exact ⟨[], rfl, by omega, by simp, fun h => absurd h (by omega)⟩

/-- A slice that was read: no longer than its room; nil is empty. -/
theorem open_cap {t e : TypeId} {ao : Option Addr} {len cap : Nat} {d : DataW H} {ps : List MemPlace} (ht : P.underlying t = some (.slice e))
    (h : DataW.Trod enc P w 0 (fun _ => true) true t (.slice ao len cap) d ps) : len ≤ cap ∧ (ao = none → len = 0 ∧ cap = 0) := by
  obtain ⟨fuel, hf⟩ := h
  rcases open_slice ht hf with ⟨h1, _⟩ | ⟨a, len', cap', m, n, D, Pl, h1, hb, hl, hm, hmm, hx, hel⟩
  · simp [Value.cells] at h1
    obtain ⟨rfl, rfl, rfl⟩ := h1
    exact ⟨Nat.le_refl _, fun _ => ⟨rfl, rfl⟩⟩
  · simp [Value.cells] at h1
    obtain ⟨rfl, rfl, rfl⟩ := h1
    exact ⟨hl, fun h => by cases h⟩

theorem open_strings2 {t e : TypeId} {ao : Option Addr} {len cap : Nat} {d : DataW H} {ps : List MemPlace} {ts : List TypeId} {ds : List (DataW H)} {j : Nat}
    (ht : P.underlying t = some (.slice e)) (he : P.underlying e = some .string) (ce : P.cellsOf e = 1) (be : P.bytesOf e = 16)
    (h : DataW.Trod enc P w 0 (fun _ => true) true t (.slice ao len cap) d ps)
    (hsz : (DataW.weightsEach P ts ds).all (· ≤ reachBytes) = true) (hts : ts[j]? = some t) (hds : ds[j]? = some d) :
    ∃ ss, IsStrs w ao len ss := by
  obtain ⟨hr, hrow⟩ := open_rows ht ce (by omega) h hsz hts hds
  rw [be] at hr
  by_cases hlen : 0 < len
  · obtain ⟨b, off, rfl, hel⟩ := hrow hlen
    obtain ⟨l, h1, h2⟩ := list_of_each (R := fun i (s : ByteArray) => s.size ≤ 140737488351232 ∧ w.cell? ⟨b, off + i, none⟩ = some (.string s)) len (fun i hi => by
      obtain ⟨cs', fuel, y, g1, g2, g5⟩ := hel i hi
      rw [Nat.mul_one] at g1
      obtain ⟨_, hl3, g3⟩ := World.cells?_some g1
      obtain ⟨s, e0, hy, hs⟩ := DataW.trod_string he g2
      subst e0 hy
      have g4 := g3 0 (by omega)
      rw [addr_add] at g4
      exact ⟨s, g5 s.size (by simp [DataW.weights]), by simpa using g4⟩)
    refine ⟨l, h1, hr, fun c hc => ?_, fun _ => ⟨b, off, rfl, fun i c hc => (h2 i c hc).2⟩⟩
    obtain ⟨i, hi⟩ := List.mem_iff_getElem?.1 hc
    exact (h2 i c hi).1
  · obtain rfl : len = 0 := by omega
    exact ⟨[], rfl, hr, by simp, fun h => absurd h (by omega)⟩

theorem open_con {r : Reach} {b0 : Nat} {t : TypeId} {f0 f1 f2 : Field} {v : Value} {d : DataW H} {ps : List MemPlace} {ts : List TypeId} {ds : List (DataW H)}
    (he : P.underlying t = some (.struct #[f0, f1, f2])) (hone : oneCellFields P #[f0, f1, f2] = true) (ce : P.cellsOf t = 3)
    (u0 : P.underlying f0.type = some (.int .i64)) (u1 : P.underlying f1.type = some (.int .i64)) (u2 : P.underlying f2.type = some .string)
    (hv : Value.okWide P w r b0 t v) (h : DataW.Trod enc P w 0 (fun _ => true) true t v d ps)
    (hsz : (DataW.weightsEach P ts ds).all (· ≤ reachBytes) = true) {j : Nat} (hts : ts[j]? = some t) (hds : ds[j]? = some d) :
    ∃ c : Con, v = c.val ∧ c.ok := by
  obtain ⟨v0, v1, v2, y0, y1, y2, n, hv', hd, _, t0, t1, t2⟩ := open_agg3 he hone ce hv h
  obtain ⟨a0, e0, x0, w0⟩ := DataW.trod_int u0 t0
  obtain ⟨a1, e1, x1, w1⟩ := DataW.trod_int u1 t1
  obtain ⟨s, e2, x2, hs⟩ := DataW.trod_string u2 t2
  simp only [List.cons.injEq, and_true] at e0 e1 e2
  subst e0 e1 e2 x0 x1 x2
  refine ⟨⟨a0, a1, s⟩, hv', bounds_i64 w0, bounds_i64 w1, ?_⟩
  have hmem : s.size ∈ d.weights P t := by
    rw [hd]
    simp [DataW.weights, DataW.weightsEach, he]
  have := List.all_eq_true.1 hsz _ (DataW.weights_mem_each hts hds _ hmem)
  exact of_decide_eq_true this
end
end Go.Proofs.YtplldgkdjainlaaDoor
