/- Rows that a law keeps in lists of its own; edictlaw05.ints, equalInts. -/
import Derived.Test.YtcofoddjcgmmkaaProg
import Derived.Test.YtcofoddjcgmmkaaStoreAdd
import Derived.Test.YtcofoddjcgmmkaaAppendAny
namespace Go.Proofs.Ytcofoddjcgmmkaa
set_option linter.unusedSimpArgs false
set_option linter.unusedVariables false
open Go.RowKit Go.Maps

/-- A row as it lies in two cells. -/
structure RV where
  q : Int
  a : Option Addr
  cap : Nat
  l : List Int
def RV.rw (g : RV) : Rw := (g.q, g.l)
def RV.cells (g : RV) : List Value := [.int .i64 g.q, .slice g.a g.l.length g.cap]
theorem RV.cells_len (g : RV) : g.cells.length = 2 := rfl

theorem flat2 : ∀ (ks : List RV) (i j : Nat) (k : RV), ks[i]? = some k → j < 2 → (ks.flatMap RV.cells)[i * 2 + j]? = k.cells[j]?
  | [], i, j, k, h, _ => by simp at h
  | a :: r, 0, j, k, h, hj => by
    simp only [List.getElem?_cons_zero, Option.some.injEq] at h
    subst h
    rw [List.flatMap_cons, Nat.zero_mul, Nat.zero_add, List.getElem?_append_left (by show j < 2; exact hj)]
  | a :: r, i + 1, j, k, h, hj => by
    rw [List.getElem?_cons_succ] at h
    have hl : a.cells.length = 2 := rfl
    rw [List.flatMap_cons, List.getElem?_append_right (by rw [hl]; omega), hl, ← flat2 r i j k h hj]
    congr 1
    omega
theorem flat2_len (G : List RV) : (G.flatMap RV.cells).length = G.length * 2 := by
  induction G with
  | nil => rfl
  | cons a r ih => rw [List.flatMap_cons, List.length_append, ih, List.length_cons]; show 2 + _ = _; omega
theorem flat2_one (G : List RV) : ∀ u ∈ G.flatMap RV.cells, u.oneCell' = true := by
  intro u hu
  obtain ⟨c, _, hc⟩ := List.mem_flatMap.1 hu
  simp only [RV.cells, List.mem_cons, List.not_mem_nil, or_false] at hc
  rcases hc with rfl | rfl <;> rfl

/-- Its args lie in memory that is there, that bears no tag, and that is not block t. -/
def RV.ok (g : RV) (w : World) (own : Own) (t : Option Nat) : Prop :=
  I64 g.q ∧ IsInts w g.a g.l.length g.l ∧ (0 < g.l.length → ∀ a, g.a = some a → own a.block = none ∧ t ≠ some a.block)

/-- A list of rows that the law made: in a block of its own at base or behind, which bears no tag. -/
def MyRows (w : World) (own : Own) (base : Nat) (v : Value) (R : List Rw) : Prop :=
  ∃ G : List RV, G.map RV.rw = R ∧ w.ownsRow base 31 2 v R.length (G.flatMap RV.cells) ∧ (∀ g ∈ G, g.ok w own v.ownBlock) ∧ ∀ k, v.ownBlock = some k → own k = none

theorem RV.ok.turn {A : Tag → Prop} {own own' : Own} {w w' : World} {g : RV} {t : Option Nat} (h : g.ok w own t) (hT : Turn A own own' w w') : g.ok w' own' t := by
  obtain ⟨h1, h2, h3⟩ := h
  have hf : FreeInts w own g.a g.l.length g.l := ⟨h2, fun hp a ha => (h3 hp a ha).1⟩
  have hf' := hf.turn hT
  exact ⟨h1, hf'.1, fun hp a ha => ⟨hf'.2 hp a ha, (h3 hp a ha).2⟩⟩

theorem MyRows.turn {A : Tag → Prop} {own own' : Own} {w w' : World} {base : Nat} {v : Value} {R : List Rw} (h : MyRows w own base v R) (hT : Turn A own own' w w') : MyRows w' own' base v R := by
  obtain ⟨G, h1, h2, h3, h4⟩ := h
  rcases h2.2 with ⟨hv, hn⟩ | ⟨b, cap, cur, hv, hb, hh, rest⟩
  · refine ⟨G, h1, ⟨h2.1, .inl ⟨hv, hn⟩⟩, fun g hg => (h3 g hg).turn hT, fun k hk => ?_⟩
    rw [hv] at hk
    cases hk
  · have hlt := lt_of_block hh
    have hob : own b = none := h4 b (by rw [hv]; rfl)
    refine ⟨G, h1, ⟨h2.1, .inr ⟨b, cap, cur, hv, hb, ?_, rest⟩⟩, fun g hg => (h3 g hg).turn hT, fun k hk => ?_⟩
    · rw [hT.block hlt (fun t ht => by rw [hob] at ht; cases ht)]; exact hh
    · rw [hv] at hk
      simp only [Value.ownBlock, Option.some.injEq] at hk
      subst hk
      rw [hT.ext _ hlt]; exact hob
theorem MyRows.below {own : Own} {w w' : World} {base : Nat} {v : Value} {R : List Rw} (h : MyRows w own base v R) (hb : Below w.heap.size w w') : MyRows w' own base v R := h.turn (A := fun _ => False) (Turn.below hb)
theorem MyRows.mono {own : Own} {w : World} {b b' : Nat} {v : Value} {R : List Rw} (h : MyRows w own b v R) (hb : b' ≤ b) : MyRows w own b' v R := by
  obtain ⟨G, h1, h2, h3⟩ := h
  exact ⟨G, h1, own_mono6 hb h2, h3⟩
theorem MyRows.nil (w : World) (own : Own) (base : Nat) : MyRows w own base (.slice none 0 0) [] := ⟨[], rfl, World.ownsRow_nil _ _ _ _, by simp, fun k hk => by cases hk⟩

theorem MyRows.shape {own : Own} {w : World} {base : Nat} {v : Value} {R : List Rw} (h : MyRows w own base v R) : ∃ ao cap, v = .slice ao R.length cap ∧ (ao = none → R.length = 0 ∧ cap = 0) := by
  obtain ⟨G, h1, h2, h3, h4⟩ := h
  obtain ⟨ao, cap, e, _, hn, _⟩ := own_shape6 h2
  exact ⟨ao, cap, e, hn⟩

theorem MyRows.free {own : Own} {w : World} {base : Nat} {ao : Option Addr} {n cap : Nat} {R : List Rw} (h : MyRows w own base (.slice ao n cap) R) (hR : R.length < 1099511627776) : FreeRows w own ao n R := by
  obtain ⟨G, h1, h2, h3, h4⟩ := h
  obtain ⟨ao', cap', e, _, hn, hg⟩ := own_shape6 h2
  cases e
  refine ⟨rfl, hR, fun r hr => ?_, fun hp => ?_⟩
  · rw [← h1] at hr
    obtain ⟨g, hg, rfl⟩ := List.mem_map.1 hr
    exact (h3 g hg).1
  · cases ao with
    | none => exact absurd (hn rfl).1 (by omega)
    | some ad =>
      obtain ⟨b, rfl, _⟩ := hg ad rfl
      refine ⟨b, 0, rfl, h4 b rfl, fun i r hr => ?_⟩
      rw [← h1, List.getElem?_map] at hr
      cases hgi : G[i]? with
      | none => rw [hgi] at hr; simp at hr
      | some g =>
        rw [hgi] at hr
        simp only [Option.map_some, Option.some.injEq] at hr
        subst hr
        obtain ⟨k1, k2, k3⟩ := h3 g (List.mem_of_getElem? hgi)
        rw [Nat.zero_add]
        refine ⟨own_at h2 (by have := flat2 G i 0 g hgi (by omega); rw [Nat.add_zero] at this; rw [this]; rfl), g.a, g.cap, own_at h2 (by rw [flat2 G i 1 g hgi (by omega)]; rfl), k2, fun hp a ha => (k3 hp a ha).1⟩

theorem Try.infoRow5 : (Try.prog.info? 31).map (fun i => (i.zero, i.size, i.bytes)) = some (some (.agg #[.int .i64 0, .slice none 0 0]), 2, 32) := by kernel_rfl
theorem Try.infoInt5 : (Try.prog.info? 3).map (fun i => (i.zero, i.size, i.bytes)) = some (some (.int .i64 0), 1, 8) := by kernel_rfl

/-- One row more behind a list of the law's own, as append leaves it. -/
theorem MyRows.push {own : Own} {w w' : World} {base H n : Nat} {v : Value} {R : List Rw} {G : List RV} (h1 : G.map RV.rw = R) (h3 : ∀ g ∈ G, g.ok w own v.ownBlock) (h4 : ∀ k, v.ownBlock = some k → own k = none) {g : RV} (hg : g.ok w own v.ownBlock) (hH : w.heap.size = H) (hlim : ∀ k, H ≤ k → own k = none)
    {b cap : Nat} (hn : R.length = n) (ho : w'.ownsRow base 31 2 (.slice (some ⟨b, 0, none⟩) (n + 1) cap) (n + 1) (G.flatMap RV.cells ++ g.cells)) (hgr : w.grownBy w' v.ownBlock) (hat : v.ownBlock = some b ∨ b = H) : MyRows w' own base (.slice (some ⟨b, 0, none⟩) (n + 1) cap) (R ++ [g.rw]) := by
  subst hn
  have keep : ∀ g : RV, g.ok w own v.ownBlock → g.ok w' own (some b) := fun g ⟨k1, k2, k3⟩ => by
    have hcell : ∀ a : Addr, g.a = some a → 0 < g.l.length → a.block < w.heap.size := fun a ha hp => by
      obtain ⟨b', off, e, hc⟩ := k2.2.2.2 hp
      rw [ha] at e
      cases e
      obtain ⟨x, hx⟩ : ∃ x, g.l[0]? = some x := ⟨_, List.getElem?_eq_getElem hp⟩
      exact lt_of_cell (hc 0 x hx)
    refine ⟨k1, ⟨k2.1, k2.2.1, k2.2.2.1, fun hp => ?_⟩, fun hp a ha => ⟨(k3 hp a ha).1, fun e => ?_⟩⟩
    · obtain ⟨b', off, e, hc⟩ := k2.2.2.2 hp
      refine ⟨b', off, e, fun i x hx => ?_⟩
      have hne := (k3 hp _ e).2
      rw [World.cell?_of_block (w := w) (hgr.block b' (hcell _ e hp) (fun e' => by first | exact hne e' | exact hne e'.symm))]
      exact hc i x hx
    · rcases hat with e2 | e2
      · rw [e2] at k3; exact (k3 hp a ha).2 e
      · have := hcell a ha hp
        simp only [Option.some.injEq] at e
        omega
  refine ⟨G ++ [g], by rw [List.map_append, h1]; rfl, ?_, ?_, ?_⟩
  · rw [List.length_append, List.flatMap_append]
    simpa using ho
  · intro g' hg'
    rcases List.mem_append.1 hg' with h | h
    · exact keep g' (h3 g' h)
    · simp only [List.mem_singleton] at h; subst h; exact keep g' hg
  · intro k hk
    simp only [Value.ownBlock, Option.some.injEq] at hk
    subst hk
    rcases hat with e2 | e2
    · exact h4 _ e2
    · exact hlim _ (by omega)
end Go.Proofs.Ytcofoddjcgmmkaa
