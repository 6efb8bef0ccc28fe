/- One element more behind a list of one's own by append: the list as it was reads as before. -/
import Derived.Test.YthhoiejjejdffaaSpread
import Derived.Test.YthhoiejjejdffaaForms
import Derived.Deep.RegionLawGrows
import Derived.Laws.OwnMore
namespace Go.Proofs.Ythhoiejjejdffaa
set_option linter.unusedSimpArgs false
set_option linter.unusedVariables false
open Go.RowKit

section
variable {P : Program} {α : Type}

theorem run_push_keep (E : El α) {w : World} (t ty : TypeId) (base : Nat) (e : TypeId) (i : TypeInfo) (z : Value) (bytes : Nat) (ht : P.underlying t = some (.slice e)) (hi : P.info? e = some i) (hz : i.zero = some z)
    (hsize : i.size = E.size) (hby : i.bytes = bytes) (hzs : z.cells.size = E.size) (hbytes : bytes ≤ 4096)
    (v : Value) (l : List α) (hg : Grow E e base w v l) (y : α) (ad c : Nat) (hnew : ∀ j u, (E.cells y)[j]? = some u → w.cell? ⟨ad, j, none⟩ = some u)
    (hok : ∀ x ∈ l ++ [y], ∀ (V : World) F, E.ok V F x) (hl : l.length + 1 < 1073741824) (hb : base ≤ w.heap.size) :
    ∃ v' w', (Builtin.append_ #[t, t] ty #[v, .slice (some ⟨ad, 0, none⟩) 1 c]).run P w = .ok v' w' ∧ Grow E e base w' v' (l ++ [y]) ∧ Grow E e base w' v l ∧ w.grownBy w' v.ownBlock := by
  have hb2 : (l.length + 1) * bytes ≤ 140737488355328 := by
    have := Nat.mul_le_mul (Nat.le_of_lt hl) hbytes
    omega
  have h63 : l.length + 1 ≤ maxLen := by unfold maxLen; omega
  have hyl : (E.cells y).length = 1 * E.size := by rw [E.len, Nat.one_mul]
  have hnews : ∀ j u, (E.cells y)[j]? = some u → w.cell? ((⟨ad, 0, none⟩ : Addr).add j) = some u := fun j u hu => by rw [addr_add, Nat.zero_add]; exact hnew j u hu
  have h1c : ∀ u ∈ E.cells y, u.oneCell' = true := E.one (hok y (by simp) w (fun _ => True))
  have hokl : ∀ x ∈ l, ∀ (V : World) F, E.ok V F x := fun x hx => hok x (List.mem_append.2 (.inl hx))
  have hfl : (l ++ [y]).flatMap E.cells = l.flatMap E.cells ++ E.cells y := by rw [List.flatMap_append]; simp
  have hgo := hg.1
  rcases hg.1.2 with ⟨rfl, h0⟩ | ⟨g, cap, cur, rfl, hbg, hh, hnc, hcm, hcs, htk⟩
  · have hl0 : l = [] := List.eq_nil_of_length_eq_zero h0
    subst hl0
    obtain ⟨v', w', hrun, h2, h3, _⟩ := run_append_own (P := P) w base t ty e i z E.size bytes ht hi hz hsize hby hzs E.pos (.slice none 0 0) 0 [] (World.ownsRow_nil w _ e _) ⟨ad, 0, none⟩ 1 c (E.cells y) hyl hnews h1c (by simpa using h63) (by simpa using hb2) hb
    exact ⟨v', w', hrun, Grow.of_own (n := 0 + 1) (by simp) (by rw [hfl]; exact h2) hok, Grow.nil _ _ _ _, h3⟩
  · by_cases hroom : l.length + 1 ≤ cap
    · obtain ⟨w', hrun, h2, h3⟩ := run_append_fits (P := P) w base t ty e i E.size ht hi hsize g l.length cap _ hgo ⟨ad, 0, none⟩ 1 c (E.cells y) hyl hnews h1c hroom
      refine ⟨_, w', hrun, Grow.of_own (n := l.length + 1) (by simp) (by rw [hfl]; exact h2) hok, Grow.of_own rfl ⟨hg.1.1, ?_⟩ hokl, h3⟩
      rcases h2.2 with ⟨h4, _⟩ | ⟨g', cap', cur', h4, h5, h6, h7, h8, h9, h10⟩
      · simp at h4
      · simp only [Value.slice.injEq, Option.some.injEq, Addr.mk.injEq, and_true, true_and] at h4
        obtain ⟨rfl, rfl⟩ := h4
        refine .inr ⟨g, cap, cur', rfl, h5, h6, by omega, h8, h9, ?_⟩
        have h11 := congrArg (List.take (l.length * E.size)) h10
        rw [List.take_take, Nat.min_eq_left (Nat.mul_le_mul_right _ (by omega)), List.take_left' hg.1.1] at h11
        exact h11
    · obtain ⟨v', w', hrun, h2, h3⟩ := run_append_arg_grows (P := P) w t ty e i z E.size bytes ht hi hz hsize hby hzs E.pos ⟨g, 0, none⟩ l.length cap (l.flatMap E.cells) hg.1.1 (fun j u hu => by rw [addr_add, Nat.zero_add]; exact own_at hgo hu) ⟨ad, 0, none⟩ 1 c (E.cells y) hyl hnews (by omega) h63 hb2
      have hlow : Below w.heap.size w w' := ⟨h3.os, h3.tape, h3.output, h3.size, fun k hk => h3.block k hk (by simp)⟩
      exact ⟨v', w', hrun, (Grow.of_own (n := l.length + 1) (by simp) (by rw [hfl]; exact h2) hok : Grow E e w.heap.size w' v' (l ++ [y])).mono hb, hg.kept hlow, ⟨h3.os, h3.tape, h3.output, h3.size, fun k hk hne => h3.block k hk (by simp)⟩⟩

theorem wp_push_keep (E : El α) {w0 w : World} {o : Oper} {a : Act} {K : Act → World → Prop} {Q : Exit → Act → World → Prop} (s x : Operand) (t : TypeId)
    (ho : o.op = .call { callee := .builtin .append, args := #[s, x], argTypes := #[t, t] })
    (base : Nat) (e : TypeId) (i : TypeInfo) (z : Value) (bytes : Nat) (ht : P.underlying t = some (.slice e)) (hi : P.info? e = some i) (hz : i.zero = some z)
    (hsize : i.size = E.size) (hby : i.bytes = bytes) (hzs : z.cells.size = E.size) (hbytes : bytes ≤ 4096)
    (v : Value) (l : List α) (hs : a.eval s = v) (hg : Grow E e base w v l)
    (y : α) (ad c : Nat) (hx : a.eval x = .slice (some ⟨ad, 0, none⟩) 1 c) (hnew : ∀ j u, (E.cells y)[j]? = some u → w.cell? ⟨ad, j, none⟩ = some u)
    (hok : ∀ x ∈ l ++ [y], ∀ (V : World) F, E.ok V F x) (hl : l.length + 1 < 1073741824) (hB : Below base w0 w) (hb : base ≤ w.heap.size)
    (h : ∀ v' w', Hid (Grow E e base w' v' (l ++ [y])) → Hid (Grow E e base w' v l) → Hid (Below base w0 w') → Hid (w.grownBy w' v.ownBlock) → K (a.put o.dst v') w') :
    Oper.wp P o a w K Q := by
  obtain ⟨v', w', hrun, h1, h2, h3⟩ := run_push_keep (P := P) E t o.type base e i z bytes ht hi hz hsize hby hzs hbytes v l hg y ad c hnew hok hl hb
  unfold Oper.wp execOp
  simp only [ho, resolve, invoke, builtin, Sem.run_bind, Sem.run_pure, Result.andThen_ok, List.map_toArray, List.map_cons, List.map_nil, hs, hx, hrun]
  exact h v' w' h1 h2 (below_grown hB hg.1 h3 hb) h3
end

/-- A number of a list of one's own written over. -/
theorem Grow.setInt {e : TypeId} {base : Nat} {w : World} {g cap n : Nat} {l : List Int} (h : Grow elInt e base w (.slice (some ⟨g, 0, none⟩) n cap) l) {j : Nat} (hj : j < l.length) {x : Int} (hx : I64 x) :
    (∃ y, l[j]? = some y ∧ w.cell? ⟨g, j, none⟩ = some (.int .i64 y)) ∧ w.frozen? ⟨g, j, none⟩ = false ∧ Grow elInt e base (w.setCell ⟨g, j, none⟩ (.int .i64 x)) (.slice (some ⟨g, 0, none⟩) n cap) (l.set j x) ∧ base ≤ g := by
  have hn : n = l.length := by
    obtain ⟨ao, c, e1, _⟩ := h.shape
    injection e1
  subst hn
  have hf : ∀ m : List Int, m.flatMap elInt.cells = m.map (Value.int .i64) := fun m => by
    induction m with
    | nil => rfl
    | cons a r ih => rw [List.flatMap_cons, ih]; rfl
  have h1 := h.1
  have h2 := h1.stored j (.int .i64 x)
  obtain ⟨y, hy⟩ : ∃ y, l[j]? = some y := ⟨_, List.getElem?_eq_getElem hj⟩
  refine ⟨⟨y, hy, own_at h1 (by rw [hf, List.getElem?_map, hy]; rfl)⟩, h1.frozenAt j, Grow.of_own (n := l.length) (by simp) ?_ ?_, own_new h1 g rfl⟩
  · have h3 := h2.1
    rw [hf, ← List.map_set] at h3
    rw [hf]
    exact h3
  · intro z hz V F
    rcases List.mem_or_eq_of_mem_set hz with h3 | h3
    · exact h.2 z h3
    · rw [h3]; exact hx
end Go.Proofs.Ythhoiejjejdffaa
