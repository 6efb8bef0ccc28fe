/- Elements more behind a list of one's own, the list as it was kept (the part of PushMany that wants no edges). -/
import Derived.Test.YthhoiejjejdffaaPushKeep
import Derived.Test.YthhoiejjejdffaaWellBase
namespace Go.Proofs.Ythhoiejjejdffaa
set_option linter.unusedSimpArgs false
set_option linter.unusedVariables false
open Go.RowKit Go.Maps

section
variable {P : Program} {α : Type}

/-- Elements more behind a list of one's own by append: the list as it was reads as before. -/
theorem run_pushs_keep (E : El α) {w : World} (t ty : TypeId) (base : Nat) (e : TypeId) (i : TypeInfo) (z : Value) (bytes : Nat) (ht : P.underlying t = some (.slice e)) (hi : P.info? e = some i) (hz : i.zero = some z)
    (hsize : i.size = E.size) (hby : i.bytes = bytes) (hzs : z.cells.size = E.size) (hbytes : bytes ≤ 4096)
    (v : Value) (l : List α) (hg : Grow E e base w v l) (ys : List α) (m : Nat) (hm : ys.length = m) (ad c : Nat) (hnew : ∀ j u, (ys.flatMap E.cells)[j]? = some u → w.cell? ⟨ad, j, none⟩ = some u)
    (hok : ∀ x ∈ l ++ ys, ∀ (V : World) F, E.ok V F x) (hl : l.length + m < 1073741824) (hb : base ≤ w.heap.size) :
    ∃ v' w', (Builtin.append_ #[t, t] ty #[v, .slice (some ⟨ad, 0, none⟩) m c]).run P w = .ok v' w' ∧ Grow E e base w' v' (l ++ ys) ∧ Grow E e base w' v l ∧ w.grownBy w' v.ownBlock ∧ (v'.ownBlock = v.ownBlock ∨ ∀ k, v'.ownBlock = some k → w.heap.size ≤ k) := by
  have hb2 : (l.length + m) * bytes ≤ 140737488355328 := by
    have := Nat.mul_le_mul (Nat.le_of_lt hl) hbytes
    omega
  have h63 : l.length + m ≤ maxLen := by unfold maxLen; omega
  have hyl : (ys.flatMap E.cells).length = m * E.size := by rw [flatE_len, hm]
  have hnews : ∀ j u, (ys.flatMap E.cells)[j]? = some u → w.cell? ((⟨ad, 0, none⟩ : Addr).add j) = some u := fun j u hu => by rw [addr_add, Nat.zero_add]; exact hnew j u hu
  have h1c : ∀ u ∈ ys.flatMap E.cells, u.oneCell' = true := fun u hu => by
    obtain ⟨y, hy, hu2⟩ := List.mem_flatMap.1 hu
    exact E.one (hok y (List.mem_append.2 (.inr hy)) w (fun _ => True)) u hu2
  have hokl : ∀ x ∈ l, ∀ (V : World) F, E.ok V F x := fun x hx => hok x (List.mem_append.2 (.inl hx))
  have hfl : (l ++ ys).flatMap E.cells = l.flatMap E.cells ++ ys.flatMap E.cells := List.flatMap_append
  have hll : (l ++ ys).length = l.length + m := by rw [List.length_append, hm]
  have hgo := hg.1
  rcases hg.1.2 with ⟨rfl, h0⟩ | ⟨g, cap, cur, rfl, hbg, hh, hnc, hcm, hcs, htk⟩
  · have hl0 : l = [] := List.eq_nil_of_length_eq_zero h0
    subst hl0
    obtain ⟨v', w', hrun, h2, h3, _⟩ := run_append_own (P := P) w w.heap.size t ty e i z E.size bytes ht hi hz hsize hby hzs E.pos (.slice none 0 0) 0 [] (World.ownsRow_nil w _ e _) ⟨ad, 0, none⟩ m c (ys.flatMap E.cells) hyl hnews h1c (by simpa using h63) (by simpa using hb2) (Nat.le_refl _)
    have hG : Grow E e w.heap.size w' v' ([] ++ ys) := Grow.of_own (n := 0 + m) (by simpa using hm) (by rw [hfl]; exact h2) hok
    exact ⟨v', w', hrun, hG.mono hb, Grow.nil _ _ _ _, h3, .inr fun k hk => own_new hG.1 k hk⟩
  · by_cases hroom : l.length + m ≤ cap
    · obtain ⟨w', hrun, h2, h3⟩ := run_append_fits (P := P) w base t ty e i E.size ht hi hsize g l.length cap _ hgo ⟨ad, 0, none⟩ m c (ys.flatMap E.cells) hyl hnews h1c hroom
      refine ⟨_, w', hrun, Grow.of_own (n := l.length + m) hll (by rw [hfl]; exact h2) hok, Grow.of_own rfl ⟨hg.1.1, ?_⟩ hokl, h3, .inl rfl⟩
      rcases h2.2 with ⟨h4, _⟩ | ⟨g', cap', cur', h4, h5, h6, h7, h8, h9, h10⟩
      · simp at h4
      · simp only [Value.slice.injEq, Option.some.injEq, Addr.mk.injEq, and_true, true_and] at h4
        obtain ⟨rfl, rfl⟩ := h4
        refine .inr ⟨g, cap, cur', rfl, h5, h6, by omega, h8, h9, ?_⟩
        have h11 := congrArg (List.take (l.length * E.size)) h10
        rw [List.take_take, Nat.min_eq_left (Nat.mul_le_mul_right _ (by omega)), List.take_left' hg.1.1] at h11
        exact h11
    · obtain ⟨v', w', hrun, h2, h3⟩ := run_append_arg_grows (P := P) w t ty e i z E.size bytes ht hi hz hsize hby hzs E.pos ⟨g, 0, none⟩ l.length cap (l.flatMap E.cells) hg.1.1 (fun j u hu => by rw [addr_add, Nat.zero_add]; exact own_at hgo hu) ⟨ad, 0, none⟩ m c (ys.flatMap E.cells) hyl hnews (by omega) h63 hb2
      have hlow : Below w.heap.size w w' := ⟨h3.os, h3.tape, h3.output, h3.size, fun k hk => h3.block k hk (by simp)⟩
      have hG : Grow E e w.heap.size w' v' (l ++ ys) := Grow.of_own (n := l.length + m) hll (by rw [hfl]; exact h2) hok
      exact ⟨v', w', hrun, hG.mono hb, hg.kept hlow, ⟨h3.os, h3.tape, h3.output, h3.size, fun k hk hne => h3.block k hk (by simp)⟩, .inr fun k hk => own_new hG.1 k hk⟩

theorem wpList_pushs_keep (E : El α) {w0 w : World} {ops : Array Oper} {rest : List Oper} {o : Oper} {a : Act} {Q : Exit → Act → World → Prop} (hgd : o.guard = none) (s x : Operand) (t : TypeId)
    (ho : o.op = .call { callee := .builtin .append, args := #[s, x], argTypes := #[t, t] })
    (base : Nat) (e : TypeId) (i : TypeInfo) (z : Value) (bytes : Nat) (ht : P.underlying t = some (.slice e)) (hi : P.info? e = some i) (hz : i.zero = some z)
    (hsize : i.size = E.size) (hby : i.bytes = bytes) (hzs : z.cells.size = E.size) (hbytes : bytes ≤ 4096)
    (v : Value) (l : List α) (hs : a.eval s = v) (hg : Grow E e base w v l)
    (ys : List α) (m : Nat) (hm : ys.length = m) (ad c : Nat) (hx : a.eval x = .slice (some ⟨ad, 0, none⟩) m c) (hnew : ∀ j u, (ys.flatMap E.cells)[j]? = some u → w.cell? ⟨ad, j, none⟩ = some u)
    (hok : ∀ x ∈ l ++ ys, ∀ (V : World) F, E.ok V F x) (hl : l.length + m < 1073741824) (hB : Below base w0 w) (hb : base ≤ w.heap.size)
    (h : ∀ v' w', Hid (Grow E e base w' v' (l ++ ys)) → Hid (Grow E e base w' v l) → Hid (Below base w0 w') → Hid (w.grownBy w' v.ownBlock) → Hid (v'.ownBlock = v.ownBlock ∨ ∀ k, v'.ownBlock = some k → w.heap.size ≤ k) → wpList P ops Q rest (a.put o.dst v') w') :
    wpList P ops Q (o :: rest) a w := by
  obtain ⟨v', w', hrun, h1, h2, h3, h4⟩ := run_pushs_keep (P := P) E t o.type base e i z bytes ht hi hz hsize hby hzs hbytes v l hg ys m hm ad c hnew hok hl hb
  refine wpList_plain hgd fun K hK => ?_
  unfold Oper.wp execOp
  simp only [ho, resolve, invoke, builtin, Sem.run_bind, Sem.run_pure, Result.andThen_ok, List.map_toArray, List.map_cons, List.map_nil, hs, hx, hrun]
  exact hK _ _ (h v' w' h1 h2 (below_grown hB hg.1 h3 hb) h3 h4)
end

theorem grow_num {α : Type} {E : El α} {e : TypeId} {base : Nat} {w : World} {ao : Option Addr} {cap n : Nat} {l : List α} (h : Grow E e base w (.slice ao n cap) l) : n = l.length := by
  obtain ⟨ao, c, e1, _⟩ := h.shape
  injection e1
end Go.Proofs.Ythhoiejjejdffaa
