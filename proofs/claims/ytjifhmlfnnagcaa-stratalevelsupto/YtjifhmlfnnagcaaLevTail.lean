/- No least level is as great as the number of predicates. 'append(v, x...)': all of a list behind a list of one's own; a copy in new memory. One element more behind a list of one's own by append: the list as it was reads as before. Elements more behind a list of one's own, the list as it was kept; edges written over in a list of one's own. The law's alone: lists of numbers written over, each grown by two, all looked at. The law's turn: edges written over in place, each the other way round. strata.Levels and the document's Levels, whatever the edges; where their rows lie; the two answers meet. The law of the levels: its walk. -/
import Derived.Test.YtjifhmlfnnagcaaLevelsPure
import Derived.Test.YtjifhmlfnnagcaaPush
import Derived.Test.YtjifhmlfnnagcaaForms
import Derived.Deep.RegionLawGrows
import Derived.Laws.OwnMore
import Derived.Test.YtjifhmlfnnagcaaEdgeLaw
import Derived.Test.YtjifhmlfnnagcaaRegionLast
import Derived.Test.YtjifhmlfnnagcaaOrderPure
import Derived.Test.YtjifhmlfnnagcaaRefLevels

namespace Go.Proofs.Ytjifhmlfnnagcaa
set_option linter.unusedSimpArgs false
set_option linter.unusedVariables false

theorem pig_len : ∀ (l m : List Nat), l.Nodup → (∀ x ∈ l, x ∈ m) → l.length ≤ m.length
  | [], m, _, _ => Nat.zero_le _
  | a :: l, m, hn, hs => by
    have ha : a ∈ m := hs a (List.mem_cons_self ..)
    have hn2 := List.nodup_cons.1 hn
    have h1 := pig_len l (m.erase a) hn2.2 fun x hx => (List.mem_erase_of_ne (fun e => hn2.1 (by rw [← e]; exact hx))).2 (hs x (List.mem_cons_of_mem _ hx))
    rw [List.length_erase_of_mem ha] at h1
    have : 0 < m.length := List.length_pos_of_mem ha
    rw [List.length_cons]
    omega
theorem Least.small {n : Nat} {T N : Nat → Nat → Bool} {X : Nat → Int} (h : Least n T N X) : ∀ u, u < n → X u < n := by
  intro u hu
  rcases Int.lt_or_le (X u) n with h0 | h0
  · exact h0
  · exfalso
    rcases Classical.em (∃ c : Nat, c < n ∧ ∀ v, v < n → X v ≠ c) with ⟨c, hc, hv⟩ | hno
    · have hs : Sol n T N (fun v => if (c : Int) < X v then X v - 1 else X v) := by
        refine ⟨fun a ha => ?_, fun a b ha hb e => ?_, fun a b ha hb e => ?_⟩
        · have := h.nn a ha; split <;> omega
        · have h1 := h.le a b ha hb e; have h2 := hv a ha; have h3 := hv b hb; split <;> split <;> omega
        · have h1 := h.lt a b ha hb e; have h2 := hv a ha; have h3 := hv b hb; split <;> split <;> omega
      have h1 := h.least _ hs u hu
      rw [if_pos (by omega)] at h1
      omega
    · have h1 := pig_len ((X u).toNat :: List.range n) ((List.range n).map fun v => (X v).toNat) (List.nodup_cons.2 ⟨fun hm => by have := List.mem_range.1 hm; omega, List.nodup_range⟩) fun x hx => by
        rcases List.mem_cons.1 hx with rfl | hx
        · exact List.mem_map.2 ⟨u, List.mem_range.2 hu, rfl⟩
        · rcases Classical.em (∃ v, v < n ∧ X v = (x : Int)) with ⟨v, hv, e⟩ | hn2
          · exact List.mem_map.2 ⟨v, List.mem_range.2 hv, by rw [e]; simp⟩
          · exact absurd ⟨x, List.mem_range.1 hx, fun v hv e => hn2 ⟨v, hv, e⟩⟩ hno
      simp at h1
      omega
end Go.Proofs.Ytjifhmlfnnagcaa

namespace Go.Proofs.Ytjifhmlfnnagcaa
set_option linter.unusedSimpArgs false
set_option linter.unusedVariables false
open Go.RowKit

theorem Grow.empty {α : Type} (E : El α) (e : TypeId) (base : Nat) (W : World) (hb : base ≤ W.heap.size) : Grow E e base (W.alloc (.cells #[] e)) (.slice (some ⟨W.heap.size, 0, none⟩) 0 0) [] :=
  ⟨⟨by simp, .inr ⟨W.heap.size, 0, #[], rfl, hb, heap_alloc_new _ _, Nat.le_refl _, by decide, by simp, by simp⟩⟩, by simp⟩

theorem Grow.of_own {α : Type} {E : El α} {e : TypeId} {base : Nat} {w : World} {v : Value} {l : List α} {n : Nat} (hn : l.length = n) (ho : w.ownsRow base e E.size v n (l.flatMap E.cells)) (hok : ∀ x ∈ l, ∀ (V : World) F, E.ok V F x) : Grow E e base w v l :=
  ⟨by rw [hn]; exact ho, fun x hx => hok x hx _ _⟩

theorem flat_one {α : Type} {E : El α} {w : World} {F : Nat → Prop} {l : List α} (h : ∀ x ∈ l, E.ok w F x) : ∀ u ∈ l.flatMap E.cells, u.oneCell' = true := fun u hu => by
  obtain ⟨x, hx, hu⟩ := List.mem_flatMap.1 hu
  exact E.one (h x hx) u hu

theorem flat_cells {α : Type} {E : El α} {w : World} {F : Nat → Prop} {ao : Option Addr} {n cap : Nat} {l : List α} (h : Lst E w F (.slice ao n cap) l) : ∀ ad, ao = some ad → ∀ j u, (l.flatMap E.cells)[j]? = some u → w.cell? (ad.add j) = some u := by
  intro ad ha j u hu
  have hj := (List.getElem?_eq_some_iff.1 hu).1
  rw [flatE_len] at hj
  have hp : 0 < l.length := by
    rcases Nat.eq_zero_or_pos l.length with h0 | h0
    · rw [h0] at hj; omega
    · exact h0
  obtain ⟨b, off, e2, -, -, hc⟩ := h.row hp
  rw [ha] at e2
  cases e2
  have hd : j = j / E.size * E.size + j % E.size := by rw [Nat.mul_comm]; exact (Nat.div_add_mod j E.size).symm
  have hm : j % E.size < E.size := Nat.mod_lt _ E.pos
  have hi : j / E.size < l.length := by rw [Nat.div_lt_iff_lt_mul E.pos]; exact hj
  obtain ⟨x, hx⟩ : ∃ x, l[j / E.size]? = some x := ⟨_, List.getElem?_eq_getElem hi⟩
  have h1 := flatE_at E l _ _ x hx hm
  rw [← hd, hu] at h1
  have h2 := hc _ x hx (j % E.size) u h1.symm
  rw [addr_add]
  rw [Nat.add_assoc, ← hd] at h2
  exact h2

section
variable {P : Program} {α : Type}
theorem step_spread (E : El α) {w0 w : World} {ops : Array Oper} {o : Oper} {a : Act} {K : Act → World → Prop} {Q : Exit → Act → World → Prop} {Z : Prop} (hgd : o.guard = none) (s x : Operand) (t : TypeId)
    (ho : o.op = .call { callee := .builtin .append, args := #[s, x], argTypes := #[t, t] })
    (base : Nat) (e : TypeId) (i : TypeInfo) (z : Value) (bytes : Nat) (ht : P.underlying t = some (.slice e)) (hi : P.info? e = some i) (hz : i.zero = some z)
    (hsize : i.size = E.size) (hby : i.bytes = bytes) (hzs : z.cells.size = E.size) (hbytes : bytes ≤ 4096)
    (v : Value) (l : List α) (hs : a.eval s = v) (hg : Grow E e base w v l)
    (F : Nat → Prop) (ao : Option Addr) (m c : Nat) (l2 : List α) (hm : l2.length = m) (hx : a.eval x = .slice ao m c) (hX : Lst E w F (.slice ao m c) l2)
    (hok : ∀ y ∈ l ++ l2, ∀ (V : World) G, E.ok V G y) (hl : l.length + m < 1073741824) (hB : Below base w0 w) (hb : base ≤ w.heap.size)
    (h : ∀ v' w', Hid (Grow E e base w' v' (l ++ l2)) → Hid (Below base w0 w') → Hid (w.grownBy w' v.ownBlock) → K (a.put o.dst v') w') :
    if Region.wanted o (yielded ops a.tmps) = true then Oper.wp P o a w K Q else Z := by
  subst hm
  obtain ⟨ao', cap', e1, h1, h2, h3⟩ := hX.shape
  cases e1
  refine step_append_any hgd s x t ho base e i z E.size bytes ht hi hz hsize hby hzs E.pos v l.length (l.flatMap E.cells) hs hg.1 ao l2.length c (l2.flatMap E.cells) hx h2 (flatE_len E l2) (flat_cells hX) (flat_one fun y hy => hX.ok hy) (by unfold maxLen; omega) ?_ hb ?_
  · have := Nat.mul_le_mul (Nat.le_of_lt hl) hbytes
    omega
  · intro v' w' ho' hgr
    exact h v' w' (Grow.of_own List.length_append (by rw [List.flatMap_append]; exact ho') hok) (below_grown hB hg.1 hgr hb) hgr

theorem wpList_spread (E : El α) {w0 w : World} {ops : Array Oper} {rest : List Oper} {o : Oper} {a : Act} {Q : Exit → Act → World → Prop} (hgd : o.guard = none) (s x : Operand) (t : TypeId)
    (ho : o.op = .call { callee := .builtin .append, args := #[s, x], argTypes := #[t, t] })
    (base : Nat) (e : TypeId) (i : TypeInfo) (z : Value) (bytes : Nat) (ht : P.underlying t = some (.slice e)) (hi : P.info? e = some i) (hz : i.zero = some z)
    (hsize : i.size = E.size) (hby : i.bytes = bytes) (hzs : z.cells.size = E.size) (hbytes : bytes ≤ 4096)
    (v : Value) (l : List α) (hs : a.eval s = v) (hg : Grow E e base w v l)
    (F : Nat → Prop) (ao : Option Addr) (m c : Nat) (l2 : List α) (hm : l2.length = m) (hx : a.eval x = .slice ao m c) (hX : Lst E w F (.slice ao m c) l2)
    (hok : ∀ y ∈ l ++ l2, ∀ (V : World) G, E.ok V G y) (hl : l.length + m < 1073741824) (hB : Below base w0 w) (hb : base ≤ w.heap.size)
    (h : ∀ v' w', Hid (Grow E e base w' v' (l ++ l2)) → Hid (Below base w0 w') → Hid (w.grownBy w' v.ownBlock) → wpList P ops Q rest (a.put o.dst v') w') : wpList P ops Q (o :: rest) a w := by
  subst hm
  obtain ⟨ao', cap', e1, h1, h2, h3⟩ := hX.shape
  cases e1
  refine wpList_append_any hgd s x t ho base e i z E.size bytes ht hi hz hsize hby hzs E.pos v l.length (l.flatMap E.cells) hs hg.1 ao l2.length c (l2.flatMap E.cells) hx h2 (flatE_len E l2) (flat_cells hX) (flat_one fun y hy => hX.ok hy) (by unfold maxLen; omega) ?_ hb ?_
  · have := Nat.mul_le_mul (Nat.le_of_lt hl) hbytes
    omega
  · intro v' w' ho' hgr
    exact h v' w' (Grow.of_own List.length_append (by rw [List.flatMap_append]; exact ho') hok) (below_grown hB hg.1 hgr hb) hgr
end
end Go.Proofs.Ytjifhmlfnnagcaa

namespace Go.Proofs.Ytjifhmlfnnagcaa
set_option linter.unusedSimpArgs false
set_option linter.unusedVariables false
open Go.RowKit

section
variable {P : Program} {α : Type}

theorem run_push_keep (E : El α) {w : World} (t ty : TypeId) (base : Nat) (e : TypeId) (i : TypeInfo) (z : Value) (bytes : Nat) (ht : P.underlying t = some (.slice e)) (hi : P.info? e = some i) (hz : i.zero = some z)
    (hsize : i.size = E.size) (hby : i.bytes = bytes) (hzs : z.cells.size = E.size) (hbytes : bytes ≤ 4096)
    (v : Value) (l : List α) (hg : Grow E e base w v l) (y : α) (ad c : Nat) (hnew : ∀ j u, (E.cells y)[j]? = some u → w.cell? ⟨ad, j, none⟩ = some u)
    (hok : ∀ x ∈ l ++ [y], ∀ (V : World) F, E.ok V F x) (hl : l.length + 1 < 1073741824) (hb : base ≤ w.heap.size) :
    ∃ v' w', (Builtin.append_ #[t, t] ty #[v, .slice (some ⟨ad, 0, none⟩) 1 c]).run P w = .ok v' w' ∧ Grow E e base w' v' (l ++ [y]) ∧ Grow E e base w' v l ∧ w.grownBy w' v.ownBlock := by
  have hb2 : (l.length + 1) * bytes ≤ 140737488355328 := by
    have := Nat.mul_le_mul (Nat.le_of_lt hl) hbytes
    omega
  have h63 : l.length + 1 ≤ maxLen := by unfold maxLen; omega
  have hyl : (E.cells y).length = 1 * E.size := by rw [E.len, Nat.one_mul]
  have hnews : ∀ j u, (E.cells y)[j]? = some u → w.cell? ((⟨ad, 0, none⟩ : Addr).add j) = some u := fun j u hu => by rw [addr_add, Nat.zero_add]; exact hnew j u hu
  have h1c : ∀ u ∈ E.cells y, u.oneCell' = true := E.one (hok y (by simp) w (fun _ => True))
  have hokl : ∀ x ∈ l, ∀ (V : World) F, E.ok V F x := fun x hx => hok x (List.mem_append.2 (.inl hx))
  have hfl : (l ++ [y]).flatMap E.cells = l.flatMap E.cells ++ E.cells y := by rw [List.flatMap_append]; simp
  have hgo := hg.1
  rcases hg.1.2 with ⟨rfl, h0⟩ | ⟨g, cap, cur, rfl, hbg, hh, hnc, hcm, hcs, htk⟩
  · have hl0 : l = [] := List.eq_nil_of_length_eq_zero h0
    subst hl0
    obtain ⟨v', w', hrun, h2, h3, _⟩ := run_append_own (P := P) w base t ty e i z E.size bytes ht hi hz hsize hby hzs E.pos (.slice none 0 0) 0 [] (World.ownsRow_nil w _ e _) ⟨ad, 0, none⟩ 1 c (E.cells y) hyl hnews h1c (by simpa using h63) (by simpa using hb2) hb
    exact ⟨v', w', hrun, Grow.of_own (n := 0 + 1) (by simp) (by rw [hfl]; exact h2) hok, Grow.nil _ _ _ _, h3⟩
  · by_cases hroom : l.length + 1 ≤ cap
    · obtain ⟨w', hrun, h2, h3⟩ := run_append_fits (P := P) w base t ty e i E.size ht hi hsize g l.length cap _ hgo ⟨ad, 0, none⟩ 1 c (E.cells y) hyl hnews h1c hroom
      refine ⟨_, w', hrun, Grow.of_own (n := l.length + 1) (by simp) (by rw [hfl]; exact h2) hok, Grow.of_own rfl ⟨hg.1.1, ?_⟩ hokl, h3⟩
      rcases h2.2 with ⟨h4, _⟩ | ⟨g', cap', cur', h4, h5, h6, h7, h8, h9, h10⟩
      · simp at h4
      · simp only [Value.slice.injEq, Option.some.injEq, Addr.mk.injEq, and_true, true_and] at h4
        obtain ⟨rfl, rfl⟩ := h4
        refine .inr ⟨g, cap, cur', rfl, h5, h6, by omega, h8, h9, ?_⟩
        have h11 := congrArg (List.take (l.length * E.size)) h10
        rw [List.take_take, Nat.min_eq_left (Nat.mul_le_mul_right _ (by omega)), List.take_left' hg.1.1] at h11
        exact h11
    · obtain ⟨v', w', hrun, h2, h3⟩ := run_append_arg_grows (P := P) w t ty e i z E.size bytes ht hi hz hsize hby hzs E.pos ⟨g, 0, none⟩ l.length cap (l.flatMap E.cells) hg.1.1 (fun j u hu => by rw [addr_add, Nat.zero_add]; exact own_at hgo hu) ⟨ad, 0, none⟩ 1 c (E.cells y) hyl hnews (by omega) h63 hb2
      have hlow : Below w.heap.size w w' := ⟨h3.os, h3.tape, h3.output, h3.size, fun k hk => h3.block k hk (by simp)⟩
      exact ⟨v', w', hrun, (Grow.of_own (n := l.length + 1) (by simp) (by rw [hfl]; exact h2) hok : Grow E e w.heap.size w' v' (l ++ [y])).mono hb, hg.kept hlow, ⟨h3.os, h3.tape, h3.output, h3.size, fun k hk hne => h3.block k hk (by simp)⟩⟩

theorem wp_push_keep (E : El α) {w0 w : World} {o : Oper} {a : Act} {K : Act → World → Prop} {Q : Exit → Act → World → Prop} (s x : Operand) (t : TypeId)
    (ho : o.op = .call { callee := .builtin .append, args := #[s, x], argTypes := #[t, t] })
    (base : Nat) (e : TypeId) (i : TypeInfo) (z : Value) (bytes : Nat) (ht : P.underlying t = some (.slice e)) (hi : P.info? e = some i) (hz : i.zero = some z)
    (hsize : i.size = E.size) (hby : i.bytes = bytes) (hzs : z.cells.size = E.size) (hbytes : bytes ≤ 4096)
    (v : Value) (l : List α) (hs : a.eval s = v) (hg : Grow E e base w v l)
    (y : α) (ad c : Nat) (hx : a.eval x = .slice (some ⟨ad, 0, none⟩) 1 c) (hnew : ∀ j u, (E.cells y)[j]? = some u → w.cell? ⟨ad, j, none⟩ = some u)
    (hok : ∀ x ∈ l ++ [y], ∀ (V : World) F, E.ok V F x) (hl : l.length + 1 < 1073741824) (hB : Below base w0 w) (hb : base ≤ w.heap.size)
    (h : ∀ v' w', Hid (Grow E e base w' v' (l ++ [y])) → Hid (Grow E e base w' v l) → Hid (Below base w0 w') → Hid (w.grownBy w' v.ownBlock) → K (a.put o.dst v') w') :
    Oper.wp P o a w K Q := by
  obtain ⟨v', w', hrun, h1, h2, h3⟩ := run_push_keep (P := P) E t o.type base e i z bytes ht hi hz hsize hby hzs hbytes v l hg y ad c hnew hok hl hb
  unfold Oper.wp execOp
  simp only [ho, resolve, invoke, builtin, Sem.run_bind, Sem.run_pure, Result.andThen_ok, List.map_toArray, List.map_cons, List.map_nil, hs, hx, hrun]
  exact h v' w' h1 h2 (below_grown hB hg.1 h3 hb) h3
end

/-- A number of a list of one's own written over. -/
theorem Grow.setInt {e : TypeId} {base : Nat} {w : World} {g cap n : Nat} {l : List Int} (h : Grow elInt e base w (.slice (some ⟨g, 0, none⟩) n cap) l) {j : Nat} (hj : j < l.length) {x : Int} (hx : I64 x) :
    (∃ y, l[j]? = some y ∧ w.cell? ⟨g, j, none⟩ = some (.int .i64 y)) ∧ w.frozen? ⟨g, j, none⟩ = false ∧ Grow elInt e base (w.setCell ⟨g, j, none⟩ (.int .i64 x)) (.slice (some ⟨g, 0, none⟩) n cap) (l.set j x) ∧ base ≤ g := by
  have hn : n = l.length := by
    obtain ⟨ao, c, e1, _⟩ := h.shape
    injection e1
  subst hn
  have hf : ∀ m : List Int, m.flatMap elInt.cells = m.map (Value.int .i64) := fun m => by
    induction m with
    | nil => rfl
    | cons a r ih => rw [List.flatMap_cons, ih]; rfl
  have h1 := h.1
  have h2 := h1.stored j (.int .i64 x)
  obtain ⟨y, hy⟩ : ∃ y, l[j]? = some y := ⟨_, List.getElem?_eq_getElem hj⟩
  refine ⟨⟨y, hy, own_at h1 (by rw [hf, List.getElem?_map, hy]; rfl)⟩, h1.frozenAt j, Grow.of_own (n := l.length) (by simp) ?_ ?_, own_new h1 g rfl⟩
  · have h3 := h2.1
    rw [hf, ← List.map_set] at h3
    rw [hf]
    exact h3
  · intro z hz V F
    rcases List.mem_or_eq_of_mem_set hz with h3 | h3
    · exact h.2 z h3
    · rw [h3]; exact hx
end Go.Proofs.Ytjifhmlfnnagcaa

namespace Go.Proofs.Ytjifhmlfnnagcaa
set_option linter.unusedSimpArgs false
set_option linter.unusedVariables false
open Go.RowKit Go.Maps

section
variable {P : Program} {α : Type}

/-- Elements more behind a list of one's own by append: the list as it was reads as before. -/
theorem run_pushs_keep (E : El α) {w : World} (t ty : TypeId) (base : Nat) (e : TypeId) (i : TypeInfo) (z : Value) (bytes : Nat) (ht : P.underlying t = some (.slice e)) (hi : P.info? e = some i) (hz : i.zero = some z)
    (hsize : i.size = E.size) (hby : i.bytes = bytes) (hzs : z.cells.size = E.size) (hbytes : bytes ≤ 4096)
    (v : Value) (l : List α) (hg : Grow E e base w v l) (ys : List α) (m : Nat) (hm : ys.length = m) (ad c : Nat) (hnew : ∀ j u, (ys.flatMap E.cells)[j]? = some u → w.cell? ⟨ad, j, none⟩ = some u)
    (hok : ∀ x ∈ l ++ ys, ∀ (V : World) F, E.ok V F x) (hl : l.length + m < 1073741824) (hb : base ≤ w.heap.size) :
    ∃ v' w', (Builtin.append_ #[t, t] ty #[v, .slice (some ⟨ad, 0, none⟩) m c]).run P w = .ok v' w' ∧ Grow E e base w' v' (l ++ ys) ∧ Grow E e base w' v l ∧ w.grownBy w' v.ownBlock ∧ (v'.ownBlock = v.ownBlock ∨ ∀ k, v'.ownBlock = some k → w.heap.size ≤ k) := by
  have hb2 : (l.length + m) * bytes ≤ 140737488355328 := by
    have := Nat.mul_le_mul (Nat.le_of_lt hl) hbytes
    omega
  have h63 : l.length + m ≤ maxLen := by unfold maxLen; omega
  have hyl : (ys.flatMap E.cells).length = m * E.size := by rw [flatE_len, hm]
  have hnews : ∀ j u, (ys.flatMap E.cells)[j]? = some u → w.cell? ((⟨ad, 0, none⟩ : Addr).add j) = some u := fun j u hu => by rw [addr_add, Nat.zero_add]; exact hnew j u hu
  have h1c : ∀ u ∈ ys.flatMap E.cells, u.oneCell' = true := fun u hu => by
    obtain ⟨y, hy, hu2⟩ := List.mem_flatMap.1 hu
    exact E.one (hok y (List.mem_append.2 (.inr hy)) w (fun _ => True)) u hu2
  have hokl : ∀ x ∈ l, ∀ (V : World) F, E.ok V F x := fun x hx => hok x (List.mem_append.2 (.inl hx))
  have hfl : (l ++ ys).flatMap E.cells = l.flatMap E.cells ++ ys.flatMap E.cells := List.flatMap_append
  have hll : (l ++ ys).length = l.length + m := by rw [List.length_append, hm]
  have hgo := hg.1
  rcases hg.1.2 with ⟨rfl, h0⟩ | ⟨g, cap, cur, rfl, hbg, hh, hnc, hcm, hcs, htk⟩
  · have hl0 : l = [] := List.eq_nil_of_length_eq_zero h0
    subst hl0
    obtain ⟨v', w', hrun, h2, h3, _⟩ := run_append_own (P := P) w w.heap.size t ty e i z E.size bytes ht hi hz hsize hby hzs E.pos (.slice none 0 0) 0 [] (World.ownsRow_nil w _ e _) ⟨ad, 0, none⟩ m c (ys.flatMap E.cells) hyl hnews h1c (by simpa using h63) (by simpa using hb2) (Nat.le_refl _)
    have hG : Grow E e w.heap.size w' v' ([] ++ ys) := Grow.of_own (n := 0 + m) (by simpa using hm) (by rw [hfl]; exact h2) hok
    exact ⟨v', w', hrun, hG.mono hb, Grow.nil _ _ _ _, h3, .inr fun k hk => own_new hG.1 k hk⟩
  · by_cases hroom : l.length + m ≤ cap
    · obtain ⟨w', hrun, h2, h3⟩ := run_append_fits (P := P) w base t ty e i E.size ht hi hsize g l.length cap _ hgo ⟨ad, 0, none⟩ m c (ys.flatMap E.cells) hyl hnews h1c hroom
      refine ⟨_, w', hrun, Grow.of_own (n := l.length + m) hll (by rw [hfl]; exact h2) hok, Grow.of_own rfl ⟨hg.1.1, ?_⟩ hokl, h3, .inl rfl⟩
      rcases h2.2 with ⟨h4, _⟩ | ⟨g', cap', cur', h4, h5, h6, h7, h8, h9, h10⟩
      · simp at h4
      · simp only [Value.slice.injEq, Option.some.injEq, Addr.mk.injEq, and_true, true_and] at h4
        obtain ⟨rfl, rfl⟩ := h4
        refine .inr ⟨g, cap, cur', rfl, h5, h6, by omega, h8, h9, ?_⟩
        have h11 := congrArg (List.take (l.length * E.size)) h10
        rw [List.take_take, Nat.min_eq_left (Nat.mul_le_mul_right _ (by omega)), List.take_left' hg.1.1] at h11
        exact h11
    · obtain ⟨v', w', hrun, h2, h3⟩ := run_append_arg_grows (P := P) w t ty e i z E.size bytes ht hi hz hsize hby hzs E.pos ⟨g, 0, none⟩ l.length cap (l.flatMap E.cells) hg.1.1 (fun j u hu => by rw [addr_add, Nat.zero_add]; exact own_at hgo hu) ⟨ad, 0, none⟩ m c (ys.flatMap E.cells) hyl hnews (by omega) h63 hb2
      have hlow : Below w.heap.size w w' := ⟨h3.os, h3.tape, h3.output, h3.size, fun k hk => h3.block k hk (by simp)⟩
      have hG : Grow E e w.heap.size w' v' (l ++ ys) := Grow.of_own (n := l.length + m) hll (by rw [hfl]; exact h2) hok
      exact ⟨v', w', hrun, hG.mono hb, hg.kept hlow, ⟨h3.os, h3.tape, h3.output, h3.size, fun k hk hne => h3.block k hk (by simp)⟩, .inr fun k hk => own_new hG.1 k hk⟩

theorem wpList_pushs_keep (E : El α) {w0 w : World} {ops : Array Oper} {rest : List Oper} {o : Oper} {a : Act} {Q : Exit → Act → World → Prop} (hgd : o.guard = none) (s x : Operand) (t : TypeId)
    (ho : o.op = .call { callee := .builtin .append, args := #[s, x], argTypes := #[t, t] })
    (base : Nat) (e : TypeId) (i : TypeInfo) (z : Value) (bytes : Nat) (ht : P.underlying t = some (.slice e)) (hi : P.info? e = some i) (hz : i.zero = some z)
    (hsize : i.size = E.size) (hby : i.bytes = bytes) (hzs : z.cells.size = E.size) (hbytes : bytes ≤ 4096)
    (v : Value) (l : List α) (hs : a.eval s = v) (hg : Grow E e base w v l)
    (ys : List α) (m : Nat) (hm : ys.length = m) (ad c : Nat) (hx : a.eval x = .slice (some ⟨ad, 0, none⟩) m c) (hnew : ∀ j u, (ys.flatMap E.cells)[j]? = some u → w.cell? ⟨ad, j, none⟩ = some u)
    (hok : ∀ x ∈ l ++ ys, ∀ (V : World) F, E.ok V F x) (hl : l.length + m < 1073741824) (hB : Below base w0 w) (hb : base ≤ w.heap.size)
    (h : ∀ v' w', Hid (Grow E e base w' v' (l ++ ys)) → Hid (Grow E e base w' v l) → Hid (Below base w0 w') → Hid (w.grownBy w' v.ownBlock) → Hid (v'.ownBlock = v.ownBlock ∨ ∀ k, v'.ownBlock = some k → w.heap.size ≤ k) → wpList P ops Q rest (a.put o.dst v') w') :
    wpList P ops Q (o :: rest) a w := by
  obtain ⟨v', w', hrun, h1, h2, h3, h4⟩ := run_pushs_keep (P := P) E t o.type base e i z bytes ht hi hz hsize hby hzs hbytes v l hg ys m hm ad c hnew hok hl hb
  refine wpList_plain hgd fun K hK => ?_
  unfold Oper.wp execOp
  simp only [ho, resolve, invoke, builtin, Sem.run_bind, Sem.run_pure, Result.andThen_ok, List.map_toArray, List.map_cons, List.map_nil, hs, hx, hrun]
  exact hK _ _ (h v' w' h1 h2 (below_grown hB hg.1 h3 hb) h3 h4)
end

/-- An edge that is a mark. -/
def mkE (x : Int) : Edg := ⟨x, 0, false, 0⟩
theorem edg_flat_set (y : Edg) : ∀ (l : List Edg) (i : Nat), (l.set i y).flatMap elEdg.cells = ((((l.flatMap elEdg.cells).set (i * 4) (.int .i64 y.f)).set (i * 4 + 1) (.int .i64 y.t)).set (i * 4 + 2) (.bool y.neg)).set (i * 4 + 3) (.int .i64 y.r)
  | [], i => by simp
  | a :: l, 0 => by simp [elEdg]
  | a :: l, i + 1 => by
    rw [List.set_cons_succ, List.flatMap_cons, edg_flat_set y l i, List.flatMap_cons]
    rw [show (i + 1) * 4 = i * 4 + 1 + 1 + 1 + 1 by omega, show i * 4 + 1 + 1 + 1 + 1 + 2 = i * 4 + 2 + 1 + 1 + 1 + 1 by omega, show i * 4 + 1 + 1 + 1 + 1 + 3 = i * 4 + 3 + 1 + 1 + 1 + 1 by omega]
    rfl
theorem grow_num {α : Type} {E : El α} {e : TypeId} {base : Nat} {w : World} {ao : Option Addr} {cap n : Nat} {l : List α} (h : Grow E e base w (.slice ao n cap) l) : n = l.length := by
  obtain ⟨ao, c, e1, _⟩ := h.shape
  injection e1
theorem growE_other {e : TypeId} {base : Nat} {w w' : World} {v : Value} {l : List Edg} {row : Option Nat} (h : Grow elEdg e base w v l) (hg : w.grownBy w' row) (hne : v.ownBlock = none ∨ v.ownBlock ≠ row) : Grow elEdg e base w' v l := ⟨h.1.kept hg hne, fun x hx => h.2 x hx⟩
theorem edg_at {e : TypeId} {base : Nat} {w : World} {g cap n : Nat} {l : List Edg} (h : Grow elEdg e base w (.slice (some ⟨g, 0, none⟩) n cap) l) {i : Nat} {x : Edg} (hx : l[i]? = some x) :
    (w.cell? ⟨g, i * 4, none⟩ = some (.int .i64 x.f) ∧ w.cell? ⟨g, i * 4 + 1, none⟩ = some (.int .i64 x.t) ∧ w.cell? ⟨g, i * 4 + 2, none⟩ = some (.bool x.neg) ∧ w.cell? ⟨g, i * 4 + 3, none⟩ = some (.int .i64 x.r)) ∧ (∀ j, w.frozen? ⟨g, j, none⟩ = false) := by
  have hn := grow_num h
  subst hn
  exact ⟨⟨own_at h.1 (flatE_at elEdg l i 0 x hx (by decide)), own_at h.1 (flatE_at elEdg l i 1 x hx (by decide)), own_at h.1 (flatE_at elEdg l i 2 x hx (by decide)), own_at h.1 (flatE_at elEdg l i 3 x hx (by decide))⟩, fun j => h.1.frozenAt j⟩
/-- An edge of a list of one's own written over. -/
theorem Grow.setEdg {e : TypeId} {base : Nat} {w : World} {g cap n : Nat} {l : List Edg} (h : Grow elEdg e base w (.slice (some ⟨g, 0, none⟩) n cap) l) (i : Nat) {y : Edg} (hy : I64 y.f ∧ I64 y.t ∧ I64 y.r) :
    Grow elEdg e base ((((w.setCell ⟨g, i * 4, none⟩ (.int .i64 y.f)).setCell ⟨g, i * 4 + 1, none⟩ (.int .i64 y.t)).setCell ⟨g, i * 4 + 2, none⟩ (.bool y.neg)).setCell ⟨g, i * 4 + 3, none⟩ (.int .i64 y.r)) (.slice (some ⟨g, 0, none⟩) n cap) (l.set i y) ∧
      w.grownBy ((((w.setCell ⟨g, i * 4, none⟩ (.int .i64 y.f)).setCell ⟨g, i * 4 + 1, none⟩ (.int .i64 y.t)).setCell ⟨g, i * 4 + 2, none⟩ (.bool y.neg)).setCell ⟨g, i * 4 + 3, none⟩ (.int .i64 y.r)) (some g) := by
  have hn := grow_num h
  subst hn
  obtain ⟨a1, b1⟩ := h.1.stored (i * 4) (.int .i64 y.f)
  obtain ⟨a2, b2⟩ := a1.stored (i * 4 + 1) (.int .i64 y.t)
  obtain ⟨a3, b3⟩ := a2.stored (i * 4 + 2) (.bool y.neg)
  obtain ⟨a4, b4⟩ := a3.stored (i * 4 + 3) (.int .i64 y.r)
  have ht : ∀ {u v x : World} {r : Option Nat}, u.grownBy v r → v.grownBy x r → u.grownBy x r := fun p q => ⟨q.os.trans p.os, q.tape.trans p.tape, q.output.trans p.output, Nat.le_trans p.size q.size, fun k hk hr => (q.block k (Nat.lt_of_lt_of_le hk p.size) hr).trans (p.block k hk hr)⟩
  refine ⟨Grow.of_own (n := l.length) (by simp) (by rw [edg_flat_set]; exact a4) ?_, ht b1 (ht b2 (ht b3 b4))⟩
  intro z hz V F
  rcases List.mem_or_eq_of_mem_set hz with h3 | h3
  · exact h.2 z h3
  · rw [h3]; exact hy
theorem marks_succ {x : Int} {n i : Nat} {m : List Edg} (h : m.length = n ∧ ∀ j, j < i → m[j]? = some (mkE x)) (hi : i < n) : (m.set i (mkE x)).length = n ∧ ∀ j, j < i + 1 → (m.set i (mkE x))[j]? = some (mkE x) := by
  refine ⟨by rw [List.length_set]; exact h.1, fun j hj => ?_⟩
  rw [List.getElem?_set]
  by_cases hij : i = j
  · rw [if_pos hij, if_pos (by rw [h.1]; exact hi)]
  · rw [if_neg hij]; exact h.2 j (by omega)
theorem marks_all {x : Int} {n : Nat} {m : List Edg} (h : m.length = n ∧ ∀ j, j < n → m[j]? = some (mkE x)) : m = List.replicate n (mkE x) := by
  refine List.eq_replicate_iff.2 ⟨h.1, fun b hb => ?_⟩
  obtain ⟨j, hj⟩ := List.getElem?_of_mem hb
  have h1 := h.2 j (by rw [← h.1]; exact (List.getElem?_eq_some_iff.1 hj).1)
  rw [hj] at h1
  exact Option.some.inj h1
theorem own_apartE {v v1 v2 : Value} {S : Nat} (ho : v.ownBlock = v1.ownBlock ∨ ∀ k, v.ownBlock = some k → S ≤ k) (hne : v1.ownBlock = none ∨ v1.ownBlock ≠ v2.ownBlock) (hlt : ∀ k, v2.ownBlock = some k → k < S) : v.ownBlock = none ∨ v.ownBlock ≠ v2.ownBlock := by
  rcases ho with h | h
  · rw [h]; exact hne
  · rcases Option.eq_none_or_eq_some v.ownBlock with h3 | ⟨k, h3⟩
    · exact .inl h3
    · exact .inr fun e => by have h4 := h k h3; have h5 := hlt k (by rw [← e]; exact h3); omega
theorem rep_at {α : Type} {n i : Nat} (x : α) (h : i < n) : (List.replicate n x)[i]? = some x := by rw [List.getElem?_replicate, if_pos h]
end Go.Proofs.Ytjifhmlfnnagcaa

namespace Go.Proofs.Ytjifhmlfnnagcaa
set_option linter.unusedSimpArgs false
set_option linter.unusedVariables false
open Go.RowKit Go.Maps

/-- A slice in a cell. -/
def elSl : El Value where
  cells v := [v]
  size := 1
  pos := by decide
  len _ := rfl
  ok _ _ v := v.oneCell' = true
  one h u hu := by simp only [List.mem_singleton] at hu; rw [hu]; exact h
  move h _ := h
theorem Try.infoSl8 : (Try.prog.info? 33).map (fun i => (i.zero, i.size, i.bytes)) = some (some (.slice none 0 0), 1, 24) := by kernel_rfl

theorem growI_other {α : Type} {E : El α} {e : TypeId} {base : Nat} {w w' : World} {v : Value} {l : List α} {row : Option Nat} (hE : ∀ x ∈ l, ∀ (V : World) F, E.ok V F x) (h : Grow E e base w v l) (hg : w.grownBy w' row) (hne : v.ownBlock = none ∨ v.ownBlock ≠ row) : Grow E e base w' v l := ⟨h.1.kept hg hne, fun x hx => hE x hx _ _⟩
theorem growI_ok {e : TypeId} {base : Nat} {w : World} {v : Value} {l : List Int} (h : Grow elInt e base w v l) : ∀ x ∈ l, ∀ (V : World) F, elInt.ok V F x := fun x hx _ _ => h.2 x hx
theorem grown_refl (w : World) (row : Option Nat) : w.grownBy w row := ⟨rfl, rfl, rfl, Nat.le_refl _, fun _ _ _ => rfl⟩
theorem grown_cell {w w' : World} {row : Option Nat} (hg : w.grownBy w' row) {b i : Nat} {u : Value} (hc : w.cell? ⟨b, i, none⟩ = some u) (hne : row ≠ some b) : w'.cell? ⟨b, i, none⟩ = some u := by
  have hlt : b < w.heap.size := by
    rcases Nat.lt_or_ge b w.heap.size with h | h
    · exact h
    · unfold World.cell? at hc; rw [Array.getElem?_eq_none h] at hc; cases hc
  rw [World.cell?_of_block (w := w) (hg.block b hlt fun e => hne e.symm)]
  exact hc

/-- The lists that the slices vs, which stand in block b, lead to are one's own; the first k hold their marks alone. -/
structure Alo (base b : Nat) (w : World) (vs : List Value) (k : Nat) : Prop where
  out : ∀ (i : Nat) (v : Value), vs[i]? = some v → w.cell? ⟨b, i, none⟩ = some v
  own : ∀ (i : Nat) (v : Value), vs[i]? = some v → ∃ l, Grow elInt 3 base w v l ∧ l.length ≤ 1048576 ∧ (i < k → ∀ y ∈ l, y = -1 - (i : Int))
/-- They lie apart. -/
structure Apt (b : Nat) (vs : List Value) : Prop where
  ne : ∀ (i : Nat) (v : Value), vs[i]? = some v → v.ownBlock ≠ some b
  pw : ∀ (i j : Nat) (u v : Value), i ≠ j → vs[i]? = some u → vs[j]? = some v → u.ownBlock = none ∨ u.ownBlock ≠ v.ownBlock

theorem Alo.put {base b : Nat} {w w' : World} {vs : List Value} {k k' i : Nat} {v : Value} {l : List Int} (h : Alo base b w vs k) (hA : Apt b vs) (hi : vs[i]? = some v) (hg : w.grownBy w' v.ownBlock) (hG : Grow elInt 3 base w' v l) (hl : l.length ≤ 1048576) (hk : ∀ j, j ≠ i → j < k' → j < k) (hm : i < k' → ∀ y ∈ l, y = -1 - (i : Int)) : Alo base b w' vs k' := by
  refine ⟨fun j u hj => grown_cell hg (h.out j u hj) (hA.ne i v hi), fun j u hj => ?_⟩
  by_cases e : j = i
  · subst e
    rw [hi] at hj
    cases hj
    exact ⟨l, hG, hl, hm⟩
  · obtain ⟨m, h1, h2, h3⟩ := h.own j u hj
    exact ⟨m, growI_other (growI_ok h1) h1 hg (hA.pw j i u v e hj hi), h2, fun hj => h3 (hk j e hj)⟩
theorem Alo.kept {base b : Nat} {w w' : World} {vs : List Value} {k : Nat} (h : Alo base b w vs k) (hb : Below w.heap.size w w') : Alo base b w' vs k :=
  ⟨fun i v hi => kept_cell hb (h.out i v hi), fun i v hi => by obtain ⟨l, h1, h2⟩ := h.own i v hi; exact ⟨l, h1.kept hb, h2⟩⟩
theorem Grow.setI {e : TypeId} {base : Nat} {w : World} {g cap n : Nat} {l : List Int} (h : Grow elInt e base w (.slice (some ⟨g, 0, none⟩) n cap) l) {j : Nat} (hj : j < l.length) {x : Int} (hx : I64 x) :
    (∃ y, w.cell? ⟨g, j, none⟩ = some (.int .i64 y)) ∧ w.frozen? ⟨g, j, none⟩ = false ∧ Grow elInt e base (w.setCell ⟨g, j, none⟩ (.int .i64 x)) (.slice (some ⟨g, 0, none⟩) n cap) (l.set j x) ∧ base ≤ g ∧ w.grownBy (w.setCell ⟨g, j, none⟩ (.int .i64 x)) (some g) := by
  obtain ⟨⟨y, -, h1⟩, h2, h3, h4⟩ := h.setInt hj hx
  have hn := grow_num h
  subst hn
  exact ⟨⟨y, h1⟩, h2, h3, h4, (h.1.stored j (.int .i64 x)).2⟩
theorem imarks_succ {x : Int} {n i : Nat} {m : List Int} (h : m.length = n ∧ ∀ j, j < i → m[j]? = some x) (hi : i < n) : (m.set i x).length = n ∧ ∀ j, j < i + 1 → (m.set i x)[j]? = some x := by
  refine ⟨by rw [List.length_set]; exact h.1, fun j hj => ?_⟩
  rw [List.getElem?_set]
  by_cases hij : i = j
  · rw [if_pos hij, if_pos (by rw [h.1]; exact hi)]
  · rw [if_neg hij]; exact h.2 j (by omega)
theorem imarks_all {x : Int} {n : Nat} {m : List Int} (h : m.length = n ∧ ∀ j, j < n → m[j]? = some x) : ∀ y ∈ m, y = x := by
  intro y hy
  obtain ⟨j, hj⟩ := List.getElem?_of_mem hy
  have h1 := h.2 j (by rw [← h.1]; exact (List.getElem?_eq_some_iff.1 hj).1)
  rw [hj] at h1
  exact Option.some.inj h1
theorem grow_cellI {e : TypeId} {base : Nat} {w : World} {g cap n : Nat} {l : List Int} (h : Grow elInt e base w (.slice (some ⟨g, 0, none⟩) n cap) l) {x : Int} (hx : ∀ y ∈ l, y = x) {j : Nat} (hj : j < n) : w.cell? ⟨g, j, none⟩ = some (.int .i64 x) := by
  have hn := grow_num h
  subst hn
  obtain ⟨⟨y, hy, h1⟩, -⟩ := h.setInt hj (x := 0) ⟨by decide, by decide⟩
  rw [hx y (List.mem_of_getElem? hy)] at h1
  exact h1

theorem Alo.above {base b S : Nat} {w w' : World} {vs : List Value} {k : Nat} {row : Option Nat} (h : Alo base b w vs k) (hg : w.grownBy w' row) (hr : ∀ t, row = some t → S ≤ t) (hb : b < S) (hv : ∀ (i : Nat) (v : Value), vs[i]? = some v → ∀ t, v.ownBlock = some t → t < S) : Alo base b w' vs k :=
  ⟨fun i v hi => grown_cell hg (h.out i v hi) (fun e => by have := hr b e; omega), fun i v hi => by
    obtain ⟨l, h1, h2⟩ := h.own i v hi
    refine ⟨l, growI_other (growI_ok h1) h1 hg ?_, h2⟩
    rcases Option.eq_none_or_eq_some v.ownBlock with h3 | ⟨t, h3⟩
    · exact .inl h3
    · exact .inr fun e => by have h4 := hv i v hi t h3; have h5 := hr t (by rw [← e]; exact h3); omega⟩
theorem sl_at {e : TypeId} {base : Nat} {w : World} {g cap n : Nat} {l : List Value} (h : Grow elSl e base w (.slice (some ⟨g, 0, none⟩) n cap) l) {i : Nat} {x : Value} (hx : l[i]? = some x) : w.cell? ⟨g, i, none⟩ = some x := by
  have h1 := flatE_at elSl l i 0 x hx (by decide)
  simp only [elSl, Nat.mul_one, Nat.add_zero, List.getElem?_cons_zero] at h1
  have h2 := grow_num h
  subst h2
  exact own_at h.1 h1
theorem own_apart2 {v v1 lv : Value} {S T : Nat} (ho : v.ownBlock = v1.ownBlock ∨ ∀ k, v.ownBlock = some k → T ≤ k) (h1 : ∀ k, v1.ownBlock = some k → k < S) (hl : ∀ k, lv.ownBlock = some k → S ≤ k ∧ k < T) : v.ownBlock = none ∨ v.ownBlock ≠ lv.ownBlock := by
  rcases Option.eq_none_or_eq_some v.ownBlock with h3 | ⟨k, h3⟩
  · exact .inl h3
  · refine .inr fun e => ?_
    have h4 := hl k (by rw [← e]; exact h3)
    rcases ho with h5 | h5
    · have := h1 k (by rw [← h5]; exact h3); omega
    · have := h5 k h3; omega

/-- The longer lists so far. -/
structure Lgr (base S : Nat) (w : World) (vs ws : List Value) (lv : Value) : Prop where
  grow : Grow elSl 33 S w lv ws
  own : ∀ (i : Nat) (u : Value), ws[i]? = some u → ∃ (v : Value) (m : List Int), vs[i]? = some v ∧ Grow elInt 3 base w u m ∧ m.length ≤ 1048578 ∧ (∀ y ∈ m, y = -1 - (i : Int)) ∧ (u.ownBlock = v.ownBlock ∨ ∀ k, u.ownBlock = some k → S ≤ k) ∧ (u.ownBlock = none ∨ u.ownBlock ≠ lv.ownBlock)

theorem Lgr.kept {base S : Nat} {w w' : World} {vs ws : List Value} {lv : Value} (h : Lgr base S w vs ws lv) (hb : Below w.heap.size w w') : Lgr base S w' vs ws lv :=
  ⟨h.grow.kept hb, fun i u hi => by obtain ⟨v, m, h1, h2, h3⟩ := h.own i u hi; exact ⟨v, m, h1, h2.kept hb, h3⟩⟩
/-- An append behind the list that stands at place ws.length. -/
theorem Lgr.other {base S b : Nat} {w w' : World} {vs ws : List Value} {lv v : Value} (h : Lgr base S w vs ws lv) (hA : Apt b vs) (hi : vs[ws.length]? = some v) (hv : ∀ k, v.ownBlock = some k → k < S) (hg : w.grownBy w' v.ownBlock) : Lgr base S w' vs ws lv := by
  refine ⟨growI_other (fun x hx _ _ => h.grow.2 x hx) h.grow hg ?_, fun i u hu => ?_⟩
  · rcases Option.eq_none_or_eq_some lv.ownBlock with h3 | ⟨k, h3⟩
    · exact .inl h3
    · exact .inr fun e => by have h4 := own_new h.grow.1 k h3; have h5 := hv k (by rw [← e]; exact h3); omega
  · obtain ⟨x, m, h1, h2, h3, h4, h5, h6⟩ := h.own i u hu
    have hlt := (List.getElem?_eq_some_iff.1 hu).1
    refine ⟨x, m, h1, growI_other (growI_ok h2) h2 hg ?_, h3, h4, h5, h6⟩
    rcases h5 with h5 | h5
    · rw [h5]; exact hA.pw i _ x v (by omega) h1 hi
    · rcases Option.eq_none_or_eq_some u.ownBlock with h7 | ⟨k, h7⟩
      · exact .inl h7
      · exact .inr fun e => by have h8 := h5 k h7; have h9 := hv k (by rw [← e]; exact h7); omega
/-- The new list put behind. -/
theorem Lgr.push {base S : Nat} {w w' : World} {vs ws : List Value} {lv lv' u v : Value} {m : List Int} (h : Lgr base S w vs ws lv) (hg : w.grownBy w' lv.ownBlock) (hG : Grow elSl 33 S w' lv' (ws ++ [u])) (hat : lv'.ownBlock = lv.ownBlock ∨ ∀ k, lv'.ownBlock = some k → w.heap.size ≤ k)
    (hi : vs[ws.length]? = some v) (hu : Grow elInt 3 base w u m) (hm : m.length ≤ 1048578) (hy : ∀ y ∈ m, y = -1 - (ws.length : Int)) (ho : u.ownBlock = v.ownBlock ∨ ∀ k, u.ownBlock = some k → S ≤ k) (hn : u.ownBlock = none ∨ u.ownBlock ≠ lv.ownBlock) : Lgr base S w' vs (ws ++ [u]) lv' := by
  have hne : ∀ (x : Value) (l : List Int), Grow elInt 3 base w x l → (x.ownBlock = none ∨ x.ownBlock ≠ lv.ownBlock) → (x.ownBlock = none ∨ x.ownBlock ≠ lv'.ownBlock) := fun x l hx h1 => by
    rcases h1 with h1 | h1
    · exact .inl h1
    · rcases hat with h2 | h2
      · rw [h2]; exact .inr h1
      · rcases Option.eq_none_or_eq_some x.ownBlock with h3 | ⟨k, h3⟩
        · exact .inl h3
        · exact .inr fun e => by have h4 := own_lt6 hx.1 k h3; have h5 := h2 k (by rw [← e]; exact h3); omega
  refine ⟨hG, fun i x hx => ?_⟩
  rcases Nat.lt_or_ge i ws.length with hlt | hge
  · rw [List.getElem?_append_left hlt] at hx
    obtain ⟨y, l, h1, h2, h3, h4, h5, h6⟩ := h.own i x hx
    exact ⟨y, l, h1, growI_other (growI_ok h2) h2 hg h6, h3, h4, h5, hne x l h2 h6⟩
  · rw [List.getElem?_append_right hge] at hx
    obtain ⟨hz, hx2⟩ : i - ws.length = 0 ∧ u = x := by
      rcases Nat.eq_zero_or_pos (i - ws.length) with h0 | h0
      · rw [h0] at hx; exact ⟨h0, Option.some.inj hx⟩
      · rw [List.getElem?_eq_none (by simp; omega)] at hx; cases hx
    subst hx2
    obtain rfl : i = ws.length := by omega
    exact ⟨v, m, hi, growI_other (growI_ok hu) hu hg hn, hm, hy, ho, hne u m hu hn⟩

set_option maxRecDepth 100000 in
set_option maxHeartbeats 2000000 in
theorem alone_any {base b c : Nat} {w : World} {vs : List Value} (h : Alo base b w vs 0) (hA : Apt b vs) (hl : vs.length ≤ 1048576) (hb : base ≤ w.heap.size) :
    Calls Try.prog 11 #[.slice (some ⟨b, 0, none⟩) vs.length c] w fun e w' => e = .returned (.bool true) ∧ Below base w w' := by
  obtain ⟨is, his, hs0, hs1, hs2⟩ := info_parts Try.infoSl8
  obtain ⟨ii, hii, hz0, hz1, hz2⟩ := info_parts Try.infoInt8
  obtain ⟨n, hn⟩ : ∃ n, vs.length = n := ⟨_, rfl⟩
  rw [hn] at hl ⊢
  have HN := hide hn
  have HH := hide h
  have HA := hide hA
  have HBb := hide hb
  have HLow : Hid (∀ (i : Nat) (v : Value), vs[i]? = some v → ∀ k, v.ownBlock = some k → k < w.heap.size) := fun i v hi k hk => by obtain ⟨l, h1, -⟩ := h.own i v hi; exact own_lt6 h1.1 k hk
  have HBl : Hid (0 < n → b < w.heap.size) := fun hp => by
    obtain ⟨v, hv⟩ : ∃ v, vs[0]? = some v := ⟨_, List.getElem?_eq_getElem (by omega)⟩
    have hc := h.out 0 v hv
    rcases Nat.lt_or_ge b w.heap.size with h | h
    · exact h
    · unfold World.cell? at hc; rw [Array.getElem?_eq_none h] at hc; cases hc
  clear h hA hb hn
  go_enter Try.func11, Try.ntmps11
  go_wp2
  go_loopw [3] (fun y wl => ∃ i : Nat, i ≤ n ∧ y = .int .i64 i ∧ Hid (Alo base b wl vs i) ∧ Hid (Below base w wl)) (fun y _ => n - (intOf y).toNat)
  case atStart => exact ⟨0, by omega, rfl, HH, Below.refl _ _⟩
  case round =>
    clear HH
    obtain ⟨i, hi, rfl, HH, HB⟩ := hrel
    by_cases hlt : i < n
    · have hi1 : (i : Int) < (n : Int) := by omega
      have hi0 : (0 : Int) ≤ (i : Int) := by omega
      obtain ⟨v, hv⟩ : ∃ v, vs[i]? = some v := ⟨_, List.getElem?_eq_getElem (by rw [HN.out]; exact hlt)⟩
      have HV := hide hv
      obtain ⟨l, hg, hll, -⟩ := HH.out.own i v hv
      obtain ⟨a1, c1, hv1, -, -⟩ := hg.shape
      obtain ⟨q, hq⟩ : ∃ q, l.length = q := ⟨_, rfl⟩
      rw [hq] at hv1 hll
      subst hv1
      have HG := hide hg
      have HQ := hide hq
      clear hg hv hq
      go_wp2
      go_loopw [4] (fun y wl => ∃ (j : Nat) (m : List Int), j ≤ q ∧ y = .int .i64 j ∧ Hid (m.length = q ∧ ∀ t, t < j → m[t]? = some (-1 - (i : Int))) ∧ Hid (Grow elInt 3 base wl (.slice a1 q c1) m) ∧ Hid (Alo base b wl vs i) ∧ Hid (Below base w wl)) (fun y _ => q - (intOf y).toNat)
      case atStart => exact ⟨0, l, by omega, rfl, ⟨HQ.out, fun j hj => absurd hj (Nat.not_lt_zero j)⟩, HG, HH, HB⟩
      case round =>
        clear HG HH HB HQ
        obtain ⟨j, m, hj, rfl, HM, HG, HH, HB⟩ := hrel
        have x0 := HH.out.out i _ HV.out
        by_cases hlt2 : j < q
        · have hj1 : (j : Int) < (q : Int) := by omega
          have hj0 : (0 : Int) ≤ (j : Int) := by omega
          obtain ⟨g, cap, hgv, hbg, -⟩ := HG.out.1.form (by rw [HM.out.1]; omega)
          rw [HM.out.1] at hgv
          cases hgv
          obtain ⟨⟨y, y0⟩, f0, hs, hbg2, hgr⟩ := HG.out.setI (j := j) (by rw [HM.out.1]; exact hlt2) (x := -1 - (i : Int)) ⟨by omega, by omega⟩
          have HMs := hide (imarks_succ HM.out hlt2)
          have HS := hide hs
          have HAs := hide (HH.out.put HA.out HV.out hgr hs (by rw [HMs.out.1]; omega) (k' := i) (fun j _ hj => hj) (fun h => absurd h (Nat.lt_irrefl _)))
          have HBg := hide hbg
          clear hs hgr hbg hbg2
          go_wp2
          go_roundw
          case rel => exact ⟨j + 1, _, by omega, by go_num, HMs, HS, HAs, HB.out.setCell HBg.out _⟩
          case measure => simp [intOf]; omega
        · obtain rfl : q = j := by omega
          have hj1 : ¬ (q : Int) < (q : Int) := by omega
          have HAs := hide (HH.out.put HA.out HV.out (grown_refl _ _) HG.out (by rw [HM.out.1]; omega) (k' := i + 1) (fun j hj hk => by omega) (fun _ => imarks_all HM.out))
          go_wp2
          go_roundw
          case rel => exact ⟨i + 1, by omega, by go_num, HAs, HB⟩
          case measure => simp [intOf]; omega
    · obtain rfl : n = i := by omega
      have hi1 : ¬ (n : Int) < (n : Int) := by omega
      go_wp2
      go_loopw [5, 6] (fun lv y wl => ∃ (i : Nat) (ws : List Value), i ≤ n ∧ y = .int .i64 i ∧ Hid (ws.length = i) ∧ Hid (Alo base b wl vs n) ∧ Hid (Lgr base w.heap.size wl vs ws lv) ∧ Hid (Below base w wl)) (fun _ y _ => n - (intOf y).toNat)
      case atStart => exact ⟨0, [], by omega, rfl, rfl, HH, ⟨Grow.nil _ _ _ _, fun i u hu => by simp at hu⟩, HB⟩
      case round =>
        clear HH HB
        obtain ⟨i, ws, hi, rfl, HW, HH, HL, HB⟩ := hrel
        obtain ⟨la, lc, hlv, -, -⟩ := HL.out.grow.shape
        rw [HW.out] at hlv
        subst hlv
        by_cases hlt : i < n
        · have hi1 : (i : Int) < (n : Int) := by omega
          have hi0 : (0 : Int) ≤ (i : Int) := by omega
          obtain ⟨v, hv⟩ : ∃ v, vs[i]? = some v := ⟨_, List.getElem?_eq_getElem (by rw [HN.out]; exact hlt)⟩
          have HV := hide hv
          have y0 := HH.out.out i v hv
          obtain ⟨l, hg, hll, hmk⟩ := HH.out.own i v hv
          obtain ⟨a1, c1, hv1, -, -⟩ := hg.shape
          obtain ⟨q, hq⟩ : ∃ q, l.length = q := ⟨_, rfl⟩
          rw [hq] at hv1 hll
          subst hv1
          have HG := hide hg
          have HQ := hide hq
          have HMk := hide (hmk hlt)
          have hx64 : I64 (-1 - (i : Int)) := ⟨by omega, by omega⟩
          have HX := hide hx64
          have HYs : Hid (∀ z ∈ l ++ [-1 - (i : Int), -1 - (i : Int)], z = -1 - (i : Int)) := fun z hz => by
            rcases List.mem_append.1 hz with h | h
            · exact hmk hlt z h
            · simpa using h
          have HYl : Hid ((l ++ [-1 - (i : Int), -1 - (i : Int)]).length = q + 2) := by show _ = _; rw [List.length_append, hq]; rfl
          have HSi : Hid (w.heap.size ≤ wr.heap.size) := HB.out.size
          have HGa := hide (HG.out.kept (belo1 wr (.cells #[.int .i64 (-1 - (i : Int)), .int .i64 (-1 - (i : Int))] 3)))
          have HHa := hide (HH.out.kept (belo1 wr (.cells #[.int .i64 (-1 - (i : Int)), .int .i64 (-1 - (i : Int))] 3)))
          have HLa := hide (HL.out.kept (belo1 wr (.cells #[.int .i64 (-1 - (i : Int)), .int .i64 (-1 - (i : Int))] 3)))
          have HBa := hide (HB.out.alloc (Nat.le_trans HBb.out HB.out.size) (.cells #[.int .i64 (-1 - (i : Int)), .int .i64 (-1 - (i : Int))] 3))
          have HLl : Hid (∀ k, (Value.slice la i lc).ownBlock = some k → w.heap.size ≤ k ∧ k < wr.heap.size) := fun k hk => ⟨own_new HL.out.grow.1 k hk, own_lt6 HL.out.grow.1 k hk⟩
          clear hg hv hq hmk hx64 HH HL HB HG
          go_wp2_with (first
            | (at_builtin; refine wpList_pushs_keep (w0 := w) elInt rfl _ _ 33 rfl base 3 ii _ 8 Try.underlying33 hii hz0 hz1 hz2 rfl (by decide) _ l rfl HGa.out [-1 - (i : Int), -1 - (i : Int)] 2 rfl wr.heap.size 2 rfl (fun j u hu => new_cells (w := wr) (cs := #[.int .i64 (-1 - (i : Int)), .int .i64 (-1 - (i : Int))]) j u hu) (fun z hz _ _ => by rw [HYs.out z hz]; exact HX.out) (by rw [HQ.out]; omega) HBa.out (Nat.le_trans HBb.out HBa.out.size) ?_; intro v3 W3 HX3 HG3 HB3 HGr3 HOw3; obtain ⟨g3, c3, hv3, -, -⟩ := HX3.out.1.form (by rw [HYl.out]; omega); rw [HYl.out] at hv3; subst hv3; have hz3 := belo1 W3 (.cells #[.slice (some ⟨g3, 0, none⟩) (q + 2) c3] 33); have HHc := hide ((HHa.out.put HA.out HV.out HGr3.out HG3.out (by rw [HQ.out]; omega) (k' := n) (fun j _ hj => hj) (fun _ => HMk.out)).kept hz3); have HLc := hide ((HLa.out.other HA.out (by rw [HW.out]; exact HV.out) (HLow.out i _ HV.out) HGr3.out).kept hz3); have HXc := hide (HX3.out.kept hz3); have HBc := hide (HB3.out.alloc (Nat.le_trans HBb.out HB3.out.size) (.cells #[.slice (some ⟨g3, 0, none⟩) (q + 2) c3] 33)); have hsz : w.heap.size ≤ (W3.alloc (.cells #[.slice (some ⟨g3, 0, none⟩) (q + 2) c3] 33)).heap.size := HBc.out.size; have HSz := hide hsz; have ho3 := HOw3.out; have hal := (belo1 wr (.cells #[.int .i64 (-1 - (i : Int)), .int .i64 (-1 - (i : Int))] 3)).size; have HOa : Hid ((Value.slice (some ⟨g3, 0, none⟩) (q + 2) c3).ownBlock = (Value.slice a1 q c1).ownBlock ∨ ∀ k, (Value.slice (some ⟨g3, 0, none⟩) (q + 2) c3).ownBlock = some k → wr.heap.size ≤ k) := ho3.imp id (fun h k hk => Nat.le_trans hal (h k hk)); clear hz3 hsz ho3 hal HX3 HG3 HB3 HGr3 HOw3 HGa HHa HLa HBa)
            | (at_builtin; refine wpList_pushs_keep (w0 := W3.alloc (.cells #[.slice (some ⟨g3, 0, none⟩) (q + 2) c3] 33)) elSl rfl _ _ 26 rfl w.heap.size 33 is _ 24 Try.underlying26 his hs0 hs1 hs2 rfl (by decide) _ ws rfl HLc.out.grow [.slice (some ⟨g3, 0, none⟩) (q + 2) c3] 1 rfl W3.heap.size 1 rfl (fun j u hu => new_cells (w := W3) (cs := #[.slice (some ⟨g3, 0, none⟩) (q + 2) c3]) j u hu) (fun z hz _ _ => by rcases List.mem_append.1 hz with h | h; exact HLc.out.grow.2 z h; rw [List.mem_singleton.1 h]; rfl) (by rw [HW.out]; omega) (Below.refl _ _) HSz.out ?_; intro v4 W4 HX4 HG4 HB4 HGr4 HOw4; obtain ⟨g4, c4, hv4, -, -⟩ := HX4.out.1.form (by rw [List.length_append]; exact Nat.succ_pos _); rw [show (ws ++ [Value.slice (some ⟨g3, 0, none⟩) (q + 2) c3]).length = i + 1 by rw [List.length_append, HW.out]; rfl] at hv4; subst hv4))
          have HBl2 := hide (HBl.out (by omega))
          have HH4 := hide (HHc.out.above (S := w.heap.size) HGr4.out (fun t ht => (HLl.out t ht).1) HBl2.out HLow.out)
          have HL4 := hide (HLc.out.push HGr4.out HX4.out HOw4.out (v := .slice a1 q c1) (by rw [HW.out]; exact HV.out) HXc.out (by rw [HYl.out]; omega) (by rw [HW.out]; exact HYs.out) (HOa.out.imp id fun h k hk => Nat.le_trans HSi.out (h k hk)) (own_apart2 HOa.out (HLow.out i _ HV.out) HLl.out))
          have HBn := hide (HBc.out.trans (HB4.out.mono HBb.out))
          have HWn : Hid ((ws ++ [Value.slice (some ⟨g3, 0, none⟩) (q + 2) c3]).length = i + 1) := by show _ = _; rw [List.length_append, HW.out]; rfl
          clear HX4 HG4 HB4 HGr4 HOw4 HHc HLc HXc HBc
          go_wp2
          go_roundw
          case rel => exact ⟨i + 1, _, by omega, by go_num, HWn, HH4, HL4, HBn⟩
          case measure => simp [intOf]; omega
        · obtain rfl : n = i := by omega
          have hi1 : ¬ (n : Int) < (n : Int) := by omega
          obtain ⟨V, hV⟩ : ∃ V, V = wr := ⟨_, rfl⟩
          subst hV
          go_wp2
          go_loopw [7] (fun y wl => ∃ i : Nat, i ≤ n ∧ y = .int .i64 i ∧ Hid (Below base w wl) ∧ Hid (Below V.heap.size V wl)) (fun y _ => n - (intOf y).toNat)
          case atStart => exact ⟨0, by omega, rfl, HB, Below.refl _ _⟩
          case round =>
            clear HB
            obtain ⟨i, hi, rfl, HB, HBW⟩ := hrel
            by_cases hlt : i < n
            · have hi1 : (i : Int) < (n : Int) := by omega
              have hi0 : (0 : Int) ≤ (i : Int) := by omega
              obtain ⟨gl, cl, hgl, -, -⟩ := HL.out.grow.1.form (by rw [HW.out]; omega)
              rw [HW.out] at hgl
              cases hgl
              obtain ⟨v, hv⟩ : ∃ v, vs[i]? = some v := ⟨_, List.getElem?_eq_getElem (by rw [HN.out]; exact hlt)⟩
              obtain ⟨u, hu⟩ : ∃ u, ws[i]? = some u := ⟨_, List.getElem?_eq_getElem (by rw [HW.out]; exact hlt)⟩
              obtain ⟨l, hg, hll, hmk⟩ := HH.out.own i v hv
              obtain ⟨-, m, -, hgu, hlm, hmm, -, -⟩ := HL.out.own i u hu
              have HV0 := hide (HH.out.out i v hv)
              have HU0 := hide (sl_at HL.out.grow hu)
              obtain ⟨a1, c1, hv1, -, -⟩ := hg.shape
              obtain ⟨a2, c2, hv2, -, -⟩ := hgu.shape
              obtain ⟨q, hq⟩ : ∃ q, l.length = q := ⟨_, rfl⟩
              obtain ⟨r, hr⟩ : ∃ r, m.length = r := ⟨_, rfl⟩
              rw [hq] at hv1 hll
              rw [hr] at hv2 hlm
              subst hv1 hv2
              have HGl := hide hg
              have HGm := hide hgu
              have HQ := hide hq
              have HR := hide hr
              have HMl := hide (hmk hlt)
              have HMm := hide hmm
              have z0 := kept_cell HBW.out HU0.out
              clear hg hgu hq hr hmk hmm hv hu
              go_wp2
              go_loopw [8] (fun y wl => ∃ j : Nat, j ≤ r ∧ y = .int .i64 j ∧ Hid (Below base w wl) ∧ Hid (Below V.heap.size V wl)) (fun y _ => r - (intOf y).toNat)
              case atStart => exact ⟨0, by omega, rfl, HB, HBW⟩
              case round =>
                clear HB HBW z0
                obtain ⟨j, hj, rfl, HB, HBW⟩ := hrel
                have z0 := kept_cell HBW.out HU0.out
                have x0 := kept_cell HBW.out HV0.out
                by_cases hlt2 : j < r
                · have hj1 : (j : Int) < (r : Int) := by omega
                  have hj0 : (0 : Int) ≤ (j : Int) := by omega
                  obtain ⟨g2, k2, hg2, -, -⟩ := HGm.out.1.form (by rw [HR.out]; omega)
                  rw [HR.out] at hg2
                  cases hg2
                  have y0 := kept_cell HBW.out (grow_cellI HGm.out HMm.out hlt2)
                  by_cases hla : j < q
                  · have hk1 : (j : Int) < (q : Int) := by omega
                    obtain ⟨g1, k1, hg1, -, -⟩ := HGl.out.1.form (by rw [HQ.out]; omega)
                    rw [HQ.out] at hg1
                    cases hg1
                    have y1 := kept_cell HBW.out (grow_cellI HGl.out HMl.out hla)
                    go_wp2
                    go_roundw
                    case rel => exact ⟨j + 1, by omega, by go_num, HB, HBW⟩
                    case measure => simp [intOf]; omega
                  · have hk1 : ¬ (j : Int) < (q : Int) := by omega
                    go_wp2
                    go_roundw
                    case rel => exact ⟨j + 1, by omega, by go_num, HB, HBW⟩
                    case measure => simp [intOf]; omega
                · obtain rfl : r = j := by omega
                  have hj1 : ¬ (r : Int) < (r : Int) := by omega
                  go_wp2
                  go_roundw
                  case rel => exact ⟨i + 1, by omega, by go_num, HB, HBW⟩
                  case measure => simp [intOf]; omega
            · obtain rfl : n = i := by omega
              have hi1 : ¬ (n : Int) < (n : Int) := by omega
              go_wp2
              go_ret
              exact ⟨rfl, HB.out⟩
end Go.Proofs.Ytjifhmlfnnagcaa

namespace Go.Proofs.Ytjifhmlfnnagcaa
set_option linter.unusedSimpArgs false
set_option linter.unusedVariables false
open Go.RowKit Go.Maps

def turnE (x : Edg) : Edg := ⟨x.t, x.f, !x.neg, x.r⟩
theorem Grow.front {α : Type} {E : El α} {e : TypeId} {base : Nat} {w : World} {g cap n : Nat} {l m : List α} (h : Grow E e base w (.slice (some ⟨g, 0, none⟩) n cap) (l ++ m)) : Grow E e base w (.slice (some ⟨g, 0, none⟩) l.length cap) l := by
  have hn := grow_num h
  subst hn
  refine ⟨⟨flatE_len E l, ?_⟩, fun x hx => h.2 x (List.mem_append.2 (.inl hx))⟩
  rcases h.1.2 with ⟨h4, _⟩ | ⟨g', cap', cur', h4, h5, h6, h7, h8, h9, h10⟩
  · cases h4
  · simp only [Value.slice.injEq, Option.some.injEq, Addr.mk.injEq, and_true, true_and] at h4
    obtain ⟨rfl, rfl⟩ := h4
    rw [List.length_append] at h7 h10
    refine .inr ⟨g, cap, cur', rfl, h5, h6, by omega, h8, h9, ?_⟩
    have h11 := congrArg (List.take (l.length * E.size)) h10
    rw [List.take_take, Nat.min_eq_left (Nat.mul_le_mul_right _ (by omega)), List.flatMap_append, List.take_left' (flatE_len E l)] at h11
    exact h11
theorem turns_succ {l : List Edg} {i : Nat} {x : Edg} (hx : l[i]? = some x) : ((l.take i).map turnE ++ l.drop i).set i (turnE x) = (l.take (i + 1)).map turnE ++ l.drop (i + 1) := by
  have hi := (List.getElem?_eq_some_iff.1 hx).1
  have hlen : ((l.take i).map turnE).length = i := by rw [List.length_map, List.length_take]; omega
  rw [List.set_append_right _ _ (by omega), hlen, Nat.sub_self, take_snoc8 hx, List.drop_eq_getElem_cons hi, List.set_cons_zero]
  simp
theorem turns_at {l : List Edg} {i : Nat} {x : Edg} (hx : l[i]? = some x) : ((l.take i).map turnE ++ l.drop i)[i]? = some x := by
  have hi := (List.getElem?_eq_some_iff.1 hx).1
  have hlen : ((l.take i).map turnE).length = i := by rw [List.length_map, List.length_take]; omega
  rw [List.getElem?_append_right (by omega), hlen, Nat.sub_self, List.getElem?_drop, Nat.add_zero, hx]

set_option maxRecDepth 100000 in
set_option maxHeartbeats 2000000 in
theorem turn_any {base : Nat} {w : World} {v : Value} {l : List Edg} (h : Grow elEdg 25 base w v l) (hl : l.length ≤ 1048576) :
    Calls Try.prog 12 #[v] w fun e w' => e = .returned (.tuple #[]) ∧ Grow elEdg 25 base w' v (l.map turnE) ∧ Below base w w' := by
  obtain ⟨a1, c1, hv1, -, -⟩ := h.shape
  obtain ⟨n, hn⟩ : ∃ n, l.length = n := ⟨_, rfl⟩
  rw [hn] at hv1 hl
  subst hv1
  have HN := hide hn
  have HG := hide h
  clear h hn
  go_enter Try.func12, Try.ntmps12
  go_wp2
  go_loopw [2] (fun y wl => ∃ i : Nat, i ≤ n ∧ y = .int .i64 i ∧ Hid (Grow elEdg 25 base wl (.slice a1 n c1) ((l.take i).map turnE ++ l.drop i)) ∧ Hid (Below base w wl)) (fun y _ => n - (intOf y).toNat)
  case atStart => exact ⟨0, by omega, rfl, by rw [List.take_zero, List.map_nil, List.drop_zero, List.nil_append]; exact HG, Below.refl _ _⟩
  case round =>
    clear HG
    obtain ⟨i, hi, rfl, HG, HB⟩ := hrel
    have HLn : Hid (((l.take i).map turnE ++ l.drop i).length = n) := by show _ = _; rw [List.length_append, List.length_map, List.length_take, List.length_drop, HN.out]; omega
    by_cases hlt : i < n
    · have hi1 : (i : Int) < (n : Int) := by omega
      have hi0 : (0 : Int) ≤ (i : Int) := by omega
      obtain ⟨x, hx⟩ : ∃ x, l[i]? = some x := ⟨_, List.getElem?_eq_getElem (by rw [HN.out]; exact hlt)⟩
      obtain ⟨g, cap, hgv, hbg, -⟩ := HG.out.1.form (by rw [HLn.out]; omega)
      rw [HLn.out] at hgv
      cases hgv
      obtain ⟨⟨y0, y1, y2, y3⟩, hf⟩ := edg_at HG.out (turns_at hx)
      have f0 := hf (i * 4)
      have f1 := hf (i * 4 + 1)
      have f2 := hf (i * 4 + 2)
      have f3 := hf (i * 4 + 3)
      have hok : I64 x.f ∧ I64 x.t ∧ I64 x.r := HG.out.2 x (List.mem_of_getElem? (turns_at hx))
      obtain ⟨hs, -⟩ := HG.out.setEdg i (y := turnE x) ⟨hok.2.1, hok.1, hok.2.2⟩
      rw [turns_succ hx] at hs
      have HS := hide hs
      have HBg := hide hbg
      clear hs hx hf hbg hok
      go_upto_region 3 with fail
      refine wp_region_last (by kernel_rfl) (fun V => V.cell? ⟨g, i * 4, none⟩ = some (.int .i64 x.f) ∧ V.cell? ⟨g, i * 4 + 1, none⟩ = some (.int .i64 x.t) ∧ V.cell? ⟨g, i * 4 + 2, none⟩ = some (.bool x.neg) ∧ V.cell? ⟨g, i * 4 + 3, none⟩ = some (.int .i64 x.r)) 25 ?_
      have HS1 : wr.drew.cell? ⟨g, i * 4, none⟩ = some (.int .i64 x.f) ∧ wr.drew.cell? ⟨g, i * 4 + 1, none⟩ = some (.int .i64 x.t) ∧ wr.drew.cell? ⟨g, i * 4 + 2, none⟩ = some (.bool x.neg) ∧ wr.drew.cell? ⟨g, i * 4 + 3, none⟩ = some (.int .i64 x.r) := ⟨y0, y1, y2, y3⟩
      refine wpAnyM_take (i := 0) (v := ?_) rfl (by kernel_rfl) (by kernel_rfl) (by kernel_rfl) (by kernel_rfl) (fun _ _ _ h => h) HS1 (Or.inl ⟨by rfl, ?_⟩) ?_
      rotate_left
      · (intro w hSw; (try dsimp only at hSw); go_simp; try with_reducible rfl)
      simp only [Act.put, List.setIfInBounds_toArray, List.set_cons_zero, List.set_cons_succ]
      refine wpAnyM_take (i := 1) (v := ?_) rfl (by kernel_rfl) (by kernel_rfl) (by kernel_rfl) (by kernel_rfl) (fun _ _ _ h => h) HS1 (Or.inl ⟨by rfl, ?_⟩) ?_
      rotate_left
      · (intro w hSw; (try dsimp only at hSw); go_simp; try with_reducible rfl)
      simp only [Act.put, List.setIfInBounds_toArray, List.set_cons_zero, List.set_cons_succ]
      refine wpAnyM_take (i := 2) (v := ?_) rfl (by kernel_rfl) (by kernel_rfl) (by kernel_rfl) (by kernel_rfl) (fun _ _ _ h => h) HS1 (Or.inl ⟨by rfl, ?_⟩) ?_
      rotate_left
      · (intro w hSw; (try dsimp only at hSw); go_simp; try with_reducible rfl)
      simp only [Act.put, List.setIfInBounds_toArray, List.set_cons_zero, List.set_cons_succ]
      refine wpAnyM_take (i := 3) (v := ?_) rfl (by kernel_rfl) (by kernel_rfl) (by kernel_rfl) (by kernel_rfl) (fun _ _ _ h => h) HS1 (Or.inl ⟨by rfl, ?_⟩) ?_
      rotate_left
      · (intro w hSw; (try dsimp only at hSw); go_simp; try with_reducible rfl)
      simp only [Act.put, List.setIfInBounds_toArray, List.set_cons_zero, List.set_cons_succ]
      refine wpAnyM_take (i := 4) (v := ?_) rfl (by kernel_rfl) (by kernel_rfl) (by kernel_rfl) (by kernel_rfl) (fun _ _ _ h => h) HS1 (Or.inl ⟨by rfl, ?_⟩) ?_
      rotate_left
      · (intro w hSw; (try dsimp only at hSw); go_simp; try with_reducible rfl)
      simp only [Act.put, List.setIfInBounds_toArray, List.set_cons_zero, List.set_cons_succ]
      refine wpAnyM_take (i := 5) (v := ?_) rfl (by kernel_rfl) (by kernel_rfl) (by kernel_rfl) (by kernel_rfl) (fun _ _ _ h => h) HS1 (Or.inl ⟨by rfl, ?_⟩) ?_
      rotate_left
      · (intro w hSw; (try dsimp only at hSw); go_simp; try with_reducible rfl)
      simp only [Act.put, List.setIfInBounds_toArray, List.set_cons_zero, List.set_cons_succ]
      refine wpAnyM_take (i := 6) (v := ?_) rfl (by kernel_rfl) (by kernel_rfl) (by kernel_rfl) (by kernel_rfl) (fun _ _ _ h => h) HS1 (Or.inl ⟨by rfl, ?_⟩) ?_
      rotate_left
      · (intro w hSw; (try dsimp only at hSw); go_simp; try with_reducible rfl)
      simp only [Act.put, List.setIfInBounds_toArray, List.set_cons_zero, List.set_cons_succ]
      refine wpAnyM_take (i := 7) (v := ?_) rfl (by kernel_rfl) (by kernel_rfl) (by kernel_rfl) (by kernel_rfl) (fun _ _ _ h => h) HS1 (Or.inl ⟨by rfl, ?_⟩) ?_
      rotate_left
      · (intro w hSw; (try dsimp only at hSw); go_simp; try with_reducible rfl)
      simp only [Act.put, List.setIfInBounds_toArray, List.set_cons_zero, List.set_cons_succ]
      refine wpAnyM_take (i := 8) (v := ?_) rfl (by kernel_rfl) (by kernel_rfl) (by kernel_rfl) (by kernel_rfl) (fun _ _ _ h => h) HS1 (Or.inl ⟨by rfl, ?_⟩) ?_
      rotate_left
      · (intro w hSw; (try dsimp only at hSw); go_simp; try with_reducible rfl)
      simp only [Act.put, List.setIfInBounds_toArray, List.set_cons_zero, List.set_cons_succ]
      refine wpAnyM_take (i := 9) (v := ?_) rfl (by kernel_rfl) (by kernel_rfl) (by kernel_rfl) (by kernel_rfl) (fun _ _ _ h => h) HS1 (Or.inl ⟨by rfl, ?_⟩) ?_
      rotate_left
      · (intro w hSw; (try dsimp only at hSw); go_simp; try with_reducible rfl)
      simp only [Act.put, List.setIfInBounds_toArray, List.set_cons_zero, List.set_cons_succ]
      refine wpAnyM_take (i := 10) (v := ?_) rfl (by kernel_rfl) (by kernel_rfl) (by kernel_rfl) (by kernel_rfl) (fun _ _ _ h => h) HS1 (Or.inl ⟨by rfl, ?_⟩) ?_
      rotate_left
      · (intro w hSw; (try dsimp only at hSw); go_simp; try with_reducible rfl)
      simp only [Act.put, List.setIfInBounds_toArray, List.set_cons_zero, List.set_cons_succ]
      refine wpAnyM_take (i := 11) (v := ?_) rfl (by kernel_rfl) (by kernel_rfl) (by kernel_rfl) (by kernel_rfl) (fun _ _ _ h => h) HS1 (Or.inl ⟨by rfl, ?_⟩) ?_
      rotate_left
      · (intro w hSw; (try dsimp only at hSw); go_simp; try with_reducible rfl)
      simp only [Act.put, List.setIfInBounds_toArray, List.set_cons_zero, List.set_cons_succ]
      refine wpAnyM_take (i := 12) (v := ?_) rfl (by kernel_rfl) (by kernel_rfl) (by kernel_rfl) (by kernel_rfl) (fun _ _ _ h => h) HS1 (Or.inl ⟨by rfl, ?_⟩) ?_
      rotate_left
      · (intro w hSw; (try dsimp only at hSw); go_simp; try with_reducible rfl)
      simp only [Act.put, List.setIfInBounds_toArray, List.set_cons_zero, List.set_cons_succ]
      refine wpAnyM_take (i := 13) (v := ?_) rfl (by kernel_rfl) (by kernel_rfl) (by kernel_rfl) (by kernel_rfl) (fun _ _ _ h => h) HS1 (Or.inl ⟨by rfl, ?_⟩) ?_
      rotate_left
      · (intro w hSw; (try dsimp only at hSw); go_simp; try with_reducible rfl)
      simp only [Act.put, List.setIfInBounds_toArray, List.set_cons_zero, List.set_cons_succ]
      refine wpAnyM_take (i := 14) (v := ?_) rfl (by kernel_rfl) (by kernel_rfl) (by kernel_rfl) (by kernel_rfl) (fun _ _ _ h => h) HS1 (Or.inl ⟨by rfl, ?_⟩) ?_
      rotate_left
      · (intro w hSw; (try dsimp only at hSw); go_simp; try with_reducible rfl)
      simp only [Act.put, List.setIfInBounds_toArray, List.set_cons_zero, List.set_cons_succ]
      refine wpAnyM_take (i := 15) (v := ?_) rfl (by kernel_rfl) (by kernel_rfl) (by kernel_rfl) (by kernel_rfl) (fun _ _ _ h => h) HS1 (Or.inl ⟨by rfl, ?_⟩) ?_
      rotate_left
      · (intro w hSw; (try dsimp only at hSw); go_simp; try with_reducible rfl)
      simp only [Act.put, List.setIfInBounds_toArray, List.set_cons_zero, List.set_cons_succ]
      refine wpAnyM_take (i := 16) (v := ?_) rfl (by kernel_rfl) (by kernel_rfl) (by kernel_rfl) (by kernel_rfl) (fun _ _ _ h => h) HS1 (Or.inl ⟨by rfl, ?_⟩) ?_
      rotate_left
      · (intro w hSw; (try dsimp only at hSw); go_simp; try with_reducible rfl)
      simp only [Act.put, List.setIfInBounds_toArray, List.set_cons_zero, List.set_cons_succ]
      refine wpAnyM_take (i := 17) (v := ?_) rfl (by kernel_rfl) (by kernel_rfl) (by kernel_rfl) (by kernel_rfl) (fun _ _ _ h => h) HS1 (Or.inl ⟨by rfl, ?_⟩) ?_
      rotate_left
      · (intro w hSw; (try dsimp only at hSw); go_simp; try with_reducible rfl)
      simp only [Act.put, List.setIfInBounds_toArray, List.set_cons_zero, List.set_cons_succ]
      refine wpAnyM_take (i := 18) (v := ?_) rfl (by kernel_rfl) (by kernel_rfl) (by kernel_rfl) (by kernel_rfl) (fun _ _ _ h => h) HS1 (Or.inl ⟨by rfl, ?_⟩) ?_
      rotate_left
      · (intro w hSw; (try dsimp only at hSw); go_simp; try with_reducible rfl)
      simp only [Act.put, List.setIfInBounds_toArray, List.set_cons_zero, List.set_cons_succ]
      refine wpAnyM_take (i := 19) (v := ?_) rfl (by kernel_rfl) (by kernel_rfl) (by kernel_rfl) (by kernel_rfl) (fun _ _ _ h => h) HS1 (Or.inl ⟨by rfl, ?_⟩) ?_
      rotate_left
      · (intro w hSw; (try dsimp only at hSw); go_simp; try with_reducible rfl)
      simp only [Act.put, List.setIfInBounds_toArray, List.set_cons_zero, List.set_cons_succ]
      refine wpAnyM_take (i := 20) (v := ?_) rfl (by kernel_rfl) (by kernel_rfl) (by kernel_rfl) (by kernel_rfl) (fun _ _ _ h => h) HS1 (Or.inl ⟨by rfl, ?_⟩) ?_
      rotate_left
      · (intro w hSw; (try dsimp only at hSw); go_simp; try with_reducible rfl)
      simp only [Act.put, List.setIfInBounds_toArray, List.set_cons_zero, List.set_cons_succ]
      refine wpAnyM_take (i := 21) (v := ?_) rfl (by kernel_rfl) (by kernel_rfl) (by kernel_rfl) (by kernel_rfl) (fun _ _ _ h => h) HS1 (Or.inl ⟨by rfl, ?_⟩) ?_
      rotate_left
      · (intro w hSw; (try dsimp only at hSw); go_simp; try with_reducible rfl)
      simp only [Act.put, List.setIfInBounds_toArray, List.set_cons_zero, List.set_cons_succ]
      refine wpAnyM_take (i := 22) (v := ?_) rfl (by kernel_rfl) (by kernel_rfl) (by kernel_rfl) (by kernel_rfl) (fun _ _ _ h => h) HS1 (Or.inl ⟨by rfl, ?_⟩) ?_
      rotate_left
      · (intro w hSw; (try dsimp only at hSw); go_simp; try with_reducible rfl)
      simp only [Act.put, List.setIfInBounds_toArray, List.set_cons_zero, List.set_cons_succ]
      refine wpAnyM_take (i := 23) (v := ?_) rfl (by kernel_rfl) (by kernel_rfl) (by kernel_rfl) (by kernel_rfl) (fun _ _ _ h => h) HS1 (Or.inl ⟨by rfl, ?_⟩) ?_
      rotate_left
      · (intro w hSw; (try dsimp only at hSw); go_simp; try with_reducible rfl)
      simp only [Act.put, List.setIfInBounds_toArray, List.set_cons_zero, List.set_cons_succ]
      refine wpAnyM_take (i := 24) (v := ?_) rfl (by kernel_rfl) (by kernel_rfl) (by kernel_rfl) (by kernel_rfl) (fun _ _ _ h => h) HS1 (Or.inl ⟨by rfl, ?_⟩) ?_
      rotate_left
      · (intro w hSw; (try dsimp only at hSw); go_simp; try with_reducible rfl)
      simp only [Act.put, List.setIfInBounds_toArray, List.set_cons_zero, List.set_cons_succ]
      refine wpAnyM_end (by kernel_rfl) rfl (by kernel_rfl) (fun K hK => ?_)
      go_simp
      refine hK.out _ _ ?_
      clear hK K
      go_wp2
      go_roundw
      case rel => exact ⟨i + 1, by omega, by go_num, HS, (((HB.out.drew.setCell HBg.out _).setCell HBg.out _).setCell HBg.out _).setCell HBg.out _⟩
      case measure => simp [intOf]; omega
    · obtain rfl : n = i := by omega
      have hi1 : ¬ (n : Int) < (n : Int) := by omega
      have HG2 : Hid (Grow elEdg 25 base wr (.slice a1 n c1) (l.map turnE)) := by
        have := HG.out
        rw [List.take_of_length_le (by rw [HN.out]; exact Nat.le_refl _), List.drop_eq_nil_of_le (by rw [HN.out]; exact Nat.le_refl _), List.append_nil] at this
        exact this
      go_wp2
      go_end0
      exact ⟨rfl, HG2.out, HB.out⟩
end Go.Proofs.Ytjifhmlfnnagcaa

namespace Go.Proofs.Ytjifhmlfnnagcaa
set_option linter.unusedSimpArgs false
set_option linter.unusedVariables false
open Go.RowKit Go.Maps

theorem row_grow {w : World} {g n base : Nat} {X : Nat → Int} (h : w.rowIs g 3 n (fun i => .int .i64 (X i))) (hX : ∀ i, i < n → I64 (X i)) (hn : n ≤ 128) (hg : base ≤ g) : Grow elInt 3 base w (.slice (some ⟨g, 0, none⟩) n n) ((List.range n).map X) := by
  obtain ⟨c, h1, h2, h3⟩ := h
  have hf : ∀ m : List Int, m.flatMap elInt.cells = m.map (Value.int .i64) := fun m => by
    induction m with
    | nil => rfl
    | cons a r ih => rw [List.flatMap_cons, ih]; rfl
  refine Grow.of_own (n := n) (by simp) ⟨by rw [hf]; simp [elInt], .inr ⟨g, n, c, rfl, hg, h1, Nat.le_refl _, by unfold maxLen; omega, by rw [h2]; simp [elInt], ?_⟩⟩ ?_
  · rw [hf]
    apply List.ext_getElem?
    intro i
    rcases Nat.lt_or_ge i n with hi | hi
    · rw [List.getElem?_take_of_lt (by simp [elInt]; exact hi), Array.getElem?_toList, h3 i hi, List.getElem?_map, List.getElem?_map, List.getElem?_range hi]
      rfl
    · rw [List.getElem?_eq_none (by simp [elInt]; omega), List.getElem?_eq_none (by simp; omega)]
  · intro x hx V F
    obtain ⟨u, hu, rfl⟩ := List.mem_map.1 hx
    exact hX u (List.mem_range.1 hu)

/-- What strata.Levels answers. -/
def LevIs (n : Int) (es : List Edg) (er : Int) (L : List Int) : Prop :=
  (fitP n es = false ∧ er = 2 ∧ L = []) ∨ (fitP n es = true ∧ HasBad n.toNat es ∧ er = 40 ∧ L = []) ∨ (fitP n es = true ∧ er = 0 ∧ ∃ X, Least n.toNat (lnkT es) (lnkN es) X ∧ L = (List.range n.toNat).map X)
/-- What the document's Levels answers. -/
def RLv (n : Int) (es : List Edg) (er : Int) (L : List Int) : Prop :=
  (fitP n es = false ∧ er = 2 ∧ L = []) ∨ (fitP n es = true ∧ er = 40 ∧ L = [] ∧ ∃ t, t < n.toNat ∧ ∀ f, Sol n.toNat (lnkT es) (lnkN es) f → (n.toNat : Int) ≤ f t) ∨ (fitP n es = true ∧ er = 0 ∧ ∃ X, Least n.toNat (lnkT es) (lnkN es) X ∧ L = (List.range n.toNat).map X)

theorem bad_sol {n : Nat} {es : List Edg} {X : Nat → Int} (hin : ∀ x ∈ es, 0 ≤ x.f ∧ x.f < n ∧ 0 ≤ x.t ∧ x.t < n) (hb : HasBad n es) (hX : Sol n (lnkT es) (lnkN es) X) : False := by
  obtain ⟨x, hx, hn, hm⟩ := hb
  obtain ⟨q1, q2, q3, q4⟩ := hin x hx
  have hl : lnkN es x.f.toNat x.t.toNat = true := by
    unfold lnkN
    refine List.any_eq_true.2 ⟨x, hx, ?_⟩
    unfold isE
    simp [hn]
    omega
  have h1 := hX.lt x.f.toNat x.t.toNat (by omega) (by omega) hl
  have h2 := hX.reach hm.2
  omega
theorem fit_nat {n : Int} {es : List Edg} (h : fitP n es = true) : ((n.toNat : Nat) : Int) = n ∧ n.toNat ≤ 128 ∧ ∀ x ∈ es, 0 ≤ x.f ∧ x.f < (n.toNat : Int) ∧ 0 ≤ x.t ∧ x.t < (n.toNat : Int) := by
  have h0 : 0 ≤ n := by unfold fitP at h; simp at h; exact h.1
  obtain ⟨k, rfl⟩ := Int.eq_ofNat_of_zero_le h0
  have h1 := fit_in8 h
  simp only [Int.toNat_natCast]
  exact ⟨trivial, by have := h1.1; omega, h1.2⟩
theorem lev_meet {n : Int} {es : List Edg} {e1 e2 : Int} {L1 L2 : List Int} (h : LevIs n es e1 L1) (k : RLv n es e2 L2) : e1 = e2 ∧ L1 = L2 := by
  rcases h with ⟨h1, rfl, rfl⟩ | ⟨h1, h2, rfl, rfl⟩ | ⟨h1, rfl, X, hX, rfl⟩
  · rcases k with ⟨k1, rfl, rfl⟩ | ⟨k1, _⟩ | ⟨k1, _⟩
    · exact ⟨rfl, rfl⟩
    · rw [h1] at k1; cases k1
    · rw [h1] at k1; cases k1
  · rcases k with ⟨k1, _⟩ | ⟨k1, rfl, rfl, _⟩ | ⟨k1, rfl, Y, hY, rfl⟩
    · rw [h1] at k1; cases k1
    · exact ⟨rfl, rfl⟩
    · exact (bad_sol (fit_nat h1).2.2 h2 hY.toSol).elim
  · rcases k with ⟨k1, _⟩ | ⟨k1, rfl, rfl, t, ht, hs⟩ | ⟨k1, rfl, Y, hY, rfl⟩
    · rw [h1] at k1; cases k1
    · have h3 := hX.small t ht
      have h4 := hs X hX.toSol
      omega
    · refine ⟨rfl, List.map_congr_left fun u hu => ?_⟩
      exact hX.uniq hY u (List.mem_range.1 hu)
theorem lev_two {er : Int} {L : List Int} (h : LevIs 2 [⟨0, 1, true, 0⟩] er L) : er = 0 ∧ L = [0, 1] := by
  have hf : fitP 2 [⟨0, 1, true, 0⟩] = true := by decide
  have hs : Sol (2 : Int).toNat (lnkT [⟨0, 1, true, 0⟩]) (lnkN [⟨0, 1, true, 0⟩]) (fun v => (v : Int)) := by
    refine ⟨fun u _ => by omega, fun u v _ _ e => ?_, fun u v _ _ e => ?_⟩
    · simp [lnkT, isE] at e; omega
    · simp [lnkN, isE] at e; omega
  rcases h with ⟨h1, _⟩ | ⟨h1, h2, _⟩ | ⟨h1, rfl, X, hX, rfl⟩
  · rw [hf] at h1; cases h1
  · exact (bad_sol (fit_nat h1).2.2 h2 hs).elim
  · have a0 := hX.least _ hs 0 (by decide)
    have a1 := hX.least _ hs 1 (by decide)
    have b0 := hX.nn 0 (by decide)
    have b1 := hX.lt 0 1 (by decide) (by decide) (by simp [lnkN, isE])
    refine ⟨rfl, ?_⟩
    have c0 : X 0 = 0 := by simp at a0; omega
    have c1 : X 1 = 1 := by simp at a1; omega
    show [X 0, X 1] = _
    rw [c0, c1]

set_option maxHeartbeats 1000000 in
theorem slevels_any {w : World} {v : Value} {es : List Edg} (n : Int) (h : Has elEdg w v es) :
    Calls Try.prog 14 #[.int .i64 n, v] w fun e w' => ∃ v' er L, e = .returned (.tuple #[v', .int .i64 er]) ∧ Grow elInt 3 w.heap.size w' v' L ∧ LevIs n es er L ∧ L.length ≤ 128 ∧ Below w.heap.size w w' := by
  cases hf : fitP n es with
  | true =>
    obtain ⟨h1, h2, -⟩ := fit_nat hf
    have hfn : fitP ((n.toNat : Nat) : Int) es = true := by rw [h1]; exact hf
    have hc := levels_fit2 h hfn
    rw [h1] at hc
    refine hc.mono fun e w' ⟨ha, hb⟩ => ?_
    rcases ha with ⟨h3, rfl⟩ | ⟨h3, g, X, rfl, h4, h5, h6, h7⟩
    · exact ⟨_, 40, [], rfl, Grow.nil _ _ _ _, .inr (.inl ⟨hf, h3, rfl, rfl⟩), by simp, hb⟩
    · exact ⟨_, 0, _, rfl, row_grow h4 (fun i hi => by have := h5.nn i hi; have := h6 i hi; exact ⟨by omega, by omega⟩) h2 h7, .inr (.inr ⟨hf, rfl, X, h5, rfl⟩), by simp; omega, hb⟩
  | false =>
    obtain ⟨va, vc, rfl, -, -, hlen⟩ := h.shape
    have HF := hide (fit_any h n)
    rw [hf] at HF
    have HFt := hide hf
    clear h hf
    go_enter Try.func14, Try.ntmps14
    go_wp2_with (go_at_call 24; refine HF.out.mono ?_; rintro e w1 ⟨rfl, h1⟩; have HB1 := hide h1; clear h1)
    exact bodyPost_ret (v := .tuple #[.slice none 0 0, .int .i64 2]) (by simp [results, Try.results14, go_sem]) rfl ⟨_, 2, [], rfl, Grow.nil _ _ _ _, .inl ⟨HFt.out, rfl, rfl⟩, by simp, HB1.out⟩

set_option maxHeartbeats 1000000 in
theorem rlevels_all {w : World} {v : Value} {es : List Edg} (n : Int) (h : Has elEdg w v es) :
    Calls Try.prog 13 #[.int .i64 n, v] w fun e w' => ∃ v' er L, e = .returned (.tuple #[v', .int .i64 er]) ∧ Grow elInt 3 w.heap.size w' v' L ∧ RLv n es er L ∧ L.length ≤ 128 ∧ Below w.heap.size w w' := by
  cases hf : fitP n es with
  | true =>
    obtain ⟨h1, h2, -⟩ := fit_nat hf
    have hfn : fitP ((n.toNat : Nat) : Int) es = true := by rw [h1]; exact hf
    have hc := rlevels_any h hfn
    rw [h1] at hc
    refine hc.mono fun e w' ⟨ha, hb⟩ => ?_
    rcases ha with ⟨t, h3, h4, rfl⟩ | ⟨g, X, rfl, h4, h5, h6, h7⟩
    · exact ⟨_, 40, [], rfl, Grow.nil _ _ _ _, .inr (.inl ⟨hf, rfl, rfl, t, h3, h4⟩), by simp, hb⟩
    · exact ⟨_, 0, _, rfl, row_grow h4 (fun i hi => by have := h5.nn i hi; have := h6 i hi; exact ⟨by omega, by omega⟩) h2 h7, .inr (.inr ⟨hf, rfl, X, h5, rfl⟩), by simp; omega, hb⟩
  | false =>
    obtain ⟨va, vc, rfl, -, -, hlen⟩ := h.shape
    have HF := hide (rfit_any h n)
    rw [hf] at HF
    have HFt := hide hf
    clear h hf
    go_enter Try.func13, Try.ntmps13
    go_wp2_with (go_at_call 20; refine HF.out.mono ?_; rintro e w1 ⟨rfl, h1⟩; have HB1 := hide h1; clear h1)
    exact bodyPost_ret (v := .tuple #[.slice none 0 0, .int .i64 2]) (by simp [results, Try.results13, go_sem]) rfl ⟨_, 2, [], rfl, Grow.nil _ _ _ _, .inl ⟨HFt.out, rfl, rfl⟩, by simp, HB1.out⟩

theorem apart_symm {u v : Value} (h : u.ownBlock = none ∨ u.ownBlock ≠ v.ownBlock) : v.ownBlock = none ∨ v.ownBlock ≠ u.ownBlock := by
  rcases h with h | h
  · rcases Option.eq_none_or_eq_some v.ownBlock with h3 | ⟨k, h3⟩
    · exact .inl h3
    · exact .inr (by rw [h, h3]; exact fun e => by cases e)
  · exact .inr (Ne.symm h)
theorem own_laterI {α β : Type} {E : El α} {D : El β} {e1 e2 : TypeId} {b1 b2 : Nat} {W1 W2 : World} {v1 v2 : Value} {l1 : List α} {l2 : List β} (h1 : Grow E e1 b1 W1 v1 l1) (h2 : Grow D e2 b2 W2 v2 l2) (hb : W1.heap.size ≤ b2) : v1.ownBlock = none ∨ v1.ownBlock ≠ v2.ownBlock := by
  rcases Option.eq_none_or_eq_some v1.ownBlock with h3 | ⟨k, h3⟩
  · exact .inl h3
  · exact .inr fun e => by have h4 := own_lt6 h1.1 k h3; have h5 := own_new h2.1 k (by rw [← e]; exact h3); omega
theorem alo_three {base : Nat} {W : World} {v1 v2 v3 : Value} {l1 l2 l3 : List Int} (g1 : Grow elInt 3 base W v1 l1) (g2 : Grow elInt 3 base W v2 l2) (g3 : Grow elInt 3 base W v3 l3) (n1 : l1.length ≤ 1048576) (n2 : l2.length ≤ 1048576) (n3 : l3.length ≤ 1048576)
    (h12 : v1.ownBlock = none ∨ v1.ownBlock ≠ v2.ownBlock) (h13 : v1.ownBlock = none ∨ v1.ownBlock ≠ v3.ownBlock) (h23 : v2.ownBlock = none ∨ v2.ownBlock ≠ v3.ownBlock) :
    Alo base W.heap.size (W.alloc (.cells #[v1, v2, v3] 33)) [v1, v2, v3] 0 ∧ Apt W.heap.size [v1, v2, v3] := by
  have hcs : ∀ (i : Nat) (v : Value), [v1, v2, v3][i]? = some v → (i = 0 ∧ v = v1) ∨ (i = 1 ∧ v = v2) ∨ (i = 2 ∧ v = v3) := fun i v hi => by
    match i with
    | 0 => exact .inl ⟨rfl, (Option.some.inj hi).symm⟩
    | 1 => exact .inr (.inl ⟨rfl, (Option.some.inj hi).symm⟩)
    | 2 => exact .inr (.inr ⟨rfl, (Option.some.inj hi).symm⟩)
    | (k + 3) => simp at hi
  have hb := belo1 W (.cells #[v1, v2, v3] 33)
  refine ⟨⟨fun i v hi => ?_, fun i v hi => ?_⟩, ⟨fun i v hi => ?_, fun i j u v hne hi hj => ?_⟩⟩
  · have := new_cells (w := W) (cs := #[v1, v2, v3]) (t := 33) i v (by simpa using hi)
    exact this
  · rcases hcs i v hi with ⟨_, rfl⟩ | ⟨_, rfl⟩ | ⟨_, rfl⟩
    · exact ⟨l1, g1.kept hb, n1, fun h => absurd h (Nat.not_lt_zero _)⟩
    · exact ⟨l2, g2.kept hb, n2, fun h => absurd h (Nat.not_lt_zero _)⟩
    · exact ⟨l3, g3.kept hb, n3, fun h => absurd h (Nat.not_lt_zero _)⟩
  · intro e
    rcases hcs i v hi with ⟨_, rfl⟩ | ⟨_, rfl⟩ | ⟨_, rfl⟩
    · have := own_lt6 g1.1 _ e; omega
    · have := own_lt6 g2.1 _ e; omega
    · have := own_lt6 g3.1 _ e; omega
  · rcases hcs i u hi with ⟨rfl, rfl⟩ | ⟨rfl, rfl⟩ | ⟨rfl, rfl⟩ <;> rcases hcs j v hj with ⟨rfl, rfl⟩ | ⟨rfl, rfl⟩ | ⟨rfl, rfl⟩
    · exact absurd rfl hne
    · exact h12
    · exact h13
    · exact apart_symm h12
    · exact absurd rfl hne
    · exact h23
    · exact apart_symm h13
    · exact apart_symm h23
    · exact absurd rfl hne
theorem alone_len {base b c N : Nat} {w : World} {vs : List Value} (h : Alo base b w vs 0) (hA : Apt b vs) (hN : vs.length = N) (hl : N ≤ 1048576) (hb : base ≤ w.heap.size) :
    Calls Try.prog 11 #[.slice (some ⟨b, 0, none⟩) N c] w fun e w' => e = .returned (.bool true) ∧ Below base w w' := by
  subst hN
  exact alone_any h hA hl hb
end Go.Proofs.Ytjifhmlfnnagcaa

namespace Go.Proofs.Ytjifhmlfnnagcaa
set_option linter.unusedSimpArgs false
set_option linter.unusedVariables false
open Go.RowKit Go.Maps

def oneE : List Edg := [⟨0, 1, true, 0⟩]
theorem one_at (W : World) : Has elEdg (W.alloc (.cells #[.int .i64 0, .int .i64 1, .bool true, .int .i64 0] 25)) (.slice (some ⟨W.heap.size, 0, none⟩) 1 1) oneE :=
  has_new elEdg W 25 oneE #[.int .i64 0, .int .i64 1, .bool true, .int .i64 0] rfl trivial (fun x hx => by simp [oneE] at hx; subst hx; exact ⟨⟨by decide, by decide⟩, ⟨by decide, by decide⟩, ⟨by decide, by decide⟩⟩) (by decide)
theorem two_at (W : World) : Has elInt (W.alloc (.cells #[.int .i64 0, .int .i64 1] 3)) (.slice (some ⟨W.heap.size, 0, none⟩) 2 2) [0, 1] :=
  has_new elInt W 3 [0, 1] #[.int .i64 0, .int .i64 1] rfl trivial (fun x hx => by simp at hx; rcases hx with rfl | rfl <;> exact ⟨by decide, by decide⟩) (by decide)

set_option maxRecDepth 100000 in
set_option maxHeartbeats 4000000 in
theorem strataLevels_walk (n : Int) (v : Value) (es : List Edg) (w : World) (hn : -9223372036854775808 ≤ n ∧ n ≤ 9223372036854775807) (h : Has elEdg w v es) (hes : es.length ≤ 1048576) :
    Calls Try.prog 4 #[.int .i64 n, v] w fun e w' => e = .returned (.bool true) ∧ Below w.heap.size w w' := by
  obtain ⟨ie, hie, he0, he1, he2⟩ := info_parts Try.infoEdg
  obtain ⟨va, vc, rfl, -, -, hlen⟩ := h.shape
  have HL : Hid (∀ V : World, Below w.heap.size w V → Has elEdg V (.slice va es.length vc) es) := fun V hV => h.kept hV
  have HL0 := hide h
  obtain ⟨q, hq⟩ : ∃ q, es.length = q := ⟨_, rfl⟩
  have HQ := hide hq
  rw [hq] at HL HL0 hes ⊢
  have hq0 : (0 : Int) ≤ (q : Int) := by omega
  have hq1 : (q : Int) < (q : Int) + 1 := by omega
  clear h hlen hq
  go_enter Try.func4, Try.ntmps4
  go_wp2_with (first
    | (go_at_call 6; (with_reducible refine (edges_any HL0.out).mono ?_); rintro e W1 ⟨x1, rfl, g1, b1⟩; obtain ⟨ga, gc, hgs, -, -⟩ := g1.shape; rw [HQ.out] at hgs; subst hgs; have HG1 := hide (g1.kept (belo1 W1 (.cells #[.int .i64 (-77), .int .i64 0, .bool false, .int .i64 0] 25))); have HB1 := hide (b1.alloc b1.size (.cells #[.int .i64 (-77), .int .i64 0, .bool false, .int .i64 0] 25)); clear g1 b1 HL0)
    | (at_builtin; refine wpList_push (w0 := w) elEdg rfl _ _ 22 rfl w.heap.size 25 ie _ 32 Try.underlying22 hie he0 he1 he2 rfl (by decide) _ es q HQ.out rfl HG1.out (mkE (-77)) W1.heap.size 1 rfl (fun j u hu => new_cells (w := W1) (cs := #[.int .i64 (-77), .int .i64 0, .bool false, .int .i64 0]) j u hu) ⟨⟨by decide, by decide⟩, ⟨by decide, by decide⟩, ⟨by decide, by decide⟩⟩ (by omega) HB1.out HB1.out.size ?_; intro fg fc W2 HF2 HB2 HGr2; have hcap : q + 1 ≤ fc := (by obtain ⟨a, c, e, h1, -⟩ := HF2.out.shape; rw [List.length_append, HQ.out] at h1; injection e with _ _ e3; rw [← e3] at h1; exact h1); have hcap1 : (q : Int) ≤ (fc : Int) := (by omega); have HGv := hide (show Grow elEdg 25 w.heap.size W2 (.slice (some ⟨fg, 0, none⟩) q fc) es from HQ.out ▸ HF2.out.front); have HE2 := hide (HL.out W2 HB2.out); clear HG1 HB1 HGr2 hcap)
    | (go_at_call 13; (with_reducible refine (rlevels_all n HE2.out).mono ?_); rintro e W3 ⟨x3, er, L, rfl, g3, hr, hL, b3⟩; obtain ⟨wa, wc, rfl, -, -⟩ := g3.shape; have HR := hide hr; have HLn := hide hL; have HW3 := hide (g3.list (by omega)); have HB23 := hide b3; have HV3 := hide ((HGv.out.kept b3).list (by rw [HQ.out]; omega)); clear g3 hr b3 hL HE2)
    | (go_at_call 14; (with_reducible refine (slevels_any n HV3.out).mono ?_); rintro e W4 ⟨x4, er4, L4, rfl, g4, hl4, -, b4⟩; obtain ⟨rfl, rfl⟩ := lev_meet hl4 HR.out; obtain ⟨ta, tc, rfl, -, -⟩ := g4.shape; have HG4 := hide g4; have HS4 : Hid (Below W4.heap.size W4 (W4.alloc (.cells #[.int .i64 0, .int .i64 1, .bool true, .int .i64 0] 25))) := belo1 _ _; have HB24 : Hid (Below W2.heap.size W2 W4) := HB23.out.trans (b4.mono HB23.out.size); have HO4 := hide (one_at W4); have HB34 := hide b4; clear g4 hl4 b4 HV3)
    | (go_at_call 14; (with_reducible refine (slevels_any 2 HO4.out).mono ?_); rintro e W5 ⟨x5, er5, L5, rfl, g5, hl5, -, b5⟩; obtain ⟨rfl, rfl⟩ := lev_two hl5; obtain ⟨oa, oc, ho5, -, -⟩ := g5.shape; rw [show ([0, 1] : List Int).length = 2 from rfl] at ho5; subst ho5; have HG5 := hide (g5.mono HS4.out.size); have HB45 : Hid (Below W4.heap.size W4 W5) := HS4.out.trans (b5.mono HS4.out.size); have HB25 : Hid (Below W2.heap.size W2 W5) := HB24.out.trans (HB45.out.mono HB24.out.size); have HV5 := hide ((HGv.out.kept HB25.out).list (by rw [HQ.out]; omega)); clear g5 hl5 b5 HO4 HS4)
    | (go_at_call 14; (with_reducible refine (slevels_any n HV5.out).mono ?_); rintro e W6 ⟨x6, er6, L6, rfl, g6, hl6, -, b6⟩; obtain ⟨rfl, rfl⟩ := lev_meet hl6 HR.out; obtain ⟨aa, ac, rfl, -, -⟩ := g6.shape; have HN45 := hide (own_laterI HG4.out HG5.out (Nat.le_refl _)); have HN46 := hide (own_laterI HG4.out g6 HB45.out.size); have HN56 := hide (own_laterI HG5.out g6 (Nat.le_refl _)); have HG46 := hide ((HG4.out.kept (HB45.out.trans (b6.mono HB45.out.size))).mono HB23.out.size); have HG56 := hide ((HG5.out.kept b6).mono HB24.out.size); have HG66 := hide (g6.mono HB25.out.size); have HB26 : Hid (Below W2.heap.size W2 W6) := HB25.out.trans (b6.mono HB25.out.size); have HW6 := hide (HW3.out.kept (HB34.out.trans ((HB45.out.trans (b6.mono HB45.out.size)).mono HB34.out.size))); have HG46l := hide (HG46.out.list (by have := HLn.out; omega)); clear g6 hl6 b6 HV5 HG4 HG5 HB45 HB25 HB34)
    | (go_at_call 15; (with_reducible refine (equalInts_any HG46l.out HW6.out).mono ?_); rintro e W7 ⟨rfl, b7⟩; have HG47 := hide (HG46.out.kept b7); have HG57 := hide (HG56.out.kept b7); have HG67 := hide (HG66.out.kept b7); have HB27 : Hid (Below W2.heap.size W2 W7) := HB26.out.trans (b7.mono HB26.out.size); have HW7 := hide (HW6.out.kept b7); have HG67l := hide (HG67.out.list (by have := HLn.out; omega)); clear b7 HG46 HG56 HG66 HB26 HW6 HG46l)
    | (go_at_call 15; (with_reducible refine (equalInts_any HG67l.out HW7.out).mono ?_); rintro e W8 ⟨rfl, b8⟩; have HG48 := hide (HG47.out.kept b8); have HG58 := hide (HG57.out.kept b8); have HG68 := hide (HG67.out.kept b8); have HB28 : Hid (Below W2.heap.size W2 W8) := HB27.out.trans (b8.mono HB27.out.size); have HV8 := hide ((HGv.out.kept HB28.out).list (by rw [HQ.out]; omega)); have HE8 := hide (HL.out W8 (HB2.out.trans (HB28.out.mono HB2.out.size))); clear b8 HG47 HG57 HG67 HB27 HW7 HG67l)
    | (go_at_call 10; (with_reducible refine (equalEdges_any HV8.out HE8.out).mono ?_); rintro e W9 ⟨rfl, b9⟩; have HG49 := hide (HG48.out.kept b9); have HG59 := hide (HG58.out.kept b9); have HG69 := hide (HG68.out.kept b9); have HB29 : Hid (Below W2.heap.size W2 W9) := HB28.out.trans (b9.mono HB28.out.size); have y77 : W9.cell? ⟨fg, q * 4, none⟩ = some (.int .i64 (-77)) := (edg_at (HF2.out.kept HB29.out) (i := q) (x := mkE (-77)) (by rw [← HQ.out, List.getElem?_append_right (Nat.le_refl _), Nat.sub_self]; rfl)).1.1; have HZ := hide (belo1 W9 (.cells #[.int .i64 0, .int .i64 1] 3)); have HT := hide (two_at W9); have HG59l := hide ((HG59.out.kept HZ.out).list (by decide)); clear b9 HG48 HG58 HG68 HB28 HV8 HE8)
    | (go_at_call 15; (with_reducible refine (equalInts_any HG59l.out HT.out).mono ?_); rintro e WA ⟨rfl, bA⟩; have HZA : Hid (Below W9.heap.size W9 WA) := HZ.out.trans (bA.mono HZ.out.size); have HBA : Hid (Below W2.heap.size W2 WA) := HB29.out.trans (HZA.out.mono HB29.out.size); have ha3 := alo_three (HG49.out.kept HZA.out) (HG59.out.kept HZA.out) (HG69.out.kept HZA.out) (by have := HLn.out; omega) (by decide) (by have := HLn.out; omega) HN45.out HN46.out HN56.out; have HAl := hide ha3.1; have HAp := hide ha3.2; have HZB := hide (HBA.out.alloc HBA.out.size (.cells #[.slice ta L6.length tc, .slice oa 2 oc, .slice aa L6.length ac] 33)); clear bA ha3 HZ HT HG59l HZA HG49 HG59 HG69 HB29 HBA)
    | (go_at_call 11; (with_reducible refine (alone_len (N := 3) HAl.out HAp.out rfl (by decide) HZB.out.size).mono ?_); rintro e WB ⟨rfl, bB⟩; have HBB : Hid (Below W2.heap.size W2 WB) := HZB.out.trans bB; have HGB := hide (HGv.out.kept HBB.out); have HBw := hide (HB2.out.trans (HBB.out.mono HB2.out.size)); clear bB HZB HAl HAp HBB HGv)
    | (go_at_call 12; (with_reducible refine (turn_any HGB.out (by rw [HQ.out]; exact hes)).mono ?_); rintro e WC ⟨rfl, gC, bC⟩; have HGC := hide gC; have HQt : Hid ((es.map turnE).length = q) := (by show _ = _; rw [List.length_map, HQ.out]); have HGCl := hide (gC.list (by rw [HQt.out]; omega)); have HBC := hide (HBw.out.trans bC); clear gC bC HGB HBw)
    | (go_at_call 6; (with_reducible refine (edges_any HGCl.out).mono ?_); rintro e WD ⟨xD, rfl, gD, bD⟩; obtain ⟨da, dc, hdd, -, -⟩ := gD.shape; rw [HQt.out] at hdd; subst hdd; have HGDl := hide (gD.list (by rw [HQt.out]; omega)); have HVD := hide (HGCl.out.kept bD); have HBD := hide (HBC.out.trans (bD.mono HBC.out.size)); clear gD bD HGCl HGC HBC)
    | (go_at_call 13; (with_reducible refine (rlevels_all n HGDl.out).mono ?_); rintro e WE ⟨xE, eE, LE, rfl, gE, hrE, hLE, bE⟩; obtain ⟨ea, ec, rfl, -, -⟩ := gE.shape; have HRE := hide hrE; have HLE := hide hLE; have HWE := hide (gE.list (by omega)); have HVE := hide (HVD.out.kept bE); have HBE := hide (HBD.out.trans (bE.mono HBD.out.size)); clear gE hrE hLE bE HGDl HVD HBD)
    | (go_at_call 14; (with_reducible refine (slevels_any n HVE.out).mono ?_); rintro e WF ⟨xF, eF, LF, rfl, gF, hlF, -, bF⟩; obtain ⟨rfl, rfl⟩ := lev_meet hlF HRE.out; obtain ⟨ua, uc, rfl, -, -⟩ := gF.shape; have HGF := hide (gF.list (by have := HLE.out; omega)); have HWF := hide (HWE.out.kept bF); have HBF := hide (HBE.out.trans (bF.mono HBE.out.size)); clear gF hlF bF HWE HVE HBE)
    | (go_at_call 15; (with_reducible refine (equalInts_any HGF.out HWF.out).mono ?_); rintro e WG ⟨rfl, bG⟩; have HBG := hide (HBF.out.trans (bG.mono HBF.out.size)); clear bG HGF HWF HBF))
  go_ret
  exact ⟨rfl, HBG.out⟩
end Go.Proofs.Ytjifhmlfnnagcaa
