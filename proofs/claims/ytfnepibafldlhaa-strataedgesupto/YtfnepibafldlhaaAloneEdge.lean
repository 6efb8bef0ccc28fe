/- Edges written over in a list of one's own; two more behind it; the law's aloneEdges. (By mk_alone.py.) -/
import Derived.Test.YtfnepibafldlhaaRuleCopyQ
import Derived.Test.YtfnepibafldlhaaPushKeep
namespace Go.Proofs.Ytfnepibafldlhaa
set_option linter.unusedSimpArgs false
set_option linter.unusedVariables false
open Go.RowKit Go.Maps

section
variable {P : Program} {α : Type}

/-- Elements more behind a list of one's own by append: the list as it was reads as before. -/
theorem run_pushs_keep (E : El α) {w : World} (t ty : TypeId) (base : Nat) (e : TypeId) (i : TypeInfo) (z : Value) (bytes : Nat) (ht : P.underlying t = some (.slice e)) (hi : P.info? e = some i) (hz : i.zero = some z)
    (hsize : i.size = E.size) (hby : i.bytes = bytes) (hzs : z.cells.size = E.size) (hbytes : bytes ≤ 4096)
    (v : Value) (l : List α) (hg : Grow E e base w v l) (ys : List α) (m : Nat) (hm : ys.length = m) (ad c : Nat) (hnew : ∀ j u, (ys.flatMap E.cells)[j]? = some u → w.cell? ⟨ad, j, none⟩ = some u)
    (hok : ∀ x ∈ l ++ ys, ∀ (V : World) F, E.ok V F x) (hl : l.length + m < 1073741824) (hb : base ≤ w.heap.size) :
    ∃ v' w', (Builtin.append_ #[t, t] ty #[v, .slice (some ⟨ad, 0, none⟩) m c]).run P w = .ok v' w' ∧ Grow E e base w' v' (l ++ ys) ∧ Grow E e base w' v l ∧ w.grownBy w' v.ownBlock ∧ (v'.ownBlock = v.ownBlock ∨ ∀ k, v'.ownBlock = some k → w.heap.size ≤ k) := by
  have hb2 : (l.length + m) * bytes ≤ 140737488355328 := by
    have := Nat.mul_le_mul (Nat.le_of_lt hl) hbytes
    omega
  have h63 : l.length + m ≤ maxLen := by unfold maxLen; omega
  have hyl : (ys.flatMap E.cells).length = m * E.size := by rw [flatE_len, hm]
  have hnews : ∀ j u, (ys.flatMap E.cells)[j]? = some u → w.cell? ((⟨ad, 0, none⟩ : Addr).add j) = some u := fun j u hu => by rw [addr_add, Nat.zero_add]; exact hnew j u hu
  have h1c : ∀ u ∈ ys.flatMap E.cells, u.oneCell' = true := fun u hu => by
    obtain ⟨y, hy, hu2⟩ := List.mem_flatMap.1 hu
    exact E.one (hok y (List.mem_append.2 (.inr hy)) w (fun _ => True)) u hu2
  have hokl : ∀ x ∈ l, ∀ (V : World) F, E.ok V F x := fun x hx => hok x (List.mem_append.2 (.inl hx))
  have hfl : (l ++ ys).flatMap E.cells = l.flatMap E.cells ++ ys.flatMap E.cells := List.flatMap_append
  have hll : (l ++ ys).length = l.length + m := by rw [List.length_append, hm]
  have hgo := hg.1
  rcases hg.1.2 with ⟨rfl, h0⟩ | ⟨g, cap, cur, rfl, hbg, hh, hnc, hcm, hcs, htk⟩
  · have hl0 : l = [] := List.eq_nil_of_length_eq_zero h0
    subst hl0
    obtain ⟨v', w', hrun, h2, h3, _⟩ := run_append_own (P := P) w w.heap.size t ty e i z E.size bytes ht hi hz hsize hby hzs E.pos (.slice none 0 0) 0 [] (World.ownsRow_nil w _ e _) ⟨ad, 0, none⟩ m c (ys.flatMap E.cells) hyl hnews h1c (by simpa using h63) (by simpa using hb2) (Nat.le_refl _)
    have hG : Grow E e w.heap.size w' v' ([] ++ ys) := Grow.of_own (n := 0 + m) (by simpa using hm) (by rw [hfl]; exact h2) hok
    exact ⟨v', w', hrun, hG.mono hb, Grow.nil _ _ _ _, h3, .inr fun k hk => own_new hG.1 k hk⟩
  · by_cases hroom : l.length + m ≤ cap
    · obtain ⟨w', hrun, h2, h3⟩ := run_append_fits (P := P) w base t ty e i E.size ht hi hsize g l.length cap _ hgo ⟨ad, 0, none⟩ m c (ys.flatMap E.cells) hyl hnews h1c hroom
      refine ⟨_, w', hrun, Grow.of_own (n := l.length + m) hll (by rw [hfl]; exact h2) hok, Grow.of_own rfl ⟨hg.1.1, ?_⟩ hokl, h3, .inl rfl⟩
      rcases h2.2 with ⟨h4, _⟩ | ⟨g', cap', cur', h4, h5, h6, h7, h8, h9, h10⟩
      · simp at h4
      · simp only [Value.slice.injEq, Option.some.injEq, Addr.mk.injEq, and_true, true_and] at h4
        obtain ⟨rfl, rfl⟩ := h4
        refine .inr ⟨g, cap, cur', rfl, h5, h6, by omega, h8, h9, ?_⟩
        have h11 := congrArg (List.take (l.length * E.size)) h10
        rw [List.take_take, Nat.min_eq_left (Nat.mul_le_mul_right _ (by omega)), List.take_left' hg.1.1] at h11
        exact h11
    · obtain ⟨v', w', hrun, h2, h3⟩ := run_append_arg_grows (P := P) w t ty e i z E.size bytes ht hi hz hsize hby hzs E.pos ⟨g, 0, none⟩ l.length cap (l.flatMap E.cells) hg.1.1 (fun j u hu => by rw [addr_add, Nat.zero_add]; exact own_at hgo hu) ⟨ad, 0, none⟩ m c (ys.flatMap E.cells) hyl hnews (by omega) h63 hb2
      have hlow : Below w.heap.size w w' := ⟨h3.os, h3.tape, h3.output, h3.size, fun k hk => h3.block k hk (by simp)⟩
      have hG : Grow E e w.heap.size w' v' (l ++ ys) := Grow.of_own (n := l.length + m) hll (by rw [hfl]; exact h2) hok
      exact ⟨v', w', hrun, hG.mono hb, hg.kept hlow, ⟨h3.os, h3.tape, h3.output, h3.size, fun k hk hne => h3.block k hk (by simp)⟩, .inr fun k hk => own_new hG.1 k hk⟩

theorem wpList_pushs_keep (E : El α) {w0 w : World} {ops : Array Oper} {rest : List Oper} {o : Oper} {a : Act} {Q : Exit → Act → World → Prop} (hgd : o.guard = none) (s x : Operand) (t : TypeId)
    (ho : o.op = .call { callee := .builtin .append, args := #[s, x], argTypes := #[t, t] })
    (base : Nat) (e : TypeId) (i : TypeInfo) (z : Value) (bytes : Nat) (ht : P.underlying t = some (.slice e)) (hi : P.info? e = some i) (hz : i.zero = some z)
    (hsize : i.size = E.size) (hby : i.bytes = bytes) (hzs : z.cells.size = E.size) (hbytes : bytes ≤ 4096)
    (v : Value) (l : List α) (hs : a.eval s = v) (hg : Grow E e base w v l)
    (ys : List α) (m : Nat) (hm : ys.length = m) (ad c : Nat) (hx : a.eval x = .slice (some ⟨ad, 0, none⟩) m c) (hnew : ∀ j u, (ys.flatMap E.cells)[j]? = some u → w.cell? ⟨ad, j, none⟩ = some u)
    (hok : ∀ x ∈ l ++ ys, ∀ (V : World) F, E.ok V F x) (hl : l.length + m < 1073741824) (hB : Below base w0 w) (hb : base ≤ w.heap.size)
    (h : ∀ v' w', Hid (Grow E e base w' v' (l ++ ys)) → Hid (Grow E e base w' v l) → Hid (Below base w0 w') → Hid (w.grownBy w' v.ownBlock) → Hid (v'.ownBlock = v.ownBlock ∨ ∀ k, v'.ownBlock = some k → w.heap.size ≤ k) → wpList P ops Q rest (a.put o.dst v') w') :
    wpList P ops Q (o :: rest) a w := by
  obtain ⟨v', w', hrun, h1, h2, h3, h4⟩ := run_pushs_keep (P := P) E t o.type base e i z bytes ht hi hz hsize hby hzs hbytes v l hg ys m hm ad c hnew hok hl hb
  refine wpList_plain hgd fun K hK => ?_
  unfold Oper.wp execOp
  simp only [ho, resolve, invoke, builtin, Sem.run_bind, Sem.run_pure, Result.andThen_ok, List.map_toArray, List.map_cons, List.map_nil, hs, hx, hrun]
  exact hK _ _ (h v' w' h1 h2 (below_grown hB hg.1 h3 hb) h3 h4)
end

/-- An edge that is a mark. -/
def mkE (x : Int) : Edg := ⟨x, 0, false, 0⟩
theorem edg_flat_set (y : Edg) : ∀ (l : List Edg) (i : Nat), (l.set i y).flatMap elEdg.cells = ((((l.flatMap elEdg.cells).set (i * 4) (.int .i64 y.f)).set (i * 4 + 1) (.int .i64 y.t)).set (i * 4 + 2) (.bool y.neg)).set (i * 4 + 3) (.int .i64 y.r)
  | [], i => by simp
  | a :: l, 0 => by simp [elEdg]
  | a :: l, i + 1 => by
    rw [List.set_cons_succ, List.flatMap_cons, edg_flat_set y l i, List.flatMap_cons]
    rw [show (i + 1) * 4 = i * 4 + 1 + 1 + 1 + 1 by omega, show i * 4 + 1 + 1 + 1 + 1 + 2 = i * 4 + 2 + 1 + 1 + 1 + 1 by omega, show i * 4 + 1 + 1 + 1 + 1 + 3 = i * 4 + 3 + 1 + 1 + 1 + 1 by omega]
    rfl
theorem grow_num {α : Type} {E : El α} {e : TypeId} {base : Nat} {w : World} {ao : Option Addr} {cap n : Nat} {l : List α} (h : Grow E e base w (.slice ao n cap) l) : n = l.length := by
  obtain ⟨ao, c, e1, _⟩ := h.shape
  injection e1
theorem growE_other {e : TypeId} {base : Nat} {w w' : World} {v : Value} {l : List Edg} {row : Option Nat} (h : Grow elEdg e base w v l) (hg : w.grownBy w' row) (hne : v.ownBlock = none ∨ v.ownBlock ≠ row) : Grow elEdg e base w' v l := ⟨h.1.kept hg hne, fun x hx => h.2 x hx⟩
theorem edg_at {e : TypeId} {base : Nat} {w : World} {g cap n : Nat} {l : List Edg} (h : Grow elEdg e base w (.slice (some ⟨g, 0, none⟩) n cap) l) {i : Nat} {x : Edg} (hx : l[i]? = some x) :
    (w.cell? ⟨g, i * 4, none⟩ = some (.int .i64 x.f) ∧ w.cell? ⟨g, i * 4 + 1, none⟩ = some (.int .i64 x.t) ∧ w.cell? ⟨g, i * 4 + 2, none⟩ = some (.bool x.neg) ∧ w.cell? ⟨g, i * 4 + 3, none⟩ = some (.int .i64 x.r)) ∧ (∀ j, w.frozen? ⟨g, j, none⟩ = false) := by
  have hn := grow_num h
  subst hn
  exact ⟨⟨own_at h.1 (flatE_at elEdg l i 0 x hx (by decide)), own_at h.1 (flatE_at elEdg l i 1 x hx (by decide)), own_at h.1 (flatE_at elEdg l i 2 x hx (by decide)), own_at h.1 (flatE_at elEdg l i 3 x hx (by decide))⟩, fun j => h.1.frozenAt j⟩
/-- An edge of a list of one's own written over. -/
theorem Grow.setEdg {e : TypeId} {base : Nat} {w : World} {g cap n : Nat} {l : List Edg} (h : Grow elEdg e base w (.slice (some ⟨g, 0, none⟩) n cap) l) (i : Nat) {y : Edg} (hy : I64 y.f ∧ I64 y.t ∧ I64 y.r) :
    Grow elEdg e base ((((w.setCell ⟨g, i * 4, none⟩ (.int .i64 y.f)).setCell ⟨g, i * 4 + 1, none⟩ (.int .i64 y.t)).setCell ⟨g, i * 4 + 2, none⟩ (.bool y.neg)).setCell ⟨g, i * 4 + 3, none⟩ (.int .i64 y.r)) (.slice (some ⟨g, 0, none⟩) n cap) (l.set i y) ∧
      w.grownBy ((((w.setCell ⟨g, i * 4, none⟩ (.int .i64 y.f)).setCell ⟨g, i * 4 + 1, none⟩ (.int .i64 y.t)).setCell ⟨g, i * 4 + 2, none⟩ (.bool y.neg)).setCell ⟨g, i * 4 + 3, none⟩ (.int .i64 y.r)) (some g) := by
  have hn := grow_num h
  subst hn
  obtain ⟨a1, b1⟩ := h.1.stored (i * 4) (.int .i64 y.f)
  obtain ⟨a2, b2⟩ := a1.stored (i * 4 + 1) (.int .i64 y.t)
  obtain ⟨a3, b3⟩ := a2.stored (i * 4 + 2) (.bool y.neg)
  obtain ⟨a4, b4⟩ := a3.stored (i * 4 + 3) (.int .i64 y.r)
  have ht : ∀ {u v x : World} {r : Option Nat}, u.grownBy v r → v.grownBy x r → u.grownBy x r := fun p q => ⟨q.os.trans p.os, q.tape.trans p.tape, q.output.trans p.output, Nat.le_trans p.size q.size, fun k hk hr => (q.block k (Nat.lt_of_lt_of_le hk p.size) hr).trans (p.block k hk hr)⟩
  refine ⟨Grow.of_own (n := l.length) (by simp) (by rw [edg_flat_set]; exact a4) ?_, ht b1 (ht b2 (ht b3 b4))⟩
  intro z hz V F
  rcases List.mem_or_eq_of_mem_set hz with h3 | h3
  · exact h.2 z h3
  · rw [h3]; exact hy
theorem marks_succ {x : Int} {n i : Nat} {m : List Edg} (h : m.length = n ∧ ∀ j, j < i → m[j]? = some (mkE x)) (hi : i < n) : (m.set i (mkE x)).length = n ∧ ∀ j, j < i + 1 → (m.set i (mkE x))[j]? = some (mkE x) := by
  refine ⟨by rw [List.length_set]; exact h.1, fun j hj => ?_⟩
  rw [List.getElem?_set]
  by_cases hij : i = j
  · rw [if_pos hij, if_pos (by rw [h.1]; exact hi)]
  · rw [if_neg hij]; exact h.2 j (by omega)
theorem marks_all {x : Int} {n : Nat} {m : List Edg} (h : m.length = n ∧ ∀ j, j < n → m[j]? = some (mkE x)) : m = List.replicate n (mkE x) := by
  refine List.eq_replicate_iff.2 ⟨h.1, fun b hb => ?_⟩
  obtain ⟨j, hj⟩ := List.getElem?_of_mem hb
  have h1 := h.2 j (by rw [← h.1]; exact (List.getElem?_eq_some_iff.1 hj).1)
  rw [hj] at h1
  exact Option.some.inj h1
theorem own_apartE {v v1 v2 : Value} {S : Nat} (ho : v.ownBlock = v1.ownBlock ∨ ∀ k, v.ownBlock = some k → S ≤ k) (hne : v1.ownBlock = none ∨ v1.ownBlock ≠ v2.ownBlock) (hlt : ∀ k, v2.ownBlock = some k → k < S) : v.ownBlock = none ∨ v.ownBlock ≠ v2.ownBlock := by
  rcases ho with h | h
  · rw [h]; exact hne
  · rcases Option.eq_none_or_eq_some v.ownBlock with h3 | ⟨k, h3⟩
    · exact .inl h3
    · exact .inr fun e => by have h4 := h k h3; have h5 := hlt k (by rw [← e]; exact h3); omega
theorem rep_at {α : Type} {n i : Nat} (x : α) (h : i < n) : (List.replicate n x)[i]? = some x := by rw [List.getElem?_replicate, if_pos h]

set_option maxRecDepth 100000 in
set_option maxHeartbeats 2000000 in
theorem aloneEdges_any {base : Nat} {w : World} {v1 v2 : Value} {l1 l2 : List Edg} (h1 : Grow elEdg 39 base w v1 l1) (h2 : Grow elEdg 39 base w v2 l2) (hne : v1.ownBlock = none ∨ v1.ownBlock ≠ v2.ownBlock) (hl1 : l1.length ≤ 1048576) (hl2 : l2.length ≤ 1048576) (hb : base ≤ w.heap.size) :
    Calls Try.prog 12 #[v1, v2] w fun e w' => e = .returned (.bool true) ∧ Below base w w' := by
  obtain ⟨ie, hie, he0, he1, he2⟩ := info_parts Try.infoEdg
  obtain ⟨a1, c1, hv1, -, -⟩ := h1.shape
  obtain ⟨a2, c2, hv2, -, -⟩ := h2.shape
  obtain ⟨n1, hn1⟩ : ∃ n, l1.length = n := ⟨_, rfl⟩
  obtain ⟨n2, hn2⟩ : ∃ n, l2.length = n := ⟨_, rfl⟩
  rw [hn1] at hv1 hl1
  rw [hn2] at hv2 hl2
  subst hv1 hv2
  have HN1 := hide hn1
  have HN2 := hide hn2
  have HNe1 : Hid ((Value.slice a1 n1 c1).ownBlock = none ∨ (Value.slice a1 n1 c1).ownBlock ≠ (Value.slice a2 n2 c2).ownBlock) := hne
  have HNe2 : Hid ((Value.slice a2 n2 c2).ownBlock = none ∨ (Value.slice a2 n2 c2).ownBlock ≠ (Value.slice a1 n1 c1).ownBlock) := by
    rcases hne with h | h
    · rcases Option.eq_none_or_eq_some (Value.slice a2 n2 c2).ownBlock with h3 | ⟨k, h3⟩
      · exact .inl h3
      · exact .inr (by rw [h, h3]; exact fun e => by cases e)
    · exact .inr (Ne.symm h)
  have HG1 := hide h1
  have HG2 := hide h2
  have HBb := hide hb
  have HB := hide (Below.refl base w)
  clear h1 h2 hn1 hn2 hne hb
  go_enter Try.func12, Try.ntmps12
  go_wp2
  go_loopw [5] (fun y wl => ∃ (i : Nat) (m : List Edg), i ≤ n1 ∧ y = .int .i64 i ∧ Hid (m.length = n1 ∧ ∀ j, j < i → m[j]? = some (mkE (-1))) ∧ Hid (Grow elEdg 39 base wl (.slice a1 n1 c1) m) ∧ Hid (Grow elEdg 39 base wl (.slice a2 n2 c2) l2) ∧ Hid (Below base w wl)) (fun y _ => n1 - (intOf y).toNat)
  case atStart => exact ⟨0, l1, by omega, rfl, ⟨HN1.out, fun j hj => absurd hj (Nat.not_lt_zero j)⟩, HG1, HG2, HB⟩
  case round =>
    clear HG1 HG2 HB
    obtain ⟨i, m, hi, rfl, HM, HG1, HG2, HB⟩ := hrel
    by_cases hlt : i < n1
    · have hi1 : (i : Int) < (n1 : Int) := by omega
      have hi0 : (0 : Int) ≤ (i : Int) := by omega
      obtain ⟨g, cap, hgv, hbg, -⟩ := HG1.out.1.form (by rw [HM.out.1]; omega)
      rw [HM.out.1] at hgv
      cases hgv
      obtain ⟨x, hx⟩ : ∃ x, m[i]? = some x := ⟨_, List.getElem?_eq_getElem (by rw [HM.out.1]; exact hlt)⟩
      obtain ⟨⟨y0, y1, y2, y3⟩, hf⟩ := edg_at HG1.out hx
      have f0 := hf (i * 4)
      have f1 := hf (i * 4 + 1)
      have f2 := hf (i * 4 + 2)
      have f3 := hf (i * 4 + 3)
      obtain ⟨hs1, hs2⟩ := HG1.out.setEdg i (y := mkE (-1)) ⟨⟨by decide, by decide⟩, ⟨by decide, by decide⟩, ⟨by decide, by decide⟩⟩
      have HS1 := hide hs1
      have HS2 := hide (growE_other HG2.out hs2 HNe2.out)
      have HBg := hide hbg
      have HMs := hide (marks_succ HM.out hlt)
      clear hs1 hs2 hx hf hbg
      go_wp2
      go_roundw
      case rel => exact ⟨i + 1, _, by omega, by go_num, HMs, HS1, HS2, (((HB.out.setCell HBg.out _).setCell HBg.out _).setCell HBg.out _).setCell HBg.out _⟩
      case measure => simp [intOf]; omega
    · obtain rfl : n1 = i := by omega
      have hi1 : ¬ (n1 : Int) < (n1 : Int) := by omega
      have hme := marks_all HM.out
      subst hme
      clear HM
      go_wp2
      go_loopw [6] (fun y wl => ∃ (i : Nat) (m : List Edg), i ≤ n2 ∧ y = .int .i64 i ∧ Hid (m.length = n2 ∧ ∀ j, j < i → m[j]? = some (mkE (-2))) ∧ Hid (Grow elEdg 39 base wl (.slice a2 n2 c2) m) ∧ Hid (Grow elEdg 39 base wl (.slice a1 n1 c1) (List.replicate n1 (mkE (-1)))) ∧ Hid (Below base w wl)) (fun y _ => n2 - (intOf y).toNat)
      case atStart => exact ⟨0, l2, by omega, rfl, ⟨HN2.out, fun j hj => absurd hj (Nat.not_lt_zero j)⟩, HG2, HG1, HB⟩
      case round =>
        clear HG1 HG2 HB
        obtain ⟨i, m, hi, rfl, HM, HG2, HG1, HB⟩ := hrel
        by_cases hlt : i < n2
        · have hi1 : (i : Int) < (n2 : Int) := by omega
          have hi0 : (0 : Int) ≤ (i : Int) := by omega
          obtain ⟨g, cap, hgv, hbg, -⟩ := HG2.out.1.form (by rw [HM.out.1]; omega)
          rw [HM.out.1] at hgv
          cases hgv
          obtain ⟨x, hx⟩ : ∃ x, m[i]? = some x := ⟨_, List.getElem?_eq_getElem (by rw [HM.out.1]; exact hlt)⟩
          obtain ⟨⟨y0, y1, y2, y3⟩, hf⟩ := edg_at HG2.out hx
          have f0 := hf (i * 4)
          have f1 := hf (i * 4 + 1)
          have f2 := hf (i * 4 + 2)
          have f3 := hf (i * 4 + 3)
          obtain ⟨hs1, hs2⟩ := HG2.out.setEdg i (y := mkE (-2)) ⟨⟨by decide, by decide⟩, ⟨by decide, by decide⟩, ⟨by decide, by decide⟩⟩
          have HS1 := hide hs1
          have HS2 := hide (growE_other HG1.out hs2 HNe1.out)
          have HBg := hide hbg
          have HMs := hide (marks_succ HM.out hlt)
          clear hs1 hs2 hx hf hbg
          go_wp2
          go_roundw
          case rel => exact ⟨i + 1, _, by omega, by go_num, HMs, HS1, HS2, (((HB.out.setCell HBg.out _).setCell HBg.out _).setCell HBg.out _).setCell HBg.out _⟩
          case measure => simp [intOf]; omega
        · obtain rfl : n2 = i := by omega
          have hi1 : ¬ (n2 : Int) < (n2 : Int) := by omega
          have hme := marks_all HM.out
          subst hme
          clear HM
          have HK : Hid (∀ (k : Nat) (x : Int), x = -1 ∨ x = -2 → ∀ z ∈ List.replicate k (mkE x) ++ [mkE x, mkE x], ∀ (V : World) (F : Nat → Prop), elEdg.ok V F z) := fun k x hx z hz V F => by
            have hz2 : z = mkE x := by
              rcases List.mem_append.1 hz with h | h
              · exact (List.mem_replicate.1 h).2
              · simpa using h
            rw [hz2]
            refine ⟨?_, ⟨by simp [mkE], by simp [mkE]⟩, ⟨by simp [mkE], by simp [mkE]⟩⟩
            rcases hx with rfl | rfl <;> exact ⟨by decide, by decide⟩
          rename World => W0
          obtain ⟨N1, hNb1, HR1⟩ : ∃ N, N ≤ 1048578 ∧ Hid (0 < N ∧ List.replicate n1 (mkE (-1)) ++ [mkE (-1), mkE (-1)] = List.replicate N (mkE (-1))) := ⟨n1 + 2, by omega, by omega, by rw [show [mkE (-1), mkE (-1)] = List.replicate 2 (mkE (-1)) from rfl, List.replicate_append_replicate]⟩
          obtain ⟨N2, hNb2, HR2⟩ : ∃ N, N ≤ 1048578 ∧ Hid (0 < N ∧ List.replicate n2 (mkE (-2)) ++ [mkE (-2), mkE (-2)] = List.replicate N (mkE (-2))) := ⟨n2 + 2, by omega, by omega, by rw [show [mkE (-2), mkE (-2)] = List.replicate 2 (mkE (-2)) from rfl, List.replicate_append_replicate]⟩
          have HG1a := hide (HG1.out.kept (belo1 W0 (.cells #[.int .i64 (-1), .int .i64 0, .bool false, .int .i64 0, .int .i64 (-1), .int .i64 0, .bool false, .int .i64 0] 39)))
          have HG2a := hide (HG2.out.kept (belo1 W0 (.cells #[.int .i64 (-1), .int .i64 0, .bool false, .int .i64 0, .int .i64 (-1), .int .i64 0, .bool false, .int .i64 0] 39)))
          have HBa := hide (HB.out.alloc (Nat.le_trans HBb.out HB.out.size) (.cells #[.int .i64 (-1), .int .i64 0, .bool false, .int .i64 0, .int .i64 (-1), .int .i64 0, .bool false, .int .i64 0] 39))
          clear HG1 HG2 HB
          go_wp2_with (first
            | (at_builtin; refine wpList_pushs_keep (w0 := w) elEdg rfl _ _ 23 rfl base 39 ie _ 32 Try.underlying23 hie he0 he1 he2 rfl (by decide) _ (List.replicate n1 (mkE (-1))) rfl HG1a.out [mkE (-1), mkE (-1)] 2 rfl W0.heap.size 2 rfl (fun j u hu => new_cells (w := W0) (cs := #[.int .i64 (-1), .int .i64 0, .bool false, .int .i64 0, .int .i64 (-1), .int .i64 0, .bool false, .int .i64 0]) j u hu) (HK.out n1 (-1) (.inl rfl)) (by rw [List.length_replicate]; omega) HBa.out (Nat.le_trans HBb.out HBa.out.size) ?_; intro v3 W3 HX3 HG3 HB3 HGr3 HOw3; rw [HR1.out.2] at HX3; obtain ⟨g3, c3, hv3, -, -⟩ := HX3.out.1.form (by rw [List.length_replicate]; exact HR1.out.1); rw [List.length_replicate] at hv3; subst hv3; have HNx := hide (own_apartE HOw3.out HNe1.out (own_lt6 HG2a.out.1)); have HG2b := hide ((growE_other HG2a.out HGr3.out HNe2.out).kept (belo1 W3 (.cells #[.int .i64 (-2), .int .i64 0, .bool false, .int .i64 0, .int .i64 (-2), .int .i64 0, .bool false, .int .i64 0] 39))); have HG1b := hide (HG3.out.kept (belo1 W3 (.cells #[.int .i64 (-2), .int .i64 0, .bool false, .int .i64 0, .int .i64 (-2), .int .i64 0, .bool false, .int .i64 0] 39))); have HX1b := hide (HX3.out.kept (belo1 W3 (.cells #[.int .i64 (-2), .int .i64 0, .bool false, .int .i64 0, .int .i64 (-2), .int .i64 0, .bool false, .int .i64 0] 39))); have HBc := hide (HB3.out.alloc (Nat.le_trans HBb.out HB3.out.size) (.cells #[.int .i64 (-2), .int .i64 0, .bool false, .int .i64 0, .int .i64 (-2), .int .i64 0, .bool false, .int .i64 0] 39)); clear HG1a HG2a HBa HX3 HG3 HB3 HGr3 HOw3)
            | (at_builtin; refine wpList_pushs_keep (w0 := w) elEdg rfl _ _ 23 rfl base 39 ie _ 32 Try.underlying23 hie he0 he1 he2 rfl (by decide) _ (List.replicate n2 (mkE (-2))) rfl HG2b.out [mkE (-2), mkE (-2)] 2 rfl W3.heap.size 2 rfl (fun j u hu => new_cells (w := W3) (cs := #[.int .i64 (-2), .int .i64 0, .bool false, .int .i64 0, .int .i64 (-2), .int .i64 0, .bool false, .int .i64 0]) j u hu) (HK.out n2 (-2) (.inr rfl)) (by rw [List.length_replicate]; omega) HBc.out (Nat.le_trans HBb.out HBc.out.size) ?_; intro v4 W HX2 HG2 HB HGr4 HOw4; rw [HR2.out.2] at HX2; obtain ⟨g4, c4, hv4, -, -⟩ := HX2.out.1.form (by rw [List.length_replicate]; exact HR2.out.1); rw [List.length_replicate] at hv4; subst hv4; have HX1 := hide (growE_other HX1b.out HGr4.out HNx.out); have HG1 := hide (growE_other HG1b.out HGr4.out HNe1.out); have HBW := hide (Below.refl W.heap.size W); clear HG2b HG1b HX1b HBc HGr4 HOw4))
          go_loopw [9] (fun y wl => ∃ i : Nat, i ≤ N1 ∧ y = .int .i64 i ∧ Hid (Below base w wl) ∧ Hid (Below W.heap.size W wl)) (fun y _ => N1 - (intOf y).toNat)
          case atStart => exact ⟨0, by omega, rfl, HB, HBW⟩
          case round =>
            clear HB HBW
            obtain ⟨i, hi, rfl, HB, HBW⟩ := hrel
            by_cases hlt : i < N1
            · have hi1 : (i : Int) < (N1 : Int) := by omega
              have hi0 : (0 : Int) ≤ (i : Int) := by omega
              obtain ⟨⟨y0, -, -, -⟩, -⟩ := edg_at (HX1.out.kept HBW.out) (rep_at (mkE (-1)) hlt)
              simp only [mkE] at y0
              by_cases hla : i < n1
              · have hj1 : (i : Int) < (n1 : Int) := by omega
                obtain ⟨g, cap, hgv, -, -⟩ := (HG1.out.kept HBW.out).1.form (by rw [List.length_replicate]; omega)
                rw [List.length_replicate] at hgv
                cases hgv
                obtain ⟨⟨z0, -, -, -⟩, -⟩ := edg_at (HG1.out.kept HBW.out) (rep_at (mkE (-1)) hla)
                simp only [mkE] at z0
                go_wp2
                go_roundw
                case rel => exact ⟨i + 1, by omega, by go_num, HB, HBW⟩
                case measure => simp [intOf]; omega
              · have hj1 : ¬ (i : Int) < (n1 : Int) := by omega
                go_wp2
                go_roundw
                case rel => exact ⟨i + 1, by omega, by go_num, HB, HBW⟩
                case measure => simp [intOf]; omega
            · obtain rfl : N1 = i := by omega
              have hi1 : ¬ (N1 : Int) < (N1 : Int) := by omega
              go_wp2
              go_loopw [10] (fun y wl => ∃ i : Nat, i ≤ N2 ∧ y = .int .i64 i ∧ Hid (Below base w wl) ∧ Hid (Below W.heap.size W wl)) (fun y _ => N2 - (intOf y).toNat)
              case atStart => exact ⟨0, by omega, rfl, HB, HBW⟩
              case round =>
                clear HB HBW
                obtain ⟨i, hi, rfl, HB, HBW⟩ := hrel
                by_cases hlt : i < N2
                · have hi1 : (i : Int) < (N2 : Int) := by omega
                  have hi0 : (0 : Int) ≤ (i : Int) := by omega
                  obtain ⟨⟨y0, -, -, -⟩, -⟩ := edg_at (HX2.out.kept HBW.out) (rep_at (mkE (-2)) hlt)
                  simp only [mkE] at y0
                  by_cases hla : i < n2
                  · have hj1 : (i : Int) < (n2 : Int) := by omega
                    obtain ⟨g, cap, hgv, -, -⟩ := (HG2.out.kept HBW.out).1.form (by rw [List.length_replicate]; omega)
                    rw [List.length_replicate] at hgv
                    cases hgv
                    obtain ⟨⟨z0, -, -, -⟩, -⟩ := edg_at (HG2.out.kept HBW.out) (rep_at (mkE (-2)) hla)
                    simp only [mkE] at z0
                    go_wp2
                    go_roundw
                    case rel => exact ⟨i + 1, by omega, by go_num, HB, HBW⟩
                    case measure => simp [intOf]; omega
                  · have hj1 : ¬ (i : Int) < (n2 : Int) := by omega
                    go_wp2
                    go_roundw
                    case rel => exact ⟨i + 1, by omega, by go_num, HB, HBW⟩
                    case measure => simp [intOf]; omega
                · obtain rfl : N2 = i := by omega
                  have hi1 : ¬ (N2 : Int) < (N2 : Int) := by omega
                  go_wp2
                  go_ret
                  exact ⟨rfl, HB.out⟩
end Go.Proofs.Ytfnepibafldlhaa
