/- strata.Edges: an edge an atom. -/
import Derived.Test.YtfnepibafldlhaaEdgeMem
import Derived.Test.YtfnepibafldlhaaPush
import Derived.Test.YtfnepibafldlhaaForms
namespace Go.Proofs.Ytfnepibafldlhaa
set_option linter.unusedSimpArgs false
set_option linter.unusedVariables false
open Go.RowKit Go.Maps

/-- A value that is a slice. -/
def SliceV (v : Value) : Prop := ∃ a n c, v = .slice a n c
theorem SliceV.one {v : Value} (h : SliceV v) : v.oneCell' = true := by obtain ⟨a, n, c, rfl⟩ := h; rfl
/-- A pattern, its slots not followed. -/
def elPq : El Pat where
  cells c := [.int .i64 c.q, c.v]
  size := 2
  pos := by decide
  len _ := rfl
  ok _ _ c := I64 c.q ∧ SliceV c.v
  one h u hu := by
    simp only [List.mem_cons, List.not_mem_nil, or_false] at hu
    rcases hu with rfl | rfl
    · rfl
    · exact h.2.one
  move h _ := h
/-- A rule, its head's slots, tests, variables and patterns' slots not followed. -/
def elRq : El Rul where
  cells c := [.int .i64 c.h.q, c.h.v, c.pv, c.tv, c.nv, c.vv, .int .i64 c.c]
  size := 7
  pos := by decide
  len _ := rfl
  ok w F c := (I64 c.h.q ∧ SliceV c.h.v) ∧ Lst elPq w F c.pv c.ps ∧ SliceV c.tv ∧ Lst elPq w F c.nv c.ns ∧ SliceV c.vv ∧ I64 c.c
  one h u hu := by
    simp only [List.mem_cons, List.not_mem_nil, or_false] at hu
    rcases hu with rfl | rfl | rfl | rfl | rfl | rfl | rfl
    · rfl
    · exact h.1.2.one
    · exact h.2.1.one
    · exact h.2.2.1.one
    · exact h.2.2.2.1.one
    · exact h.2.2.2.2.1.one
    · rfl
  move h hm := ⟨h.1, h.2.1.move hm, h.2.2.1, h.2.2.2.1.move hm, h.2.2.2.2.1, h.2.2.2.2.2⟩
theorem elRq_ok {w : World} {F : Nat → Prop} {c : Rul} (h : elRq.ok w F c) : (I64 c.h.q ∧ SliceV c.h.v) ∧ Lst elPq w F c.pv c.ps ∧ SliceV c.tv ∧ Lst elPq w F c.nv c.ns ∧ SliceV c.vv ∧ I64 c.c := h
theorem elPq_ok {w : World} {F : Nat → Prop} {c : Pat} (h : elPq.ok w F c) : I64 c.q ∧ SliceV c.v := h

/-- The edges of one rule, of number k: of its first i positive, its first j negated atoms. -/
def edgOf (neg : Bool) (k : Nat) (r : Rul) (p : Pat) : Edg := ⟨p.q, r.h.q, neg, (k : Int)⟩
def edgR (k : Nat) (r : Rul) : List Edg := r.ps.map (edgOf false k r) ++ r.ns.map (edgOf true k r)
def edgesFrom : Nat → List Rul → List Edg
  | _, [] => []
  | k, r :: l => edgR k r ++ edgesFrom (k + 1) l
def edgesP (l : List Rul) : List Edg := edgesFrom 0 l
theorem edgesFrom_append (k : Nat) (a b : List Rul) : edgesFrom k (a ++ b) = edgesFrom k a ++ edgesFrom (k + a.length) b := by
  induction a generalizing k with
  | nil => simp [edgesFrom]
  | cons x a ih => simp only [List.cons_append, edgesFrom, ih, List.length_cons, List.append_assoc]; rw [show k + 1 + a.length = k + (a.length + 1) by omega]
theorem edgesP_snoc {l : List Rul} {k : Nat} {r : Rul} (hx : l[k]? = some r) : edgesP (l.take (k + 1)) = edgesP (l.take k) ++ edgR k r := by
  have hk : k < l.length := (List.getElem?_eq_some_iff.1 hx).1
  unfold edgesP
  rw [List.take_add_one, hx, Option.toList_some, edgesFrom_append]
  simp [edgesFrom]
  rw [Nat.min_eq_left (by omega)]
/-- How many atoms. -/
def atomsN (r : Rul) : Nat := r.ps.length + r.ns.length
theorem edgesFrom_length (k : Nat) (l : List Rul) : (edgesFrom k l).length = (l.map atomsN).sum := by
  induction l generalizing k with
  | nil => rfl
  | cons r l ih => simp [edgesFrom, edgR, atomsN, ih]; omega
theorem edgesP_length (l : List Rul) : (edgesP l).length = (l.map atomsN).sum := edgesFrom_length 0 l
theorem edgesP_take_le (l : List Rul) (k : Nat) : (edgesP (l.take k)).length ≤ (edgesP l).length := by
  have h : edgesP l = edgesP (l.take k) ++ edgesFrom (0 + (l.take k).length) (l.drop k) := by
    unfold edgesP
    rw [← edgesFrom_append, List.take_append_drop]
  rw [h]
  simp

theorem new_cells2 {w : World} {A : Obj} {cs : Array Value} {t : TypeId} : ∀ (j : Nat) (u : Value), cs.toList[j]? = some u → ((w.alloc A).alloc (.cells cs t)).cell? ⟨w.heap.size + 1, j, none⟩ = some u := by
  have h := new_cells (w := w.alloc A) (cs := cs) (t := t)
  have e : (w.alloc A).heap.size = w.heap.size + 1 := by show (w.heap.push A).size = _; rw [Array.size_push]
  rw [e] at h
  exact h
theorem two_size (w : World) (A B : Obj) : ((w.alloc A).alloc B).heap.size = w.heap.size + 2 := by
  show ((w.heap.push A).push B).size = _
  rw [Array.size_push, Array.size_push]
theorem two_kept {w : World} (A B : Obj) {R : Nat} {o : Obj} (h : w.heap[R]? = some o) : ((w.alloc A).alloc B).heap[R]? = some o := by
  have h1 := (Array.getElem?_eq_some_iff.1 h).1
  rw [(belo1 (w.alloc A) B).block R (by show R < (w.heap.push A).size; rw [Array.size_push]; omega), (belo1 w A).block R h1]
  exact h
theorem own_apart {v : Value} {g n cap R S : Nat} (h : v.ownBlock ≠ some R) (ha : v.ownBlock = some g ∨ g = S) (hs : R < S) : (Value.slice (some ⟨g, 0, none⟩) n cap).ownBlock ≠ some R := by
  intro e
  simp only [Value.ownBlock, Option.some.injEq] at e
  subst e
  rcases ha with h1 | h1
  · exact h h1
  · omega
theorem rule_at {W : World} {R : Nat} {a b c d e f g : Value} {t : TypeId} (h : W.heap[R]? = some (.cells #[a, b, c, d, e, f, g] t (0, 0))) : W.cell? ⟨R, 0, none⟩ = some a ∧ W.cell? ⟨R, 2, none⟩ = some c ∧ W.cell? ⟨R, 4, none⟩ = some e := by simp [World.cell?, h]

theorem wpList_pushg {P : Program} {α : Type} (E : El α) {w0 w : World} {ops : Array Oper} {rest : List Oper} {o : Oper} {a : Act} {Q : Exit → Act → World → Prop} (hgd : o.guard = none) (s x : Operand) (t : TypeId)
    (ho : o.op = .call { callee := .builtin .append, args := #[s, x], argTypes := #[t, t] })
    (base : Nat) (e : TypeId) (i : TypeInfo) (z : Value) (bytes : Nat) (ht : P.underlying t = some (.slice e)) (hi : P.info? e = some i) (hz : i.zero = some z)
    (hsize : i.size = E.size) (hby : i.bytes = bytes) (hzs : z.cells.size = E.size) (hbytes : bytes ≤ 4096)
    (v : Value) (l : List α) (n : Nat) (hn : l.length = n) (hs : a.eval s = v) (hg : Grow E e base w v l)
    (y : α) (ad c : Nat) (hx : a.eval x = .slice (some ⟨ad, 0, none⟩) 1 c) (hnew : ∀ j u, (E.cells y)[j]? = some u → w.cell? ⟨ad, j, none⟩ = some u)
    (hok : E.ok w (fun b => base ≤ b ∧ v.ownBlock ≠ some b) y) (hl : n + 1 < 1073741824) (hB : Below base w0 w) (hb : base ≤ w.heap.size)
    (h : ∀ g cap w', Hid (Grow E e base w' (.slice (some ⟨g, 0, none⟩) (n + 1) cap) (l ++ [y])) → Hid (Below base w0 w') → Hid (w.grownBy w' v.ownBlock) → Hid (v.ownBlock = some g ∨ g = w.heap.size) → wpList P ops Q rest (a.put o.dst (.slice (some ⟨g, 0, none⟩) (n + 1) cap)) w') : wpList P ops Q (o :: rest) a w := by
  subst hn
  refine wpList_append_lies w hgd s x t ho base e i z E.size bytes ht hi hz hsize hby hzs E.pos v l.length (l.flatMap E.cells) hs hg.1 ⟨ad, 0, none⟩ 1 c (E.cells y) hx (by rw [E.len, Nat.one_mul]) (fun j u hu => by rw [addr_add, Nat.zero_add]; exact hnew j u hu) (E.one hok) (by decide) (by unfold maxLen; omega) ?_ hb w.heap.size rfl ?_
  · have := Nat.mul_le_mul (Nat.le_of_lt hl) hbytes
    omega
  · intro g cap w' ho' hgr hat hlt
    exact h g cap w' (hg.push hok rfl rfl ho' hgr hat) (below_grown hB hg.1 hgr hb) hgr hat

set_option maxRecDepth 100000 in
set_option maxHeartbeats 2000000 in
theorem sedges_any {w : World} {v : Value} {l : List Rul} (h : Has elRq w v l) (hs : (edgesP l).length ≤ 1048576) :
    Calls Try.prog 9 #[v] w fun e w' => ∃ v', e = .returned v' ∧ Grow elEdg 39 w.heap.size w' v' (edgesP l) ∧ Below w.heap.size w w' := by
  obtain ⟨i0, hi0, hz0, hz1, hz2⟩ := info_parts Try.infoEdg
  obtain ⟨va, vc, rfl, -, -, hlen⟩ := h.shape
  have HL := hide h
  clear h
  go_enter Try.func9, Try.ntmps9
  go_wp2
  go_loopw [3, 12] (fun v y wl => ∃ k : Nat, k ≤ l.length ∧ y = .int .i64 k ∧ Hid (Grow elEdg 39 w.heap.size wl v (edgesP (l.take k))) ∧ Hid (Below w.heap.size w wl)) (fun _ y _ => l.length - (intOf y).toNat)
  case atStart => exact ⟨0, by omega, rfl, Grow.nil _ _ _ _, Below.refl _ _⟩
  case round =>
    obtain ⟨k, hk, rfl, HG, HB⟩ := hrel
    obtain ⟨pa, pc, rfl, -, -⟩ := HG.out.shape
    by_cases hlt : k < l.length
    · have hi : (k : Int) < (l.length : Int) := by omega
      have hi0' : (0 : Int) ≤ (k : Int) := by omega
      obtain ⟨b, off, rfl, -, -, hrow⟩ := HL.out.row (by omega)
      obtain ⟨r, hx⟩ : ∃ r, l[k]? = some r := ⟨_, List.getElem?_eq_getElem hlt⟩
      have y0 := kept_cell HB.out (hrow k r hx 0 _ rfl)
      have y1 := kept_cell HB.out (hrow k r hx 1 _ rfl)
      have y2 := kept_cell HB.out (hrow k r hx 2 _ rfl)
      have y3 := kept_cell HB.out (hrow k r hx 3 _ rfl)
      have y4 := kept_cell HB.out (hrow k r hx 4 _ rfl)
      have y5 := kept_cell HB.out (hrow k r hx 5 _ rfl)
      have y6 := kept_cell HB.out (hrow k r hx 6 _ rfl)
      simp only [elRq, Nat.add_zero] at y0 y1 y2 y3 y4 y5 y6
      have hok := elRq_ok (HL.out.ok (List.mem_of_getElem? hx))
      obtain ⟨ra, rc, hrv, -, -, hrl⟩ := hok.2.1.shape
      obtain ⟨na, nc, hnv, -, -, hnl⟩ := hok.2.2.2.1.shape
      obtain ⟨ha0, hn0, hc0, hhv⟩ := hok.1.2
      obtain ⟨ta, tn, tc, htv⟩ := hok.2.2.1
      obtain ⟨sa, sn, sc, hsv⟩ := hok.2.2.2.2.1
      rw [hhv] at y1
      rw [hrv] at y2
      rw [htv] at y3
      rw [hnv] at y4
      rw [hsv] at y5
      have HXk := hide hx
      have HPp : Hid (Has elPq w (.slice ra r.ps.length rc) r.ps) := by show Has elPq w _ _; rw [← hrv]; exact hok.2.1
      have HPn : Hid (Has elPq w (.slice na r.ns.length nc) r.ns) := by show Has elPq w _ _; rw [← hnv]; exact hok.2.2.2.1
      have HRq : Hid (I64 r.h.q) := hok.1.1
      have HKi : Hid (I64 (k : Int)) := ⟨by omega, by omega⟩
      have HLe : Hid ((edgesP (l.take k)).length + r.ps.length + r.ns.length ≤ 1048576) := by
        have h1 := edgesP_take_le l (k + 1)
        rw [edgesP_snoc hx] at h1
        simp only [edgR, List.length_append, List.length_map] at h1
        show _ ≤ _
        omega
      have HLf : Hid ((edgesP (l.take k)).length + r.ps.length ≤ 1048576) := by have := HLe.out; show _ ≤ _; omega
      obtain ⟨R, hR⟩ : ∃ R, wr.heap.size = R := ⟨_, rfl⟩
      have HAp : Hid ((Value.slice pa (edgesP (l.take k)).length pc).ownBlock ≠ some R) := fun e => by have := own_lt6 HG.out.1 R e; omega
      have hX : (wr.alloc (.cells #[.int .i64 r.h.q, .slice ha0 hn0 hc0, .slice ra r.ps.length rc, .slice ta tn tc, .slice na r.ns.length nc, .slice sa sn sc, .int .i64 r.c] 33)).heap[R]? = some (.cells #[.int .i64 r.h.q, .slice ha0 hn0 hc0, .slice ra r.ps.length rc, .slice ta tn tc, .slice na r.ns.length nc, .slice sa sn sc, .int .i64 r.c] 33 (0, 0)) := by rw [← hR]; exact heap_alloc_new _ _
      have HX := hide hX
      replace HG := hide (HG.out.kept (belo1 wr (.cells #[.int .i64 r.h.q, .slice ha0 hn0 hc0, .slice ra r.ps.length rc, .slice ta tn tc, .slice na r.ns.length nc, .slice sa sn sc, .int .i64 r.c] 33)))
      replace HB := hide (HB.out.alloc HB.out.size (.cells #[.int .i64 r.h.q, .slice ha0 hn0 hc0, .slice ra r.ps.length rc, .slice ta tn tc, .slice na r.ns.length nc, .slice sa sn sc, .int .i64 r.c] 33))
      clear hrow hok hx hrv hnv hhv htv hsv  hX
      go_wp2
      go_loopw [3, 20] (fun v y wl => ∃ i : Nat, i ≤ r.ps.length ∧ y = .int .i64 i ∧ Hid (Grow elEdg 39 w.heap.size wl v (edgesP (l.take k) ++ (r.ps.take i).map (edgOf false k r))) ∧ Hid (v.ownBlock ≠ some R) ∧ Hid (wl.heap[R]? = some (.cells #[.int .i64 r.h.q, .slice ha0 hn0 hc0, .slice ra r.ps.length rc, .slice ta tn tc, .slice na r.ns.length nc, .slice sa sn sc, .int .i64 r.c] 33 (0, 0))) ∧ Hid (Below w.heap.size w wl)) (fun _ y _ => r.ps.length - (intOf y).toNat)
      case atStart => exact ⟨0, by omega, rfl, by rw [List.take_zero, List.map_nil, List.append_nil]; exact HG, HAp, HX, HB⟩
      case round =>
        clear HG HAp HX HB
        obtain ⟨i, hil, rfl, HG, HAp, HX, HB⟩ := hrel
        obtain ⟨x0, x2, x4⟩ := rule_at HX.out
        by_cases hlt20 : i < r.ps.length
        · have hi1 : (i : Int) < (r.ps.length : Int) := by omega
          have hi10 : (0 : Int) ≤ (i : Int) := by omega
          obtain ⟨pb, po, hpe, -, -, prow⟩ := HPp.out.row (by omega)
          cases hpe
          obtain ⟨p, hp⟩ : ∃ p, r.ps[i]? = some p := ⟨_, List.getElem?_eq_getElem hlt20⟩
          have z0 := kept_cell HB.out (prow i p hp 0 _ rfl)
          have z1 := kept_cell HB.out (prow i p hp 1 _ rfl)
          simp only [elPq, Nat.add_zero] at z0 z1
          have hpk := elPq_ok (HPp.out.ok (List.mem_of_getElem? hp))
          obtain ⟨qa, qn, qc, hqv⟩ := hpk.2
          rw [hqv] at z1
          have HO : Hid (I64 p.q ∧ I64 r.h.q) := ⟨hpk.1, HRq.out⟩
          have HLn : Hid ((edgesP (l.take k) ++ (r.ps.take i).map (edgOf false k r)).length = (edgesP (l.take k)).length + i) := by show _ = _; rw [List.length_append, List.length_map, List.length_take]; omega
          have HTk : Hid (edgesP (l.take k) ++ (r.ps.take (i + 1)).map (edgOf false k r) = (edgesP (l.take k) ++ (r.ps.take i).map (edgOf false k r)) ++ [edgOf false k r p]) := by show _ = _; rw [take_snoc8 hp]; simp
          have hle : (edgesP (l.take k)).length + i + 1 < 1073741824 := by have := HLe.out; have := HLf.out; omega
          obtain ⟨oa, oc, hsh, -, -⟩ := HG.out.shape
          rw [HLn.out] at hsh
          subst hsh
          have HG2 := hide ((HG.out.kept (belo1 wr (.cells #[.int .i64 p.q, .slice qa qn qc] 28))).kept (belo1 (wr.alloc (.cells #[.int .i64 p.q, .slice qa qn qc] 28)) (.cells #[.int .i64 p.q, .int .i64 r.h.q, .bool false, .int .i64 (k : Int)] 39)))
          have HB2 := hide ((HB.out.alloc HB.out.size (.cells #[.int .i64 p.q, .slice qa qn qc] 28)).alloc (Nat.le_trans HB.out.size (belo1 wr (.cells #[.int .i64 p.q, .slice qa qn qc] 28)).size) (.cells #[.int .i64 p.q, .int .i64 r.h.q, .bool false, .int .i64 (k : Int)] 39))
          have HX2 := hide (two_kept (.cells #[.int .i64 p.q, .slice qa qn qc] 28) (.cells #[.int .i64 p.q, .int .i64 r.h.q, .bool false, .int .i64 (k : Int)] 39) HX.out)
          have x0' := kept_cell (belo1 wr (.cells #[.int .i64 p.q, .slice qa qn qc] 28)) x0
          have HSz : Hid (R < wr.heap.size) := (Array.getElem?_eq_some_iff.1 HX.out).1
          have HS2 := hide HB2.out.size
          obtain ⟨L, hL⟩ : ∃ L, (edgesP (l.take k) ++ (r.ps.take i).map (edgOf false k r)) = L := ⟨_, rfl⟩
          obtain ⟨N, hN⟩ : ∃ N, (edgesP (l.take k)).length + i = N := ⟨_, rfl⟩
          rw [hL] at HG2 HTk HLn
          rw [hN] at HG2 HLn hle HAp ⊢
          have HNi := hide hN
          clear hN
          clear prow hp HG hL hpk hqv
          go_wp2_with (at_builtin; refine wpList_pushg (w0 := w) elEdg rfl _ _ 23 rfl w.heap.size 39 i0 _ 32 Try.underlying23 hi0 hz0 hz1 hz2 rfl (by decide) _ L N HLn.out rfl HG2.out (edgOf false k r p) (wr.heap.size + 1) 1 (by first | rfl | simp) (fun j u hu => new_cells2 j u hu) (by exact ⟨HO.out.1, HO.out.2, HKi.out⟩) hle HB2.out HS2.out ?_)
          intro g cap' w1 HG1 HB1 HGr HAt
          have HX1 := hide ((HGr.out.block R (Array.getElem?_eq_some_iff.1 HX2.out).1 (fun e => HAp.out e.symm)).trans HX2.out)
          have HAp1 : Hid ((Value.slice (some ⟨g, 0, none⟩) (N + 1) cap').ownBlock ≠ some R) := own_apart HAp.out HAt.out (by have := HSz.out; simp [two_size]; omega)
          go_wp2
          go_roundw
          case rel => exact ⟨i + 1, by omega, by go_num, by rw [HTk.out]; exact HG1, HAp1, HX1, HB1⟩
          case measure => simp [intOf]; omega
        · obtain rfl : i = r.ps.length := by omega
          have hi1 : ¬ (r.ps.length : Int) < (r.ps.length : Int) := by omega
          rw [List.take_of_length_le (Nat.le_refl _)] at HG
          go_wp2
          have HLf : Hid ((edgesP (l.take k) ++ r.ps.map (edgOf false k r)).length + r.ns.length ≤ 1048576) := by have := HLe.out; rw [List.length_append, List.length_map]; omega
          go_loopw [3, 38] (fun v y wl => ∃ i : Nat, i ≤ r.ns.length ∧ y = .int .i64 i ∧ Hid (Grow elEdg 39 w.heap.size wl v ((edgesP (l.take k) ++ r.ps.map (edgOf false k r)) ++ (r.ns.take i).map (edgOf true k r))) ∧ Hid (v.ownBlock ≠ some R) ∧ Hid (wl.heap[R]? = some (.cells #[.int .i64 r.h.q, .slice ha0 hn0 hc0, .slice ra r.ps.length rc, .slice ta tn tc, .slice na r.ns.length nc, .slice sa sn sc, .int .i64 r.c] 33 (0, 0))) ∧ Hid (Below w.heap.size w wl)) (fun _ y _ => r.ns.length - (intOf y).toNat)
          case atStart => exact ⟨0, by omega, rfl, by rw [List.take_zero, List.map_nil, List.append_nil]; exact HG, HAp, HX, HB⟩
          case round =>
            clear HG HAp HX HB
            obtain ⟨i, hil, rfl, HG, HAp, HX, HB⟩ := hrel
            obtain ⟨x0, x2, x4⟩ := rule_at HX.out
            by_cases hlt38 : i < r.ns.length
            · have hi1 : (i : Int) < (r.ns.length : Int) := by omega
              have hi10 : (0 : Int) ≤ (i : Int) := by omega
              obtain ⟨pb, po, hpe, -, -, prow⟩ := HPn.out.row (by omega)
              cases hpe
              obtain ⟨p, hp⟩ : ∃ p, r.ns[i]? = some p := ⟨_, List.getElem?_eq_getElem hlt38⟩
              have z0 := kept_cell HB.out (prow i p hp 0 _ rfl)
              have z1 := kept_cell HB.out (prow i p hp 1 _ rfl)
              simp only [elPq, Nat.add_zero] at z0 z1
              have hpk := elPq_ok (HPn.out.ok (List.mem_of_getElem? hp))
              obtain ⟨qa, qn, qc, hqv⟩ := hpk.2
              rw [hqv] at z1
              have HO : Hid (I64 p.q ∧ I64 r.h.q) := ⟨hpk.1, HRq.out⟩
              have HLn : Hid (((edgesP (l.take k) ++ r.ps.map (edgOf false k r)) ++ (r.ns.take i).map (edgOf true k r)).length = ((edgesP (l.take k) ++ r.ps.map (edgOf false k r))).length + i) := by show _ = _; rw [List.length_append, List.length_map, List.length_take]; omega
              have HTk : Hid ((edgesP (l.take k) ++ r.ps.map (edgOf false k r)) ++ (r.ns.take (i + 1)).map (edgOf true k r) = ((edgesP (l.take k) ++ r.ps.map (edgOf false k r)) ++ (r.ns.take i).map (edgOf true k r)) ++ [edgOf true k r p]) := by show _ = _; rw [take_snoc8 hp]; simp
              have hle : ((edgesP (l.take k) ++ r.ps.map (edgOf false k r))).length + i + 1 < 1073741824 := by have := HLe.out; have := HLf.out; omega
              obtain ⟨oa, oc, hsh, -, -⟩ := HG.out.shape
              rw [HLn.out] at hsh
              subst hsh
              have HG2 := hide ((HG.out.kept (belo1 wr (.cells #[.int .i64 p.q, .slice qa qn qc] 28))).kept (belo1 (wr.alloc (.cells #[.int .i64 p.q, .slice qa qn qc] 28)) (.cells #[.int .i64 p.q, .int .i64 r.h.q, .bool true, .int .i64 (k : Int)] 39)))
              have HB2 := hide ((HB.out.alloc HB.out.size (.cells #[.int .i64 p.q, .slice qa qn qc] 28)).alloc (Nat.le_trans HB.out.size (belo1 wr (.cells #[.int .i64 p.q, .slice qa qn qc] 28)).size) (.cells #[.int .i64 p.q, .int .i64 r.h.q, .bool true, .int .i64 (k : Int)] 39))
              have HX2 := hide (two_kept (.cells #[.int .i64 p.q, .slice qa qn qc] 28) (.cells #[.int .i64 p.q, .int .i64 r.h.q, .bool true, .int .i64 (k : Int)] 39) HX.out)
              have x0' := kept_cell (belo1 wr (.cells #[.int .i64 p.q, .slice qa qn qc] 28)) x0
              have HSz : Hid (R < wr.heap.size) := (Array.getElem?_eq_some_iff.1 HX.out).1
              have HS2 := hide HB2.out.size
              obtain ⟨L, hL⟩ : ∃ L, ((edgesP (l.take k) ++ r.ps.map (edgOf false k r)) ++ (r.ns.take i).map (edgOf true k r)) = L := ⟨_, rfl⟩
              obtain ⟨N, hN⟩ : ∃ N, ((edgesP (l.take k) ++ r.ps.map (edgOf false k r))).length + i = N := ⟨_, rfl⟩
              rw [hL] at HG2 HTk HLn
              rw [hN] at HG2 HLn hle HAp ⊢
              have HNi := hide hN
              clear hN
              clear prow hp HG hL hpk hqv
              go_wp2_with (at_builtin; refine wpList_pushg (w0 := w) elEdg rfl _ _ 23 rfl w.heap.size 39 i0 _ 32 Try.underlying23 hi0 hz0 hz1 hz2 rfl (by decide) _ L N HLn.out rfl HG2.out (edgOf true k r p) (wr.heap.size + 1) 1 (by first | rfl | simp) (fun j u hu => new_cells2 j u hu) (by exact ⟨HO.out.1, HO.out.2, HKi.out⟩) hle HB2.out HS2.out ?_)
              intro g cap' w1 HG1 HB1 HGr HAt
              have HX1 := hide ((HGr.out.block R (Array.getElem?_eq_some_iff.1 HX2.out).1 (fun e => HAp.out e.symm)).trans HX2.out)
              have HAp1 : Hid ((Value.slice (some ⟨g, 0, none⟩) (N + 1) cap').ownBlock ≠ some R) := own_apart HAp.out HAt.out (by have := HSz.out; simp [two_size]; omega)
              go_wp2
              go_roundw
              case rel => exact ⟨i + 1, by omega, by go_num, by rw [HTk.out]; exact HG1, HAp1, HX1, HB1⟩
              case measure => simp [intOf]; omega
            · obtain rfl : i = r.ns.length := by omega
              have hi1 : ¬ (r.ns.length : Int) < (r.ns.length : Int) := by omega
              rw [List.take_of_length_le (Nat.le_refl _)] at HG
              go_wp2
              go_roundw
              case rel => exact ⟨k + 1, by omega, by go_num, by rw [edgesP_snoc HXk.out, edgR, ← List.append_assoc]; exact HG, HB⟩
              case measure => simp [intOf]; omega
    · obtain rfl : k = l.length := by omega
      have hi : ¬ (l.length : Int) < (l.length : Int) := by omega
      rw [List.take_of_length_le (Nat.le_refl _)] at HG
      go_wp2
      go_ret
      exact ⟨_, rfl, HG.out, HB.out⟩
end Go.Proofs.Ytfnepibafldlhaa
