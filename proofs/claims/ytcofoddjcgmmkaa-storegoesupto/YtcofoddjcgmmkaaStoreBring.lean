/- What (*store.Store).bring does. -/
import Derived.Test.YtcofoddjcgmmkaaProg
import Derived.Test.YtcofoddjcgmmkaaStoreKeys
import Derived.WalkSpells
import Derived.Deep.DeepCutAuto
import Derived.Deep.AppendLies
import Derived.Deep.RegionHeld3
import Derived.Test.YtcofoddjcgmmkaaRegionLast
import Derived.Test.YtcofoddjcgmmkaaStoreSpot
import Derived.WalkLawsBesides
namespace Go.Proofs.Ytcofoddjcgmmkaa
set_option linter.unusedSimpArgs false
set_option linter.unusedVariables false
open Go.RowKit Go.Maps

/-- The boxes of bring: s, c, num, pred. -/
structure Boxes (w : World) (own : Own) (p b2 b3 b4 b5 : Nat) (c : List Int) (n : Nat) (q : Int) : Prop where
  s : boxAt w own b2 [.pointer (some ⟨p, 0, none⟩)]
  c : boxAt w own b3 (ints c)
  n : boxAt w own b4 [.int .i64 n]
  q : boxAt w own b5 [.int .i64 q]

theorem Try.infoCells : (Try.prog.info? 56).map (fun i => (i.zero, i.size, i.bytes)) = some (some (.agg #[.int .i64 0, .int .i64 0, .int .i64 0, .int .i64 0, .int .i64 0, .int .i64 0, .int .i64 0, .int .i64 0, .int .i64 0]), 9, 72) := by kernel_rfl

theorem Boxes.keep {w w' : World} {own own' : Own} {p b2 b3 b4 b5 : Nat} {c : List Int} {n : Nat} {q : Int} {A : Tag → Prop} (h : Boxes w own p b2 b3 b4 b5 c n q) (hT : Turn A own own' w w') (hA : ¬ A .box) : Boxes w' own' p b2 b3 b4 b5 c n q :=
  ⟨h.s.keep hT hA, h.c.keep hT hA, h.n.keep hT hA, h.q.keep hT hA⟩

/-- Which rows hold what at a place, when a row's first k places have been written down. -/
noncomputable def whF (W : Lit → List Int) (c : List Int) (n q : Int) : Nat → Lit → List Int
  | 0 => W
  | k + 1 => setL (whF W c n q k) (litI [q, k, c.getD (1 + k) 0]) (whF W c n q k (litI [q, k, c.getD (1 + k) 0]) ++ [n])

theorem whF_len {W : Lit → List Int} {c : List Int} {n q : Int} {m : Nat} (h : ∀ l, (W l).length ≤ m) : ∀ (k : Nat) (l : Lit), (whF W c n q k l).length ≤ m + k
  | 0, l => h l
  | k + 1, l => by
    have ih := whF_len h (c := c) (n := n) (q := q) k
    by_cases e : l = litI [q, k, c.getD (1 + k) 0]
    · subst e
      simp only [whF, setL_same, List.length_append, List.length_singleton]
      have := ih (litI [q, k, c.getD (1 + k) 0])
      omega
    · simp only [whF, setL_other _ _ e]
      have := ih l
      omega

/-- The store in the midst of bring. -/
def Mid (w : World) (own : Own) (p b2 b3 b4 b5 : Nat) (c : List Int) (n q N1 N2 N3 : Nat) (S' : Sto) (wx : World) : Prop :=
  ∃ own' L', L'.n1 = N1 ∧ L'.n2 = N2 ∧ L'.n3 = N3 ∧ Raw wx own' p L' S' ∧ Boxes wx own' p b2 b3 b4 b5 c n q ∧ Turn (fun _ => True) own own' w wx

theorem foldl_set : ∀ (l : List Value) (k : Nat) (arr : Array Value), k + l.length ≤ arr.size → ∀ j, (List.foldl (fun (cs : Array Value) (x : Value × Nat) => cs.setIfInBounds x.snd x.fst) arr (l.zipIdx k))[j]? = if k ≤ j ∧ j < k + l.length then l[j - k]? else arr[j]?
  | [], k, arr, h, j => by simp; omega
  | a :: r, k, arr, h, j => by
    rw [List.zipIdx_cons, List.foldl_cons, foldl_set r (k + 1) _ (by simp at h ⊢; omega) j]
    simp only [List.length_cons] at h ⊢
    by_cases h1 : k + 1 ≤ j ∧ j < k + 1 + r.length
    · rw [if_pos h1, if_pos ⟨by omega, by omega⟩, show j - k = (j - (k + 1)) + 1 by omega, List.getElem?_cons_succ]
    · rw [if_neg h1]
      by_cases h2 : j = k
      · subst h2
        rw [if_pos ⟨Nat.le_refl _, by omega⟩, Nat.sub_self, List.getElem?_cons_zero, Array.getElem?_setIfInBounds_self_of_lt (by omega)]
      · rw [if_neg (by omega), Array.getElem?_setIfInBounds_ne (by omega)]

theorem built_cells {l : List Value} {arr : Array Value} (h : l.length = arr.size) : List.foldl (fun (cs : Array Value) (x : Value × Nat) => cs.setIfInBounds x.snd x.fst) arr l.zipIdx = l.toArray := by
  apply Array.ext_getElem?
  intro j
  rw [foldl_set l 0 arr (by omega) j]
  by_cases h1 : j < l.length
  · rw [if_pos ⟨by omega, by omega⟩]; simp
  · rw [if_neg (by omega), Array.getElem?_eq_none (by omega), Array.getElem?_eq_none (by simp; omega)]

theorem Try.infoInt : (Try.prog.info? 3).map (fun i => (i.zero, i.size, i.bytes)) = some (some (.int .i64 0), 1, 8) := by kernel_rfl

theorem Try.infoFunc : (Try.prog.info? 1).map (fun i => (i.zero, i.size, i.bytes)) = some (some .nilFunc, 1, 8) := by kernel_rfl

/-- Two new boxes. -/
theorem two_boxes (A : Tag → Prop) (own : Own) (w : World) (a1 a2 : List Value) (t1 t2 : TypeId) :
    Turn A own ((own.at w.heap.size .box).at (w.heap.size + 1) .box) w ((w.alloc (.cells a1.toArray t1)).alloc (.cells a2.toArray t2)) ∧
    boxAt ((w.alloc (.cells a1.toArray t1)).alloc (.cells a2.toArray t2)) ((own.at w.heap.size .box).at (w.heap.size + 1) .box) w.heap.size a1 ∧
    boxAt ((w.alloc (.cells a1.toArray t1)).alloc (.cells a2.toArray t2)) ((own.at w.heap.size .box).at (w.heap.size + 1) .box) (w.heap.size + 1) a2 := by
  have hB : Below w.heap.size w ((w.alloc (.cells a1.toArray t1)).alloc (.cells a2.toArray t2)) := ((Below.refl _ w).alloc (Nat.le_refl _) _).alloc (by simp) _
  refine ⟨((Turn.tag own w .box (Nat.le_refl _)).trans (Turn.tag _ w .box (Nat.le_succ _))).trans (Turn.below hB), ⟨?_, t1, ?_⟩, ⟨Own.at_same _ _ _, t2, ?_⟩⟩
  · rw [Own.at_other _ _ (by omega)]; exact Own.at_same _ _ _
  · rw [Below.heap_alloc _ _ _ (by simp)]; exact heap_alloc_new _ _
  · have := heap_alloc_new (w.alloc (.cells a1.toArray t1)) (.cells a2.toArray t2)
    simpa using this

/-- One new box. -/
theorem one_box (A : Tag → Prop) (own : Own) (w : World) (a1 : List Value) (t1 : TypeId) :
    Turn A own (own.at w.heap.size .box) w (w.alloc (.cells a1.toArray t1)) ∧ boxAt (w.alloc (.cells a1.toArray t1)) (own.at w.heap.size .box) w.heap.size a1 :=
  ⟨(Turn.tag own w .box (Nat.le_refl _)).trans (Turn.below ((Below.refl _ w).alloc (Nat.le_refl _) _)), Own.at_same _ _ _, t1, heap_alloc_new _ _⟩

set_option maxHeartbeats 4000000 in
set_option maxRecDepth 100000 in
theorem bring_any {w : World} {own : Own} {p : Nat} {L : Loc} {S : Sto} (h : Raw w own p L S) {c : List Int} (hc : c.length = 9) (hI : ∀ x ∈ c, I64 x) {q n : Nat} (hq : c[0]? = some (q : Int)) (hn : S.C.length = n) (hn2 : n < 1099511627776) (hnb : S.bs.length = n) (hnk : S.ks.length = n) (hbo : 0 ≤ S.born ∧ S.born < 1099511627776) (hn13 : L.n1 < 1099511627776 ∧ L.n2 < 1099511627776 ∧ L.n3 < 1099511627776) (hj : S.N = keyAt litI S.C ∧ ∀ c', c' ∈ S.C → litI c' ≠ litI c) (hOW : (∀ l, (S.O l).length ≤ n) ∧ ∀ l, (S.W l).length ≤ 8 * n) {na : Nat} (ha : S.ar[q]? = some (na : Int) ∧ na ≤ 8) :
    Calls Try.prog 28 #[.pointer (some ⟨p, 0, none⟩), .agg (ints c).toArray] w fun e w' => e = .returned (.tuple #[]) ∧ ∃ own' L' ks', Raw w' own' p L' { S with C := S.C ++ [c], bs := S.bs ++ [S.born], ks := ks', born := S.born + 1, N := keyAt litI (S.C ++ [c]), O := setL S.O (.int .i64 q) (S.O (.int .i64 q) ++ [(n : Int)]), W := whF S.W c n q na } ∧ ks'.length = n + 1 ∧ L'.n1 = L.n1 + 1 ∧ L'.n2 = L.n2 + 1 ∧ L'.n3 = L.n3 + na ∧ Turn (fun _ => True) own own' w w' := by
  obtain ⟨vr, cr, hvr, -, -⟩ := h.rows.form
  rw [hn] at hvr
  have c1 := h.c1
  rw [hvr] at c1
  have hplt := h.plt
  have e0 : (ints c).toArray[0]? = some (.int .i64 (q : Int)) := by simp [hq]
  have HR := hide h
  have HN := hide (And.intro hn hn2)
  have HC := hide (And.intro hc hI)
  have HNb := hide hnb
  have HNk := hide hnk
  have HBo := hide hbo
  have HNn := hide hn13
  have HJ := hide hj
  have HOW := hide hOW
  have HA := hide ha
  have HQ : Hid (I64 (q : Int)) := hI _ (List.mem_of_getElem? hq)
  clear h hq hn hn2 hc hI hnb hnk hbo hn13 hj hOW ha
  go_enter Try.func28, Try.ntmps28
  go_upto_region 0 with fail
  go_cut [2, 3] (fun t2 t3 wc => ∃ b2 b3 own', t2 = .pointer (some ⟨b2, 0, none⟩) ∧ t3 = .pointer (some ⟨b3, 0, none⟩) ∧ Hid (Raw wc own' p L S) ∧ Hid (boxAt wc own' b2 [.pointer (some ⟨p, 0, none⟩)]) ∧ Hid (boxAt wc own' b3 (ints c)) ∧ Hid (Turn (fun _ => True) own own' w wc))
  case first =>
    go_wp2
    go_meet
    obtain ⟨hT, h2, h3⟩ := two_boxes (fun _ => False) own w [.pointer (some ⟨p, 0, none⟩)] (ints c) 27 56
    exact ⟨_, _, _, rfl, rfl, HR.out.keep hT (fun _ => id), h2, h3, hT.mono (fun _ h => h.elim)⟩
  case rest =>
    obtain ⟨b2, b3, own1, rfl, rfl, HR1, HB2, HB3, HT1⟩ := hcut
    clear HR c1 hplt
    have c1 := HR1.out.c1
    rw [hvr] at c1
    have k2 := HB2.out.cell (j := 0) rfl
    have k3 := HB3.out.cell (j := 0) (u := .int .i64 (q : Int)) (by simpa using e0)
    have l2 := lt_of_cell k2
    have l3 := lt_of_cell k3
    have lp := lt_of_cell c1
    simp only at l2 l3 lp
    go_upto_region 1 with fail
    go_cut [4, 5] (fun t4 t5 wx => ∃ b4 b5 own', t4 = .pointer (some ⟨b4, 0, none⟩) ∧ t5 = .pointer (some ⟨b5, 0, none⟩) ∧ Hid (Raw wx own' p L S) ∧ Hid (Boxes wx own' p b2 b3 b4 b5 c n q) ∧ Hid (Turn (fun _ => True) own1 own' wc wx))
    case first =>
      go_region_held3 (fun w' => w'.cell? ⟨b2, 0, none⟩ = some (.pointer (some ⟨p, 0, none⟩)) ∧ w'.cell? ⟨p, 1, none⟩ = some (.slice vr n cr) ∧ w'.cell? ⟨b3, 0, none⟩ = some (.int .i64 (q : Int))) (go_keep) (fail)
      all_goals (go_wp2; go_meet)
      case rel =>
        obtain ⟨hT, h2, h3⟩ := two_boxes (fun _ => False) own1 wc [.int .i64 (n : Int)] [.int .i64 (q : Int)] 3 3
        exact ⟨_, _, _, rfl, rfl, HR1.out.keep hT.drew (fun _ => id), ⟨HB2.out.keep hT.drew id, HB3.out.keep hT.drew id, h2, h3⟩, hT.drew.mono (fun _ h => h.elim)⟩
      case rel =>
        obtain ⟨hT, h2, h3⟩ := two_boxes (fun _ => False) own1 wc [.int .i64 (q : Int)] [.int .i64 (n : Int)] 3 3
        exact ⟨_, _, _, rfl, rfl, HR1.out.keep hT.drew (fun _ => id), ⟨HB2.out.keep hT.drew id, HB3.out.keep hT.drew id, h3, h2⟩, hT.drew.mono (fun _ h => h.elim)⟩
    case rest =>
      obtain ⟨b4, b5, own2, rfl, rfl, HR2, HB, HT2⟩ := hcut
      clear HR1 HB2 HB3 c1 k2 k3 l2 l3 lp
      have HT := hide (HT1.out.trans HT2.out)
      clear HT1 HT2
      have c1 := HR2.out.c1
      rw [hvr] at c1
      have k2 := HB.out.s.cell (j := 0) rfl
      have k3 := HB.out.c.range
      have l2 := lt_of_cell k2
      have lp := lt_of_cell c1
      simp only at l2 lp
      obtain ⟨i0, hi0, hz0, hz1, hz2⟩ := info_parts Try.infoCells
      have hu := Try.underlying56
      have hinf : (Try.prog.info? 56).map (·.size) = some (ints c).length := by rw [List.length_map, HC.out.1]; kernel_rfl
      have hl9 : (ints c).length = 9 := by rw [List.length_map, HC.out.1]
      have hone : ∀ v ∈ ints c, v.oneCell' = true := fun v hv => by obtain ⟨x, _, rfl⟩ := List.mem_map.1 hv; rfl
      go_upto_region 2 with fail
      go_cut [] (fun wx => Hid (Mid w own p b2 b3 b4 b5 c n q L.n1 L.n2 L.n3 { S with C := S.C ++ [c] } wx))
      case first =>
        have hbc : List.foldl (fun (cs : Array Value) (x : Value × Nat) => cs.setIfInBounds x.snd x.fst) #[.int .i64 0, .int .i64 0, .int .i64 0, .int .i64 0, .int .i64 0, .int .i64 0, .int .i64 0, .int .i64 0, .int .i64 0] (ints c).zipIdx = (ints c).toArray := built_cells (by rw [hl9]; rfl)
        have HBl : Hid (∀ o, Below wc.heap.size wc (wc.alloc o).drew) := fun o => ((Below.refl _ wc).alloc (Nat.le_refl _) _).drew
        have HNw : Hid (∀ j u, (ints c)[j]? = some u → (wc.alloc (.cells (ints c).toArray 56)).drew.cell? ((⟨wc.heap.size, 0, none⟩ : Addr).add j) = some u) := fun j u hu => by
          rw [addr_add, Nat.zero_add]
          have hh : (wc.alloc (.cells (ints c).toArray 56)).drew.heap[wc.heap.size]? = some (.cells (ints c).toArray 56 (0, 0)) := heap_alloc_new wc _
          simp only [World.cell?, hh]
          simpa using hu
        have HS0 : Hid (∀ W, Below wc.heap.size wc W → (W.cell? ⟨b2, 0, none⟩ = some (.pointer (some ⟨p, 0, none⟩)) ∧ W.cell? ⟨p, 1, none⟩ = some (.slice vr n cr) ∧ W.rangeAt b3 0 (ints c))) := fun W hB => ⟨kept_cell hB k2, kept_cell hB c1, fun j v hv => kept_cell hB (k3 j v hv)⟩
        have HRow : Hid ((wc.alloc (.cells (ints c).toArray 56)).drew.ownsRow 0 56 9 (.slice vr n cr) n (S.C.flatMap ints)) := by
          have := (HR2.out.below (HBl.out (.cells (ints c).toArray 56))).rows.1
          rw [hvr, HN.out.1] at this
          exact this
        refine wp_region_last (by kernel_rfl) (fun w' => w'.cell? ⟨b2, 0, none⟩ = some (.pointer (some ⟨p, 0, none⟩)) ∧ w'.cell? ⟨p, 1, none⟩ = some (.slice vr n cr) ∧ w'.rangeAt b3 0 (ints c)) 10 ?_
        have HS1 := HS0.out wc.drew (Below.refl _ wc).drew
        refine wpAnyM_take (i := 0) (v := ?_) rfl (by kernel_rfl) (by kernel_rfl) (by kernel_rfl) (by kernel_rfl) (fun _ _ _ h => h) HS1 (Or.inl ⟨by rfl, ?_⟩) ?_
        rotate_left
        · (intro w hSw; (try dsimp only at hSw); go_simp; try with_reducible rfl)
        simp only [Act.put, List.setIfInBounds_toArray, List.set_cons_zero, List.set_cons_succ]
        refine wpAnyM_take (i := 1) (v := ?_) rfl (by kernel_rfl) (by kernel_rfl) (by kernel_rfl) (by kernel_rfl) (fun _ _ _ h => h) HS1 (Or.inl ⟨by rfl, ?_⟩) ?_
        rotate_left
        · (intro w hSw; (try dsimp only at hSw); go_simp; try with_reducible rfl)
        simp only [Act.put, List.setIfInBounds_toArray, List.set_cons_zero, List.set_cons_succ]
        refine wpAnyM_take (i := 2) (v := ?_) rfl (by kernel_rfl) (by kernel_rfl) (by kernel_rfl) (by kernel_rfl) (fun _ _ _ h => h) HS1 (Or.inl ⟨by rfl, ?_⟩) ?_
        rotate_left
        · (intro w hSw; (try dsimp only at hSw); go_simp; try with_reducible rfl)
        simp only [Act.put, List.setIfInBounds_toArray, List.set_cons_zero, List.set_cons_succ]
        refine wpAnyM_take (i := 3) (v := ?_) rfl (by kernel_rfl) (by kernel_rfl) (by kernel_rfl) (by kernel_rfl) (fun _ _ _ h => h) HS1 (Or.inl ⟨by rfl, ?_⟩) ?_
        rotate_left
        · (intro w hSw; (try dsimp only at hSw); go_simp; try with_reducible rfl)
        simp only [Act.put, List.setIfInBounds_toArray, List.set_cons_zero, List.set_cons_succ]
        refine wpAnyM_take (i := 4) (v := ?_) rfl (by kernel_rfl) (by kernel_rfl) (by kernel_rfl) (by kernel_rfl) (fun _ _ _ h => h) HS1 (Or.inl ⟨by rfl, ?_⟩) ?_
        rotate_left
        · (intro w hSw; (try dsimp only at hSw); go_simp; try with_reducible rfl)
        simp only [Act.put, List.setIfInBounds_toArray, List.set_cons_zero, List.set_cons_succ]
        refine wpAnyM_take (i := 5) (v := _) rfl (by kernel_rfl) (by kernel_rfl) (by kernel_rfl) (by kernel_rfl) (fun _ _ _ h => h) HS1 (yieldsIf_load_mid (by rfl) _ _ rfl _ _ rfl _ _ (fun w h => h.2.2) hu rfl hinf) ?_
        simp only [Act.put, List.setIfInBounds_toArray, List.set_cons_zero, List.set_cons_succ]
        refine wpAnyM_one (i := 6) (by kernel_rfl) rfl (fun K hK => ?_)
        go_simp
        refine hK.out _ _ (HS0.out _ ((Below.refl _ wc).alloc (Nat.le_refl _) _).drew) (fun _ => ?_)
        clear hK K
        refine wpAnyM_one (i := 7) (by kernel_rfl) rfl (fun K hK => ?_)
        refine step_append_lies _ (by rfl) _ _ _ (by rfl) 0 56 i0 _ 9 72 Try.underlying59 hi0 hz0 hz1 hz2 rfl (by decide) (.slice vr n cr) n (S.C.flatMap ints) (by rfl) HRow.out ⟨wc.heap.size, 0, none⟩ 1 1 (ints c) (by rfl) (by rw [hl9]) HNw.out hone (by omega) (by have := HN.out.2; unfold maxLen; omega) (by have := HN.out.2; omega) (by omega) (wc.heap.size + 1) (by simp) ?_
        intro g cap w1 hown1 hgrow hat hlt
        obtain ⟨hT1, d1, d2, hR3, hT3⟩ := HR2.out.push_rows (c := c) (HBl.out _) (by rw [hvr]; exact hgrow) HN.out.1.symm hown1 (by rw [hvr]; exact hat.imp id (fun e => by omega))
        rw [hvr] at d1
        have hb1 := HB.out.keep hT1 (by simp)
        have HB3 := hide (HB.out.keep hT3 (by simp))
        have HS2 := And.intro (hb1.s.cell (j := 0) rfl) (And.intro d1 hb1.c.range)
        have HR3 := hide hR3
        have HT3 := hide hT3
        clear hT1 hR3 hT3 hb1 hown1 hgrow hat
        refine hK.out _ _ HS2 (fun _ => ?_)
        clear hK K
        simp only [Act.put, List.setIfInBounds_toArray, List.set_cons_zero, List.set_cons_succ]
        refine wpAnyM_one (i := 8) (by kernel_rfl) rfl (fun K hK => ?_)
        go_simp
        refine hK.out _ _ HS2 (fun _ => ?_)
        clear hK K
        refine wpAnyM_one (i := 9) (by kernel_rfl) rfl (fun K hK => ?_)
        go_simp
        refine hK.out _ _ HS2 (fun _ => ?_)
        clear hK K
        refine wpAnyM_end (by kernel_rfl) rfl (by kernel_rfl) (fun K hK => ?_)
        go_simp
        refine hK.out _ _ ?_
        clear hK K
        go_wp2
        go_meet
        refine ⟨_, _, ?_, ?_, ?_, HR3.out, HB3.out, HT.out.trans (HT3.out.mono (fun _ _ => trivial))⟩ <;> rfl
      case rest =>
        clear HR2 HB HT c1 k2 k3 l2 lp hvr
        clear i0 hi0 hz0 hz1 hz2
        have hmid := hcut.out
        clear hcut
        obtain ⟨own3, L3, e1, e2, e3, hR3, hB3, hT3⟩ := hmid
        have HE := hide (And.intro e1 (And.intro e2 e3))
        have HR3 := hide hR3
        have HB3 := hide hB3
        have HT3 := hide hT3
        clear e1 e2 e3 hR3 hB3 hT3
        obtain ⟨vb, cb, hvb, -, -⟩ := HR3.out.births.form
        simp only [HNb.out] at hvb
        have c2 := HR3.out.c2
        rw [hvb] at c2
        have c4 := HR3.out.c4
        simp only at c4
        have k2 := HB3.out.s.cell (j := 0) rfl
        obtain ⟨i0, hi0, hz0, hz1, hz2⟩ := info_parts Try.infoInt
        go_upto_region 3 with fail
        go_cut [] (fun wx => Hid (Mid w own p b2 b3 b4 b5 c n q L.n1 L.n2 L.n3 { S with C := S.C ++ [c], bs := S.bs ++ [S.born] } wx))
        case first =>
          have HBl : Hid (∀ o, Below wc.heap.size wc (wc.alloc o).drew) := fun o => ((Below.refl _ wc).alloc (Nat.le_refl _) _).drew
          have HS0 : Hid (∀ W, Below wc.heap.size wc W → (W.cell? ⟨b2, 0, none⟩ = some (.pointer (some ⟨p, 0, none⟩)) ∧ W.cell? ⟨p, 2, none⟩ = some (.slice vb n cb) ∧ W.cell? ⟨p, 4, none⟩ = some (.int .i64 S.born))) := fun W hB => ⟨kept_cell hB k2, kept_cell hB c2, kept_cell hB c4⟩
          have HRow : Hid ((wc.alloc (.cells #[.int .i64 S.born] 3)).drew.ownsRow 0 3 1 (.slice vb n cb) n (ints S.bs)) := by
            have := (HR3.out.below (HBl.out (.cells #[.int .i64 S.born] 3))).births.1
            simp only [hvb, HNb.out] at this
            exact this
          have HNw : Hid (∀ j u, [Value.int .i64 S.born][j]? = some u → (wc.alloc (.cells #[.int .i64 S.born] 3)).drew.cell? ((⟨wc.heap.size, 0, none⟩ : Addr).add j) = some u) := fun j u hu => by
            rw [addr_add, Nat.zero_add]
            have hh : (wc.alloc (.cells #[.int .i64 S.born] 3)).drew.heap[wc.heap.size]? = some (.cells #[.int .i64 S.born] 3 (0, 0)) := heap_alloc_new wc _
            simp only [World.cell?, hh]
            simpa using hu
          refine wp_region_last (by kernel_rfl) (fun w' => w'.cell? ⟨b2, 0, none⟩ = some (.pointer (some ⟨p, 0, none⟩)) ∧ w'.cell? ⟨p, 2, none⟩ = some (.slice vb n cb) ∧ w'.cell? ⟨p, 4, none⟩ = some (.int .i64 S.born)) 13 ?_
          have HS1 := HS0.out wc.drew (Below.refl _ wc).drew
          refine wpAnyM_take (i := 0) (v := ?_) rfl (by kernel_rfl) (by kernel_rfl) (by kernel_rfl) (by kernel_rfl) (fun _ _ _ h => h) HS1 (Or.inl ⟨by rfl, ?_⟩) ?_
          rotate_left
          · (intro w hSw; (try dsimp only at hSw); go_simp; try with_reducible rfl)
          simp only [Act.put, List.setIfInBounds_toArray, List.set_cons_zero, List.set_cons_succ]
          refine wpAnyM_take (i := 1) (v := ?_) rfl (by kernel_rfl) (by kernel_rfl) (by kernel_rfl) (by kernel_rfl) (fun _ _ _ h => h) HS1 (Or.inl ⟨by rfl, ?_⟩) ?_
          rotate_left
          · (intro w hSw; (try dsimp only at hSw); go_simp; try with_reducible rfl)
          simp only [Act.put, List.setIfInBounds_toArray, List.set_cons_zero, List.set_cons_succ]
          refine wpAnyM_take (i := 2) (v := ?_) rfl (by kernel_rfl) (by kernel_rfl) (by kernel_rfl) (by kernel_rfl) (fun _ _ _ h => h) HS1 (Or.inl ⟨by rfl, ?_⟩) ?_
          rotate_left
          · (intro w hSw; (try dsimp only at hSw); go_simp; try with_reducible rfl)
          simp only [Act.put, List.setIfInBounds_toArray, List.set_cons_zero, List.set_cons_succ]
          refine wpAnyM_take (i := 3) (v := ?_) rfl (by kernel_rfl) (by kernel_rfl) (by kernel_rfl) (by kernel_rfl) (fun _ _ _ h => h) HS1 (Or.inl ⟨by rfl, ?_⟩) ?_
          rotate_left
          · (intro w hSw; (try dsimp only at hSw); go_simp; try with_reducible rfl)
          simp only [Act.put, List.setIfInBounds_toArray, List.set_cons_zero, List.set_cons_succ]
          refine wpAnyM_take (i := 4) (v := ?_) rfl (by kernel_rfl) (by kernel_rfl) (by kernel_rfl) (by kernel_rfl) (fun _ _ _ h => h) HS1 (Or.inl ⟨by rfl, ?_⟩) ?_
          rotate_left
          · (intro w hSw; (try dsimp only at hSw); go_simp; try with_reducible rfl)
          simp only [Act.put, List.setIfInBounds_toArray, List.set_cons_zero, List.set_cons_succ]
          refine wpAnyM_take (i := 5) (v := ?_) rfl (by kernel_rfl) (by kernel_rfl) (by kernel_rfl) (by kernel_rfl) (fun _ _ _ h => h) HS1 (Or.inl ⟨by rfl, ?_⟩) ?_
          rotate_left
          · (intro w hSw; (try dsimp only at hSw); go_simp; try with_reducible rfl)
          simp only [Act.put, List.setIfInBounds_toArray, List.set_cons_zero, List.set_cons_succ]
          refine wpAnyM_take (i := 6) (v := ?_) rfl (by kernel_rfl) (by kernel_rfl) (by kernel_rfl) (by kernel_rfl) (fun _ _ _ h => h) HS1 (Or.inl ⟨by rfl, ?_⟩) ?_
          rotate_left
          · (intro w hSw; (try dsimp only at hSw); go_simp; try with_reducible rfl)
          simp only [Act.put, List.setIfInBounds_toArray, List.set_cons_zero, List.set_cons_succ]
          refine wpAnyM_take (i := 7) (v := ?_) rfl (by kernel_rfl) (by kernel_rfl) (by kernel_rfl) (by kernel_rfl) (fun _ _ _ h => h) HS1 (Or.inl ⟨by rfl, ?_⟩) ?_
          rotate_left
          · (intro w hSw; (try dsimp only at hSw); go_simp; try with_reducible rfl)
          simp only [Act.put, List.setIfInBounds_toArray, List.set_cons_zero, List.set_cons_succ]
          refine wpAnyM_take (i := 8) (v := ?_) rfl (by kernel_rfl) (by kernel_rfl) (by kernel_rfl) (by kernel_rfl) (fun _ _ _ h => h) HS1 (Or.inl ⟨by rfl, ?_⟩) ?_
          rotate_left
          · (intro w hSw; (try dsimp only at hSw); go_simp; try with_reducible rfl)
          simp only [Act.put, List.setIfInBounds_toArray, List.set_cons_zero, List.set_cons_succ]
          refine wpAnyM_one (i := 9) (by kernel_rfl) rfl (fun K hK => ?_)
          go_simp
          refine hK.out _ _ (HS0.out _ ((Below.refl _ wc).alloc (Nat.le_refl _) _).drew) (fun _ => ?_)
          clear hK K
          refine wpAnyM_one (i := 10) (by kernel_rfl) rfl (fun K hK => ?_)
          refine step_append_lies _ (by rfl) _ _ _ (by rfl) 0 3 i0 _ 1 8 Try.underlying22 hi0 hz0 hz1 hz2 rfl (by decide) (.slice vb n cb) n (ints S.bs) (by rfl) HRow.out ⟨wc.heap.size, 0, none⟩ 1 1 [.int .i64 S.born] (by rfl) (by rfl) HNw.out (by simp [Value.oneCell']) (by omega) (by have := HN.out.2; unfold maxLen; omega) (by have := HN.out.2; omega) (by omega) (wc.heap.size + 1) (by simp) ?_
          intro g cap w1 hown1 hgrow hat hlt
          obtain ⟨hT1, d1, d2, hR4, hT4⟩ := HR3.out.push_births (x := S.born) (HBl.out _) (by rw [hvb]; exact hgrow) HNb.out.symm hown1 (by rw [hvb]; exact hat.imp id (fun e => by omega))
          rw [hvb] at d1
          have hb1 := HB3.out.keep hT1 (by simp)
          have hr1 : w1.cell? ⟨p, 4, none⟩ = some (.int .i64 S.born) := by rw [World.cell?_of_block (w := wc) (hT1.block HR3.out.plt (fun t ht => by rw [HR3.out.tme] at ht; cases ht; simp))]; exact c4
          have HB4 := hide (HB3.out.keep hT4 (by simp))
          have HS2 := And.intro (hb1.s.cell (j := 0) rfl) (And.intro d1 hr1)
          have HR4 := hide hR4
          have HT4 := hide hT4
          clear hT1 hR4 hT4 hb1 hown1 hgrow hat hr1
          refine hK.out _ _ HS2 (fun _ => ?_)
          clear hK K
          simp only [Act.put, List.setIfInBounds_toArray, List.set_cons_zero, List.set_cons_succ]
          refine wpAnyM_one (i := 11) (by kernel_rfl) rfl (fun K hK => ?_)
          go_simp
          refine hK.out _ _ HS2 (fun _ => ?_)
          clear hK K
          refine wpAnyM_one (i := 12) (by kernel_rfl) rfl (fun K hK => ?_)
          go_simp
          refine hK.out _ _ HS2 (fun _ => ?_)
          clear hK K
          refine wpAnyM_end (by kernel_rfl) rfl (by kernel_rfl) (fun K hK => ?_)
          go_simp
          refine hK.out _ _ ?_
          clear hK K
          go_wp2
          go_meet
          refine ⟨_, _, ?_, ?_, ?_, HR4.out, HB4.out, HT3.out.trans (HT4.out.mono (fun _ _ => trivial))⟩
          · exact HE.out.1
          · exact HE.out.2.1
          · exact HE.out.2.2
        case rest =>
          clear HR3 HB3 HT3 HE c2 c4 k2 hvb
          clear i0 hi0 hz0 hz1 hz2
          have hmid := hcut.out
          clear hcut
          obtain ⟨own4, L4, e1, e2, e3, hR4, hB4, hT4⟩ := hmid
          have HE := hide (And.intro e1 (And.intro e2 e3))
          have HR4 := hide hR4
          have HB4 := hide hB4
          have HT4 := hide hT4
          clear e1 e2 e3 hR4 hB4 hT4
          have c4 := HR4.out.c4
          have f4 := HR4.out.fz 4
          simp only at c4
          have k2 := HB4.out.s.cell (j := 0) rfl
          have hbo1 := HBo.out.1
          have hbo2 := HBo.out.2
          go_upto_region 5 with fail
          obtain ⟨hR5, hT5⟩ := HR4.out.set_born (S.born + 1)
          have HB5 := hide (HB4.out.keep hT5 (by simp))
          have HT5 := hide (HT4.out.trans (hT5.mono (fun _ _ => trivial)))
          have HR5 := hide hR5
          clear hR5 hT5 HR4 HB4 HT4 c4 f4 k2 hbo1 hbo2
          revert HR5 HB5 HT5
          generalize wc.setCell ⟨p, 4, none⟩ (.int .i64 (S.born + 1)) = W5
          intro HB5 HT5 HR5
          have c5 := HR5.out.c5
          have k2 := HB5.out.s.cell (j := 0) rfl
          have k3 := HB5.out.c.range
          have k4 := HB5.out.n.cell (j := 0) rfl
          obtain ⟨w2, hup, hM2, hO2⟩ := (HR5.out.below (Below.refl _ W5).drew).nums.store (t := 61) (Keyed.of_law lawCells) Try.underlying61 Try.underlying3 (by have := HE.out.1; have := HNn.out.1; unfold maxLen; omega) (keyOf_cells HC.out.1 HC.out.2) (i := n) (WalkArith.wf_i64 (by have := HN.out.2; omega)) (keyAt litI (S.C ++ [c])) (fun j => by rw [keyAt_snoc_same HJ.out.2 j, HN.out.1]) (fun l' hl' j => by rw [keyAt_snoc_other hl' j]; simp only [HJ.out.1])
          obtain ⟨hR6, hT6⟩ := (HR5.out.below (Below.refl _ W5).drew).set_nums hM2 hO2
          have HB6 := hide ((HB5.out.keep (A := fun _ => False) (Turn.below (Below.refl _ W5).drew) id).keep hT6 (by simp))
          have HT6 := hide (HT5.out.drew.trans (hT6.mono (fun _ _ => trivial)))
          have HR6 := hide hR6
          have HM2 := hide hM2
          clear hR6 hT6 hO2 hM2
          go_cut [] (fun wx => Hid (Mid w own p b2 b3 b4 b5 c n q (L.n1 + 1) L.n2 L.n3 { S with C := S.C ++ [c], bs := S.bs ++ [S.born], born := S.born + 1, N := keyAt litI (S.C ++ [c]) } wx))
          case first =>
            refine wp_region_last (by kernel_rfl) (fun w' => w'.cell? ⟨b2, 0, none⟩ = some (.pointer (some ⟨p, 0, none⟩)) ∧ w'.cell? ⟨p, 5, none⟩ = some (.map (some L4.m1)) ∧ w'.cell? ⟨b4, 0, none⟩ = some (.int .i64 n) ∧ w'.rangeAt b3 0 (ints c)) 6 ?_
            have HS1 := And.intro (kept_cell (Below.refl _ W5).drew k2) (And.intro (kept_cell (Below.refl _ W5).drew c5) (And.intro (kept_cell (Below.refl _ W5).drew k4) (fun j v hv => kept_cell (Below.refl _ W5).drew (k3 j v hv) : W5.drew.rangeAt b3 0 (ints c))))
            refine wpAnyM_take (i := 0) (v := ?_) rfl (by kernel_rfl) (by kernel_rfl) (by kernel_rfl) (by kernel_rfl) (fun _ _ _ h => h) HS1 (Or.inl ⟨by rfl, ?_⟩) ?_
            rotate_left
            · (intro w hSw; (try dsimp only at hSw); go_simp; try with_reducible rfl)
            simp only [Act.put, List.setIfInBounds_toArray, List.set_cons_zero, List.set_cons_succ]
            refine wpAnyM_take (i := 1) (v := ?_) rfl (by kernel_rfl) (by kernel_rfl) (by kernel_rfl) (by kernel_rfl) (fun _ _ _ h => h) HS1 (Or.inl ⟨by rfl, ?_⟩) ?_
            rotate_left
            · (intro w hSw; (try dsimp only at hSw); go_simp; try with_reducible rfl)
            simp only [Act.put, List.setIfInBounds_toArray, List.set_cons_zero, List.set_cons_succ]
            refine wpAnyM_take (i := 2) (v := ?_) rfl (by kernel_rfl) (by kernel_rfl) (by kernel_rfl) (by kernel_rfl) (fun _ _ _ h => h) HS1 (Or.inl ⟨by rfl, ?_⟩) ?_
            rotate_left
            · (intro w hSw; (try dsimp only at hSw); go_simp; try with_reducible rfl)
            simp only [Act.put, List.setIfInBounds_toArray, List.set_cons_zero, List.set_cons_succ]
            refine wpAnyM_take (i := 3) (v := ?_) rfl (by kernel_rfl) (by kernel_rfl) (by kernel_rfl) (by kernel_rfl) (fun _ _ _ h => h) HS1 (Or.inl ⟨by rfl, ?_⟩) ?_
            rotate_left
            · (intro w hSw; (try dsimp only at hSw); go_simp; try with_reducible rfl)
            simp only [Act.put, List.setIfInBounds_toArray, List.set_cons_zero, List.set_cons_succ]
            refine wpAnyM_take (i := 4) (v := _) rfl (by kernel_rfl) (by kernel_rfl) (by kernel_rfl) (by kernel_rfl) (fun _ _ _ h => h) HS1 (yieldsIf_load_mid (by rfl) _ _ rfl _ _ rfl _ _ (fun w h => h.2.2.2) hu rfl hinf) ?_
            simp only [Act.put, List.setIfInBounds_toArray, List.set_cons_zero, List.set_cons_succ]
            refine wpAnyM_take (i := 5) (v := ?_) rfl (by kernel_rfl) (by kernel_rfl) (by kernel_rfl) (by kernel_rfl) (fun _ _ _ h => h) HS1 (Or.inl ⟨by rfl, ?_⟩) ?_
            rotate_left
            · (intro w hSw; (try dsimp only at hSw); go_simp; try with_reducible rfl)
            simp only [Act.put, List.setIfInBounds_toArray, List.set_cons_zero, List.set_cons_succ]
            refine wpAnyM_end (by kernel_rfl) rfl (by kernel_rfl) (fun K hK => ?_)
            go_simp
            refine hK.out _ _ ?_
            clear hK K
            go_wp2
            go_meet
            refine ⟨_, _, ?_, ?_, ?_, HR6.out, HB6.out, HT6.out⟩
            · show L4.n1 + 1 = _
              rw [HE.out.1]
            · exact HE.out.2.1
            · exact HE.out.2.2
          case rest =>
            clear HR5 HB5 HT5 HR6 HB6 HT6 HE HM2 c5 k2 k3 k4 hup
            have hmid := hcut.out
            clear hcut
            obtain ⟨own5, L5, e1, e2, e3, hR5, hB5, hT5⟩ := hmid
            have HE := hide (And.intro e1 (And.intro e2 e3))
            have HR5 := hide hR5
            have HB5 := hide hB5
            have HT5 := hide hT5
            clear e1 e2 e3 hR5 hB5 hT5
            have c6 := HR5.out.c6
            have k2 := HB5.out.s.cell (j := 0) rfl
            have k4 := HB5.out.n.cell (j := 0) rfl
            have k5 := HB5.out.q.cell (j := 0) rfl
            obtain ⟨i0, hi0, hz0, hz1, hz2⟩ := info_parts Try.infoInt
            obtain ⟨vo, hlook, hvo⟩ := HR5.out.of.look_all (t := 62) (te := 22) lawInt Try.underlying62 zeroInts (keyOf_pred (x := q) HQ.out)
            obtain ⟨ao, co, rfl, -, -⟩ := hvo.form
            simp only at hvo
            have HVO := hide hvo
            have HL := hide hlook
            clear hvo hlook
            obtain ⟨lo, hlo⟩ : ∃ lo, lo = (S.O (.int .i64 q)).length := ⟨_, rfl⟩
            have hlo2 := HOW.out.1 (.int .i64 q)
            rw [← hlo] at hlo2
            simp only [← hlo] at HVO HL
            have HLO := hide hlo
            clear hlo
            go_upto_region 6 with fail
            go_cut [] (fun wx => Hid (Mid w own p b2 b3 b4 b5 c n q (L.n1 + 1) (L.n2 + 1) L.n3 { S with C := S.C ++ [c], bs := S.bs ++ [S.born], born := S.born + 1, N := keyAt litI (S.C ++ [c]), O := setL S.O (.int .i64 q) (S.O (.int .i64 q) ++ [(n : Int)]) } wx))
            case first =>
              have HBl : Hid (∀ o, Below wc.heap.size wc (wc.alloc o).drew) := fun o => ((Below.refl _ wc).alloc (Nat.le_refl _) _).drew
              have HS0 : Hid (∀ W, Below wc.heap.size wc W → (W.cell? ⟨b2, 0, none⟩ = some (.pointer (some ⟨p, 0, none⟩)) ∧ W.cell? ⟨p, 6, none⟩ = some (.map (some L5.m2)) ∧ W.cell? ⟨b4, 0, none⟩ = some (.int .i64 n) ∧ W.cell? ⟨b5, 0, none⟩ = some (.int .i64 q) ∧ (Instr.lookup 62 (.map (some L5.m2)) (.int .i64 q) false).run Try.prog W = .ok (.slice ao lo co) W)) := fun W hB => ⟨kept_cell hB k2, kept_cell hB c6, kept_cell hB k4, kept_cell hB k5, HL.out W (hB.block _ HR5.out.of.lt)⟩
              have HRow : Hid ((wc.alloc (.cells #[.int .i64 n] 3)).drew.ownsRow 0 3 1 (.slice ao lo co) lo (ints (S.O (.int .i64 q)))) := (HVO.out.keep (A := fun _ => False) (Turn.below (HBl.out (.cells #[.int .i64 n] 3))) id).1
              have HNw : Hid (∀ j u, [Value.int .i64 n][j]? = some u → (wc.alloc (.cells #[.int .i64 n] 3)).drew.cell? ((⟨wc.heap.size, 0, none⟩ : Addr).add j) = some u) := fun j u hu => by
                rw [addr_add, Nat.zero_add]
                have hh : (wc.alloc (.cells #[.int .i64 n] 3)).drew.heap[wc.heap.size]? = some (.cells #[.int .i64 n] 3 (0, 0)) := heap_alloc_new wc _
                simp only [World.cell?, hh]
                simpa using hu
              refine wp_region_last (by kernel_rfl) (fun w' => w'.cell? ⟨b2, 0, none⟩ = some (.pointer (some ⟨p, 0, none⟩)) ∧ w'.cell? ⟨p, 6, none⟩ = some (.map (some L5.m2)) ∧ w'.cell? ⟨b4, 0, none⟩ = some (.int .i64 n) ∧ w'.cell? ⟨b5, 0, none⟩ = some (.int .i64 q) ∧ (Instr.lookup 62 (.map (some L5.m2)) (.int .i64 q) false).run Try.prog w' = .ok (.slice ao lo co) w') 14 ?_
              have HS1 := HS0.out wc.drew (Below.refl _ wc).drew
              refine wpAnyM_take (i := 0) (v := ?_) rfl (by kernel_rfl) (by kernel_rfl) (by kernel_rfl) (by kernel_rfl) (fun _ _ _ h => h) HS1 (Or.inl ⟨by rfl, ?_⟩) ?_
              rotate_left
              · (intro w hSw; (try dsimp only at hSw); go_simp; try with_reducible rfl)
              simp only [Act.put, List.setIfInBounds_toArray, List.set_cons_zero, List.set_cons_succ]
              refine wpAnyM_take (i := 1) (v := ?_) rfl (by kernel_rfl) (by kernel_rfl) (by kernel_rfl) (by kernel_rfl) (fun _ _ _ h => h) HS1 (Or.inl ⟨by rfl, ?_⟩) ?_
              rotate_left
              · (intro w hSw; (try dsimp only at hSw); go_simp; try with_reducible rfl)
              simp only [Act.put, List.setIfInBounds_toArray, List.set_cons_zero, List.set_cons_succ]
              refine wpAnyM_take (i := 2) (v := ?_) rfl (by kernel_rfl) (by kernel_rfl) (by kernel_rfl) (by kernel_rfl) (fun _ _ _ h => h) HS1 (Or.inl ⟨by rfl, ?_⟩) ?_
              rotate_left
              · (intro w hSw; (try dsimp only at hSw); go_simp; try with_reducible rfl)
              simp only [Act.put, List.setIfInBounds_toArray, List.set_cons_zero, List.set_cons_succ]
              refine wpAnyM_take (i := 3) (v := ?_) rfl (by kernel_rfl) (by kernel_rfl) (by kernel_rfl) (by kernel_rfl) (fun _ _ _ h => h) HS1 (Or.inl ⟨by rfl, ?_⟩) ?_
              rotate_left
              · (intro w hSw; (try dsimp only at hSw); go_simp; try with_reducible rfl)
              simp only [Act.put, List.setIfInBounds_toArray, List.set_cons_zero, List.set_cons_succ]
              refine wpAnyM_take (i := 4) (v := ?_) rfl (by kernel_rfl) (by kernel_rfl) (by kernel_rfl) (by kernel_rfl) (fun _ _ _ h => h) HS1 (Or.inl ⟨by rfl, ?_⟩) ?_
              rotate_left
              · (intro w hSw; (try dsimp only at hSw); go_simp; try with_reducible rfl)
              simp only [Act.put, List.setIfInBounds_toArray, List.set_cons_zero, List.set_cons_succ]
              refine wpAnyM_take (i := 5) (v := ?_) rfl (by kernel_rfl) (by kernel_rfl) (by kernel_rfl) (by kernel_rfl) (fun _ _ _ h => h) HS1 (Or.inl ⟨by rfl, ?_⟩) ?_
              rotate_left
              · (intro w hSw; (try dsimp only at hSw); go_simp; try with_reducible rfl)
              simp only [Act.put, List.setIfInBounds_toArray, List.set_cons_zero, List.set_cons_succ]
              refine wpAnyM_take (i := 6) (v := ?_) rfl (by kernel_rfl) (by kernel_rfl) (by kernel_rfl) (by kernel_rfl) (fun _ _ _ h => h) HS1 (Or.inl ⟨by rfl, ?_⟩) ?_
              rotate_left
              · (intro w hSw; (try dsimp only at hSw); go_simp; try with_reducible rfl)
              simp only [Act.put, List.setIfInBounds_toArray, List.set_cons_zero, List.set_cons_succ]
              refine wpAnyM_take (i := 7) (v := ?_) rfl (by kernel_rfl) (by kernel_rfl) (by kernel_rfl) (by kernel_rfl) (fun _ _ _ h => h) HS1 (Or.inl ⟨by rfl, ?_⟩) ?_
              rotate_left
              · (intro w hSw; (try dsimp only at hSw); go_simp; try with_reducible rfl)
              simp only [Act.put, List.setIfInBounds_toArray, List.set_cons_zero, List.set_cons_succ]
              refine wpAnyM_take (i := 8) (v := ?_) rfl (by kernel_rfl) (by kernel_rfl) (by kernel_rfl) (by kernel_rfl) (fun _ _ _ h => h) HS1 (Or.inl ⟨by rfl, ?_⟩) ?_
              rotate_left
              · (intro w hSw; (try dsimp only at hSw); go_simp; try with_reducible rfl)
              simp only [Act.put, List.setIfInBounds_toArray, List.set_cons_zero, List.set_cons_succ]
              refine wpAnyM_take (i := 9) (v := ?_) rfl (by kernel_rfl) (by kernel_rfl) (by kernel_rfl) (by kernel_rfl) (fun _ _ _ h => h) HS1 (Or.inl ⟨by rfl, ?_⟩) ?_
              rotate_left
              · (intro w hSw; (try dsimp only at hSw); go_simp; try with_reducible rfl)
              simp only [Act.put, List.setIfInBounds_toArray, List.set_cons_zero, List.set_cons_succ]
              refine wpAnyM_take (i := 10) (v := ?_) rfl (by kernel_rfl) (by kernel_rfl) (by kernel_rfl) (by kernel_rfl) (fun _ _ _ h => h) HS1 (Or.inl ⟨by rfl, ?_⟩) ?_
              rotate_left
              · (intro w hSw; (try dsimp only at hSw); go_simp; try with_reducible rfl)
              simp only [Act.put, List.setIfInBounds_toArray, List.set_cons_zero, List.set_cons_succ]
              refine wpAnyM_take (i := 11) (v := ?_) rfl (by kernel_rfl) (by kernel_rfl) (by kernel_rfl) (by kernel_rfl) (fun _ _ _ h => h) HS1 (Or.inl ⟨by rfl, ?_⟩) ?_
              rotate_left
              · (intro w hSw; (try dsimp only at hSw); go_simp; try with_reducible rfl)
              simp only [Act.put, List.setIfInBounds_toArray, List.set_cons_zero, List.set_cons_succ]
              refine wpAnyM_one (i := 12) (by kernel_rfl) rfl (fun K hK => ?_)
              go_simp
              refine hK.out _ _ (HS0.out _ ((Below.refl _ wc).alloc (Nat.le_refl _) _).drew) (fun _ => ?_)
              clear hK K
              refine wpAnyM_one (i := 13) (by kernel_rfl) rfl (fun K hK => ?_)
              refine step_append_lies _ (by rfl) _ _ _ (by rfl) 0 3 i0 _ 1 8 Try.underlying22 hi0 hz0 hz1 hz2 rfl (by decide) (.slice ao lo co) lo (ints (S.O (.int .i64 q))) (by rfl) HRow.out ⟨wc.heap.size, 0, none⟩ 1 1 [.int .i64 n] (by rfl) (by rfl) HNw.out (by simp [Value.oneCell']) (by omega) (by have := HN.out.2; unfold maxLen; omega) (by have := HN.out.2; omega) (by omega) (wc.heap.size + 1) (by simp) ?_
              intro g cap w1 hown1 hgrow hat hlt
              obtain ⟨w2, hup, hM, hT, hbs, hsz⟩ := HR5.out.of.put (t := 62) (te := 22) lawInt Try.underlying62 (by have := HE.out.2.1; have := HNn.out.2.1; unfold maxLen; omega) (fun a b e => by cases e; rfl) (fun l e => by cases e) (keyOf_pred (x := q) HQ.out) (v := .slice ao lo co) (by simp only [← HLO.out]; exact HVO.out) (HBl.out _) hgrow (x := (n : Int)) (by simp only [← HLO.out]; exact hown1) (hat.imp id (fun e => by omega))
              simp only [← HLO.out] at hup
              have hT1 : Turn (fun t => t = .ofl (.int .i64 q)) own5 (own5.at g (.ofl (.int .i64 q))) wc w1 := (RowIs.pushed HVO.out (HBl.out _) hgrow hown1 (hat.imp id (fun e => by omega))).2
              have hb1 := HB5.out.keep hT1 (by simp)
              have hr1 : w1.cell? ⟨p, 6, none⟩ = some (.map (some L5.m2)) := by rw [World.cell?_of_block (w := wc) (hT1.block HR5.out.plt (fun t ht => by rw [HR5.out.tme] at ht; cases ht; simp))]; exact c6
              have hl1 := HL.out w1 (hT1.block HR5.out.of.lt (fun t ht => by rw [HR5.out.of.1] at ht; cases ht; simp))
              have HB6 := hide (HB5.out.keep hT (by simp))
              have HS2 := And.intro (hb1.s.cell (j := 0) rfl) (And.intro hr1 (And.intro (hb1.n.cell (j := 0) rfl) (And.intro (hb1.q.cell (j := 0) rfl) hl1)))
              have HR6 := hide (HR5.out.set_of hM hT)
              have HT6 := hide hT
              clear hT1 hM hT hb1 hown1 hgrow hat hr1 hl1 hbs hsz
              refine hK.out _ _ HS2 (fun _ => ?_)
              clear hK K HS1 HS2
              simp only [Act.put, List.setIfInBounds_toArray, List.set_cons_zero, List.set_cons_succ]
              refine wpAnyM_end (by kernel_rfl) rfl (by kernel_rfl) (fun K hK => ?_)
              go_simp
              refine hK.out _ _ ?_
              clear hK K
              go_wp2
              go_meet
              refine ⟨_, _, ?_, ?_, ?_, HR6.out, HB6.out, HT5.out.trans (HT6.out.mono (fun _ _ => trivial))⟩
              · exact HE.out.1
              · show L5.n2 + 1 = _
                rw [HE.out.2.1]
              · exact HE.out.2.2
            case rest =>
              clear HR5 HB5 HT5 HE c6 k2 k4 k5 HVO HL hlo2 HLO
              have hmid := hcut.out
              clear hcut
              obtain ⟨own6, L6, e1, e2, e3, hR6, hB6, hT6⟩ := hmid
              have HE := hide (And.intro e1 (And.intro e2 e3))
              have HR6 := hide hR6
              have HB6 := hide hB6
              have HT6 := hide hT6
              clear e1 e2 e3 hR6 hB6 hT6
              have c0 := HR6.out.c0
              obtain ⟨aa, ca, hva, har2⟩ := HR6.out.ar
              obtain ⟨ba, oa, hae, -, hac⟩ := har2.resolve_left (fun e => by simp only at e; rw [e] at HA; exact absurd HA.out.1 (by simp))
              subst hae
              simp only at hac
              have a0 := hac _ _ HA.out.1
              have hql : q < S.ar.length := (List.getElem?_eq_some_iff.1 HA.out.1).1
              rw [hva] at c0
              simp only at c0
              have k2 := HB6.out.s.cell (j := 0) rfl
              have k5 := HB6.out.q.cell (j := 0) rfl
              have HAC := hide hac
              clear hac
              obtain ⟨la, hla⟩ : ∃ la, la = S.ar.length := ⟨_, rfl⟩
              rw [← hla] at c0 hql
              clear hla
              have hq1 : (0 : Int) ≤ (q : Int) := by omega
              have hq2 : (q : Int) < (la : Int) := by omega
              go_upto_region 7 with fail
              go_region_held3 (fun w' => w'.cell? ⟨b2, 0, none⟩ = some (.pointer (some ⟨p, 0, none⟩)) ∧ w'.cell? ⟨p, 0, none⟩ = some (.slice (some ⟨ba, oa, none⟩) la ca) ∧ w'.cell? ⟨b5, 0, none⟩ = some (.int .i64 q) ∧ w'.cell? ⟨ba, oa + q, none⟩ = some (.int .i64 (na : Int))) (go_keep) (fail)
              go_wp2
              clear hq1 hq2 hql c0 a0 k2 k5 HAC
              go_loopw [6, 7, 72] (fun _ _ i wr => ∃ k : Nat, k ≤ na ∧ i = .int .i64 k ∧ Hid (Mid w own p b2 b3 b4 b5 c n q (L.n1 + 1) (L.n2 + 1) (L.n3 + k) { S with C := S.C ++ [c], bs := S.bs ++ [S.born], born := S.born + 1, N := keyAt litI (S.C ++ [c]), O := setL S.O (.int .i64 q) (S.O (.int .i64 q) ++ [(n : Int)]), W := whF S.W c n q k } wr)) (fun _ _ i _ => na - (intOf i).toNat)
              case atStart => exact ⟨0, by omega, rfl, _, _, HE.out.1, HE.out.2.1, HE.out.2.2, HR6.out.below (Below.refl _ wc).drew, HB6.out.keep (A := fun _ => False) (Turn.below (Below.refl _ wc).drew) id, HT6.out.drew⟩
              case round =>
                clear HR6 HB6 HT6 HE
                obtain ⟨k, hk, rfl, hmidH⟩ := hrel
                have hmid := hmidH.out
                clear hmidH
                obtain ⟨own6, L6, e1, e2, e3, hR6, hB6, hT6⟩ := hmid
                have HE := hide (And.intro e1 (And.intro e2 e3))
                have HR6 := hide hR6
                have HB6 := hide hB6
                have HT6 := hide hT6
                clear e1 e2 e3 hR6 hB6 hT6
                by_cases hlt : k < na
                · have hi : (k : Int) < (na : Int) := by omega
                  have HRg := hide HB6.out.c.range
                  obtain ⟨x, HX⟩ : ∃ x, Hid (x = c.getD (1 + k) 0) := ⟨_, rfl⟩
                  have hx : c[1 + k]? = some x := by
                    have : 1 + k < c.length := by rw [HC.out.1]; have := HA.out.2; omega
                    rw [HX.out, List.getElem?_eq_getElem this]
                    simp [List.getD, List.getElem?_eq_getElem this]
                  have HIx : Hid (I64 x) := HC.out.2 x (List.mem_of_getElem? hx)
                  have hsp := spot_any wr (k := k) (q := (q : Int)) (x := x) HC.out.1 (by simpa using e0) hx (by have := HA.out.2; omega)
                  clear hx
                  go_wp2_with
                    (first
                      | ((with_reducible refine wpList_load_mid ?_ 56 (.tmp 3) ?_ b3 0 ?_ (ints c) _ HRg.out hu ?_ hinf ?_); rfl; rfl; rfl; rfl)
                      | (go_at_call 43; refine hsp.mono ?_; rintro e w7 ⟨rfl, hb7⟩; revert hb7))
                  intro hb7
                  go_upto_region 11 with fail
                  obtain ⟨hTb, hbx⟩ := one_box (fun _ => False) own6 w7 [.int .i64 (q : Int), .int .i64 (k : Int), .int .i64 x] 78
                  have HRA := hide ((HR6.out.below hb7).keep hTb (fun _ => id))
                  have HBA := hide ((HB6.out.keep (A := fun _ => False) (Turn.below hb7) id).keep hTb id)
                  have HTA := hide ((HT6.out.trans (Turn.below hb7)).trans (hTb.mono (fun _ h => h.elim)))
                  have HXA := hide hbx
                  clear hTb hbx hb7 HR6 HB6 HT6 HRg hsp
                  revert HRA HBA HTA HXA
                  generalize own6.at w7.heap.size Tag.box = ownA
                  generalize w7.alloc (.cells #[.int .i64 (q : Int), .int .i64 (k : Int), .int .i64 x] 78) = WA
                  intro HRA HBA HTA HXA
                  have c7 := HRA.out.c7
                  have k2 := HBA.out.s.cell (j := 0) rfl
                  have k4 := HBA.out.n.cell (j := 0) rfl
                  have x0 := HXA.out.cell (j := 0) rfl
                  have x1 := HXA.out.cell (j := 1) rfl
                  have x2 := HXA.out.cell (j := 2) rfl
                  have HBl : Hid (∀ o, Below WA.heap.size WA (WA.alloc o).drew) := fun o => ((Below.refl _ WA).alloc (Nat.le_refl _) _).drew
                  have HS0 : Hid (∀ W, Below WA.heap.size WA W → (W.cell? ⟨b2, 0, none⟩ = some (.pointer (some ⟨p, 0, none⟩)) ∧ W.cell? ⟨p, 7, none⟩ = some (.map (some L6.m3)) ∧ W.cell? ⟨b4, 0, none⟩ = some (.int .i64 n) ∧ W.cell? ⟨w7.heap.size, 0, none⟩ = some (.int .i64 q) ∧ W.cell? ⟨w7.heap.size, 1, none⟩ = some (.int .i64 k) ∧ W.cell? ⟨w7.heap.size, 2, none⟩ = some (.int .i64 x))) := fun W hB => ⟨kept_cell hB k2, kept_cell hB c7, kept_cell hB k4, kept_cell hB x0, kept_cell hB x1, kept_cell hB x2⟩
                  have HNw : Hid (∀ j u, [Value.int .i64 n][j]? = some u → (WA.alloc (.cells #[.int .i64 n] 3)).drew.cell? ((⟨WA.heap.size, 0, none⟩ : Addr).add j) = some u) := fun j u hu => by
                    rw [addr_add, Nat.zero_add]
                    have hh : (WA.alloc (.cells #[.int .i64 n] 3)).drew.heap[WA.heap.size]? = some (.cells #[.int .i64 n] 3 (0, 0)) := heap_alloc_new WA _
                    simp only [World.cell?, hh]
                    simpa using hu
                  have HRX := hide (HRA.out.below (HBl.out (.cells #[.int .i64 n] 3)))
                  have HBX := hide (HBA.out.keep (A := fun _ => False) (Turn.below (HBl.out (.cells #[.int .i64 n] 3))) id)
                  have HXX := hide (HXA.out.keep (A := fun _ => False) (Turn.below (HBl.out (.cells #[.int .i64 n] 3))) id)
                  have HTX : Hid (Turn (fun _ => True) own ownA w (WA.alloc (.cells #[.int .i64 n] 3)).drew) := HTA.out.trans (Turn.below (HBl.out _))
                  obtain ⟨v, st, w1, hent, hv1, hT0, hO1, hcont⟩ := HRX.out.wh.entry (t := 63) (te := 22) lawSpot Try.underlying63 zeroInts (by have := HE.out.2.2; have := HNn.out.2.2; have := HA.out.2; unfold maxLen; omega) (fun a b e => by cases e; rfl) (fun l e => by cases e) (keyOf_spot (c := [(q : Int), (k : Int), x]) rfl (by intro y hy; simp at hy; rcases hy with rfl | rfl | rfl; exact HQ.out; exact ⟨by omega, by have := HA.out.2; omega⟩; exact HIx.out))
                  obtain ⟨ao, co, rfl, -, -⟩ := hv1.form
                  have hlen := whF_len (c := c) (n := (n : Int)) (q := (q : Int)) HOW.out.2 k (litI [(q : Int), (k : Int), x])
                  obtain ⟨lw, HLW⟩ : ∃ lw, Hid (lw = (whF S.W c n q k (litI [(q : Int), (k : Int), x])).length) := ⟨_, rfl⟩
                  simp only [← HLW.out] at hv1 hent hcont hlen
                  have hent2 : (Instr.mapEntry 63 (.map (some L6.m3)) (.agg #[.int .i64 (q : Int), .int .i64 (k : Int), .int .i64 x])).run Try.prog (WA.alloc (.cells #[.int .i64 n] 3)).drew = .ok (.tuple #[.slice ao lw co, goInt st]) w1 := hent
                  have hb1 := HBX.out.keep hT0 (by simp)
                  have hx1 := HXX.out.keep hT0 (by simp)
                  have hr1 : w1.cell? ⟨p, 7, none⟩ = some (.map (some L6.m3)) := by rw [World.cell?_of_block (w := (WA.alloc (.cells #[.int .i64 n] 3)).drew) (hT0.block HRX.out.plt (fun t ht => by rw [HRX.out.tme] at ht; cases ht; simp))]; exact HRX.out.c7
                  have HSe := hide (And.intro (hb1.s.cell (j := 0) rfl) (And.intro hr1 (And.intro (hb1.n.cell (j := 0) rfl) (And.intro (hx1.cell (j := 0) rfl) (And.intro (hx1.cell (j := 1) rfl) (hx1.cell (j := 2) rfl))))))
                  have HV1 := hide hv1
                  have HCT := hide hcont
                  have HT0 := hide hT0
                  have HNw1 : Hid (∀ j u, [Value.int .i64 n][j]? = some u → w1.cell? ((⟨WA.heap.size, 0, none⟩ : Addr).add j) = some u) := fun j u hu => by
                    have h0 := HNw.out j u hu
                    have hm3 := HRA.out.wh.lt
                    rw [addr_add] at h0 ⊢
                    exact hO1.cell h0 (fun e => by simp only at e; omega)
                  clear hO1
                  clear hb1 hx1 hr1 hv1 hcont hT0 hent
                  refine wp_region_last (by kernel_rfl) (fun w' => w'.cell? ⟨b2, 0, none⟩ = some (.pointer (some ⟨p, 0, none⟩)) ∧ w'.cell? ⟨p, 7, none⟩ = some (.map (some L6.m3)) ∧ w'.cell? ⟨b4, 0, none⟩ = some (.int .i64 n) ∧ w'.cell? ⟨w7.heap.size, 0, none⟩ = some (.int .i64 q) ∧ w'.cell? ⟨w7.heap.size, 1, none⟩ = some (.int .i64 k) ∧ w'.cell? ⟨w7.heap.size, 2, none⟩ = some (.int .i64 x)) 11 ?_
                  have HS1 := HS0.out WA.drew (Below.refl _ WA).drew
                  refine wpAnyM_take (i := 0) (v := ?_) rfl (by kernel_rfl) (by kernel_rfl) (by kernel_rfl) (by kernel_rfl) (fun _ _ _ h => h) HS1 (Or.inl ⟨by rfl, ?_⟩) ?_
                  rotate_left
                  · (intro w hSw; (try dsimp only at hSw); go_simp; try with_reducible rfl)
                  simp only [Act.put, List.setIfInBounds_toArray, List.set_cons_zero, List.set_cons_succ]
                  refine wpAnyM_take (i := 1) (v := ?_) rfl (by kernel_rfl) (by kernel_rfl) (by kernel_rfl) (by kernel_rfl) (fun _ _ _ h => h) HS1 (Or.inl ⟨by rfl, ?_⟩) ?_
                  rotate_left
                  · (intro w hSw; (try dsimp only at hSw); go_simp; try with_reducible rfl)
                  simp only [Act.put, List.setIfInBounds_toArray, List.set_cons_zero, List.set_cons_succ]
                  refine wpAnyM_take (i := 2) (v := ?_) rfl (by kernel_rfl) (by kernel_rfl) (by kernel_rfl) (by kernel_rfl) (fun _ _ _ h => h) HS1 (Or.inl ⟨by rfl, ?_⟩) ?_
                  rotate_left
                  · (intro w hSw; (try dsimp only at hSw); go_simp; try with_reducible rfl)
                  simp only [Act.put, List.setIfInBounds_toArray, List.set_cons_zero, List.set_cons_succ]
                  refine wpAnyM_take (i := 3) (v := ?_) rfl (by kernel_rfl) (by kernel_rfl) (by kernel_rfl) (by kernel_rfl) (fun _ _ _ h => h) HS1 (Or.inl ⟨by rfl, ?_⟩) ?_
                  rotate_left
                  · (intro w hSw; (try dsimp only at hSw); go_simp; try with_reducible rfl)
                  simp only [Act.put, List.setIfInBounds_toArray, List.set_cons_zero, List.set_cons_succ]
                  refine wpAnyM_take (i := 4) (v := ?_) rfl (by kernel_rfl) (by kernel_rfl) (by kernel_rfl) (by kernel_rfl) (fun _ _ _ h => h) HS1 (Or.inl ⟨by rfl, ?_⟩) ?_
                  rotate_left
                  · (intro w hSw; (try dsimp only at hSw); go_simp; try with_reducible rfl)
                  simp only [Act.put, List.setIfInBounds_toArray, List.set_cons_zero, List.set_cons_succ]
                  refine wpAnyM_take (i := 5) (v := ?_) rfl (by kernel_rfl) (by kernel_rfl) (by kernel_rfl) (by kernel_rfl) (fun _ _ _ h => h) HS1 (Or.inl ⟨by rfl, ?_⟩) ?_
                  rotate_left
                  · (intro w hSw; (try dsimp only at hSw); go_simp; try with_reducible rfl)
                  simp only [Act.put, List.setIfInBounds_toArray, List.set_cons_zero, List.set_cons_succ]
                  refine wpAnyM_one (i := 6) (by kernel_rfl) rfl (fun K hK => ?_)
                  go_simp
                  refine hK.out _ _ (HS0.out _ ((Below.refl _ WA).alloc (Nat.le_refl _) _).drew) (fun _ => ?_)
                  clear hK K
                  refine wpAnyM_one (i := 7) (by kernel_rfl) rfl (fun K hK => ?_)
                  go_simp
                  refine hK.out _ _ HSe.out (fun _ => ?_)
                  clear hK K
                  refine wpAnyM_take (i := 8) (v := ?_) rfl (by kernel_rfl) (by kernel_rfl) (by kernel_rfl) (by kernel_rfl) (fun _ _ _ h => h) HSe.out (Or.inl ⟨by rfl, ?_⟩) ?_
                  rotate_left
                  · (intro w hSw; (try dsimp only at hSw); go_simp; try with_reducible rfl)
                  simp only [Act.put, List.setIfInBounds_toArray, List.set_cons_zero, List.set_cons_succ]
                  refine wpAnyM_take (i := 10) (v := ?_) rfl (by kernel_rfl) (by kernel_rfl) (by kernel_rfl) (by kernel_rfl) (fun _ _ _ h => h) HSe.out (Or.inl ⟨by rfl, ?_⟩) ?_
                  rotate_left
                  · (intro w hSw; (try dsimp only at hSw); go_simp; try with_reducible rfl)
                  simp only [Act.put, List.setIfInBounds_toArray, List.set_cons_zero, List.set_cons_succ]
                  refine wpAnyM_one (i := 9) (by kernel_rfl) rfl (fun K hK => ?_)
                  refine step_append_lies _ (by rfl) _ _ _ (by rfl) 0 3 i0 _ 1 8 Try.underlying22 hi0 hz0 hz1 hz2 rfl (by decide) (.slice ao lw co) lw (ints (whF S.W c n q k (litI [(q : Int), (k : Int), x]))) (by rfl) HV1.out.1 ⟨WA.heap.size, 0, none⟩ 1 1 [.int .i64 n] (by rfl) (by rfl) HNw1.out (by simp [Value.oneCell']) (by omega) (by have := HN.out.2; have := HA.out.2; unfold maxLen; omega) (by have := HN.out.2; have := HA.out.2; omega) (by omega) w1.heap.size rfl ?_
                  intro g cap w2 hown1 hgrow hat hlt2
                  obtain ⟨w3, hst, hM, hT⟩ := HCT.out w1 w2 g cap (n : Int) (Below.refl _ _) hgrow hown1 (hat.imp id (fun e => by omega))
                  have hst2 : (Instr.entryStore 63 (.map (some L6.m3)) (.int .i64 (st : Int)) (.slice (some ⟨g, 0, none⟩) (lw + 1) cap)).run Try.prog w2 = .ok () w3 := hst
                  clear hst
                  have hT1 := (RowIs.pushed HV1.out (Below.refl _ w1) hgrow hown1 (hat.imp id (fun e => by omega))).2
                  have hb2 := ((HBX.out.keep HT0.out (by simp)).keep hT1 (by simp))
                  have hx2 := ((HXX.out.keep HT0.out (by simp)).keep hT1 (by simp))
                  have hp1 : p < w1.heap.size := Nat.lt_of_lt_of_le HRX.out.plt HT0.out.only.size
                  have hr2 : w2.cell? ⟨p, 7, none⟩ = some (.map (some L6.m3)) := by rw [World.cell?_of_block (w := w1) (hT1.block hp1 (fun t ht => by rw [HRX.out.tme] at ht; cases ht; simp))]; exact HSe.out.2.1
                  have HB9 := hide (HBX.out.keep hT (by simp))
                  have HR9 := hide (HRX.out.set_wh hM hT)
                  have HT9 := hide hT
                  have HS2 := And.intro (hb2.s.cell (j := 0) rfl) (And.intro hr2 (And.intro (hb2.n.cell (j := 0) rfl) (And.intro (hx2.cell (j := 0) rfl) (And.intro (hx2.cell (j := 1) rfl) (hx2.cell (j := 2) rfl)))))
                  clear hT1 hb2 hx2 hp1 hr2 hT hM hown1 hgrow hat hlt2
                  refine hK.out _ _ HS2 (fun _ => ?_)
                  clear hK K HS1 HS2
                  simp only [Act.put, List.setIfInBounds_toArray, List.set_cons_zero, List.set_cons_succ]
                  refine wpAnyM_end (by kernel_rfl) rfl (by kernel_rfl) (fun K hK => ?_)
                  go_simp
                  refine hK.out _ _ ?_
                  clear hK K
                  have h8 : (k : Int) + 1 ≤ 8 := by have := HA.out.2; omega
                  clear c7 k2 k4 x0 x1 x2 hent2 hst2 hlen e0 hone hl9 hi0 hz0 hz1 hz2
                  go_wp2
                  go_roundw
                  case rel =>
                    refine ⟨k + 1, by omega, by go_num, ?_⟩
                    have e : whF S.W c (n : Int) (q : Int) (k + 1) = setL (whF S.W c (n : Int) (q : Int) k) (litI [(q : Int), (k : Int), x]) (whF S.W c (n : Int) (q : Int) k (litI [(q : Int), (k : Int), x]) ++ [(n : Int)]) := by rw [HX.out]; rfl
                    rw [e]
                    refine ⟨_, _, ?_, ?_, ?_, HR9.out, HB9.out, HTX.out.trans (HT9.out.mono (fun _ _ => trivial))⟩
                    · exact HE.out.1
                    · exact HE.out.2.1
                    · show L6.n3 + 1 = _
                      rw [HE.out.2.2]
                      omega
                  case measure => simp [intOf]; omega
                · obtain rfl : k = na := by omega
                  have hi : ¬ (k : Int) < (k : Int) := by omega
                  have c3 := HR6.out.c3
                  obtain ⟨vk, ck, hvk, -, -⟩ := HR6.out.backs.form
                  simp only [HNk.out] at hvk
                  rw [hvk] at c3
                  have k2 := HB6.out.s.cell (j := 0) rfl
                  obtain ⟨i0, hi0, hz0, hz1, hz2⟩ := info_parts Try.infoFunc
                  go_upto_region 13 with fail
                  have HBl : Hid (∀ o, Below wr.heap.size wr (wr.alloc o).drew) := fun o => ((Below.refl _ wr).alloc (Nat.le_refl _) _).drew
                  have HS0 : Hid (∀ W, Below wr.heap.size wr W → (W.cell? ⟨b2, 0, none⟩ = some (.pointer (some ⟨p, 0, none⟩)) ∧ W.cell? ⟨p, 3, none⟩ = some (.slice vk n ck))) := fun W hB => ⟨kept_cell hB k2, kept_cell hB c3⟩
                  obtain ⟨fv, HFV⟩ : ∃ fv : Value, Hid (fv = .func (.func 44) #[] #[.pointer (some ⟨b2, 0, none⟩), .pointer (some ⟨b5, 0, none⟩), .pointer (some ⟨b3, 0, none⟩), .pointer (some ⟨b4, 0, none⟩)]) := ⟨_, rfl⟩
                  have HBk : Hid (BackIs wr own6 p n c fv) := ⟨b2, b5, b3, b4, q, HFV.out, by simpa using e0, HB6.out.s, HB6.out.q, HB6.out.c, HB6.out.n⟩
                  have HRow : Hid ((wr.alloc (.cells #[fv] 1)).drew.ownsRow 0 1 1 (.slice vk n ck) n S.ks) := by
                    have := (HR6.out.below (HBl.out (.cells #[fv] 1))).backs.1
                    simp only [hvk, HNk.out] at this
                    exact this
                  have HNw : Hid (∀ j u, [fv][j]? = some u → (wr.alloc (.cells #[fv] 1)).drew.cell? ((⟨wr.heap.size, 0, none⟩ : Addr).add j) = some u) := fun j u hu => by
                    rw [addr_add, Nat.zero_add]
                    have hh : (wr.alloc (.cells #[fv] 1)).drew.heap[wr.heap.size]? = some (.cells #[fv] 1 (0, 0)) := heap_alloc_new wr _
                    simp only [World.cell?, hh]
                    simpa using hu
                  refine wp_region_last (by kernel_rfl) (fun w' => w'.cell? ⟨b2, 0, none⟩ = some (.pointer (some ⟨p, 0, none⟩)) ∧ w'.cell? ⟨p, 3, none⟩ = some (.slice vk n ck)) 10 ?_
                  have HS1 := HS0.out wr.drew (Below.refl _ wr).drew
                  refine wpAnyM_take (i := 0) (v := ?_) rfl (by kernel_rfl) (by kernel_rfl) (by kernel_rfl) (by kernel_rfl) (fun _ _ _ h => h) HS1 (Or.inl ⟨by rfl, ?_⟩) ?_
                  rotate_left
                  · (intro w hSw; (try dsimp only at hSw); go_simp; try with_reducible rfl)
                  simp only [Act.put, List.setIfInBounds_toArray, List.set_cons_zero, List.set_cons_succ]
                  refine wpAnyM_take (i := 1) (v := ?_) rfl (by kernel_rfl) (by kernel_rfl) (by kernel_rfl) (by kernel_rfl) (fun _ _ _ h => h) HS1 (Or.inl ⟨by rfl, ?_⟩) ?_
                  rotate_left
                  · (intro w hSw; (try dsimp only at hSw); go_simp; try with_reducible rfl)
                  simp only [Act.put, List.setIfInBounds_toArray, List.set_cons_zero, List.set_cons_succ]
                  refine wpAnyM_take (i := 2) (v := ?_) rfl (by kernel_rfl) (by kernel_rfl) (by kernel_rfl) (by kernel_rfl) (fun _ _ _ h => h) HS1 (Or.inl ⟨by rfl, ?_⟩) ?_
                  rotate_left
                  · (intro w hSw; (try dsimp only at hSw); go_simp; try with_reducible rfl)
                  simp only [Act.put, List.setIfInBounds_toArray, List.set_cons_zero, List.set_cons_succ]
                  refine wpAnyM_take (i := 3) (v := ?_) rfl (by kernel_rfl) (by kernel_rfl) (by kernel_rfl) (by kernel_rfl) (fun _ _ _ h => h) HS1 (Or.inl ⟨by rfl, ?_⟩) ?_
                  rotate_left
                  · (intro w hSw; (try dsimp only at hSw); go_simp; try with_reducible rfl)
                  simp only [Act.put, List.setIfInBounds_toArray, List.set_cons_zero, List.set_cons_succ]
                  refine wpAnyM_take (i := 4) (v := ?_) rfl (by kernel_rfl) (by kernel_rfl) (by kernel_rfl) (by kernel_rfl) (fun _ _ _ h => h) HS1 (Or.inl ⟨by rfl, ?_⟩) ?_
                  rotate_left
                  · (intro w hSw; (try dsimp only at hSw); go_simp; try with_reducible rfl)
                  simp only [Act.put, List.setIfInBounds_toArray, List.set_cons_zero, List.set_cons_succ]
                  refine wpAnyM_take (i := 5) (v := ?_) rfl (by kernel_rfl) (by kernel_rfl) (by kernel_rfl) (by kernel_rfl) (fun _ _ _ h => h) HS1 (Or.inl ⟨by rfl, ?_⟩) ?_
                  rotate_left
                  · (intro w hSw; (try dsimp only at hSw); go_simp; try with_reducible rfl)
                  simp only [Act.put, List.setIfInBounds_toArray, List.set_cons_zero, List.set_cons_succ]
                  refine wpAnyM_one (i := 6) (by kernel_rfl) rfl (fun K hK => ?_)
                  go_simp
                  simp only [← HFV.out]
                  refine hK.out _ _ (HS0.out _ ((Below.refl _ wr).alloc (Nat.le_refl _) _).drew) (fun _ => ?_)
                  clear hK K
                  refine wpAnyM_one (i := 7) (by kernel_rfl) rfl (fun K hK => ?_)
                  refine step_append_lies _ (by rfl) _ _ _ (by rfl) 0 1 i0 _ 1 8 Try.underlying60 hi0 hz0 hz1 hz2 rfl (by decide) (.slice vk n ck) n S.ks (by rfl) HRow.out ⟨wr.heap.size, 0, none⟩ 1 1 [fv] (by rfl) (by rfl) HNw.out (by intro u hu; simp at hu; subst hu; rw [HFV.out]; rfl) (by omega) (by have := HN.out.2; unfold maxLen; omega) (by have := HN.out.2; omega) (by omega) (wr.heap.size + 1) (by simp) ?_
                  intro g cap w1 hown1 hgrow hat hlt
                  obtain ⟨hT1, d1, d2, hR7, hT7⟩ := HR6.out.push_backs (x := fv) (c := c) (by simp only [HNk.out, ← HN.out.1]; simp) (by simp only [HNk.out]; exact HBk.out) (HBl.out _) (by rw [hvk]; exact hgrow) HNk.out.symm hown1 (by rw [hvk]; exact hat.imp id (fun e => by omega))
                  rw [hvk] at d1
                  have hb1 := HB6.out.keep hT1 (by simp)
                  have HS2 := And.intro (hb1.s.cell (j := 0) rfl) d1
                  have HR7 := hide hR7
                  have HT7 := hide hT7
                  clear hT1 hR7 hT7 hb1 hown1 hgrow hat
                  refine hK.out _ _ HS2 (fun _ => ?_)
                  clear hK K
                  simp only [Act.put, List.setIfInBounds_toArray, List.set_cons_zero, List.set_cons_succ]
                  refine wpAnyM_one (i := 8) (by kernel_rfl) rfl (fun K hK => ?_)
                  go_simp
                  refine hK.out _ _ HS2 (fun _ => ?_)
                  clear hK K
                  refine wpAnyM_one (i := 9) (by kernel_rfl) rfl (fun K hK => ?_)
                  go_simp
                  refine hK.out _ _ HS2 (fun _ => ?_)
                  clear hK K
                  refine wpAnyM_end (by kernel_rfl) rfl (by kernel_rfl) (fun K hK => ?_)
                  go_simp
                  refine hK.out _ _ ?_
                  clear hK K
                  go_wp2
                  go_end0
                  refine ⟨rfl, _, _, _, HR7.out, ?_, ?_, ?_, ?_, HT6.out.trans (HT7.out.mono (fun _ _ => trivial))⟩
                  · simp [HNk.out]
                  · exact HE.out.1
                  · exact HE.out.2.1
                  · exact HE.out.2.2
end Go.Proofs.Ytcofoddjcgmmkaa
