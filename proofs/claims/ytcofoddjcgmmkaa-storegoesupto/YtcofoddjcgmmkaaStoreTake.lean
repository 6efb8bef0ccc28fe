/- What takes a row back: bring's function literal. -/
import Derived.Test.YtcofoddjcgmmkaaStoreDrop
import Derived.Test.YtcofoddjcgmmkaaStoreSt
namespace Go.Proofs.Ytcofoddjcgmmkaa
set_option linter.unusedSimpArgs false
set_option linter.unusedVariables false
open Go.RowKit Go.Maps

/-- The k first places of a row are taken back. -/
noncomputable def popF (W F : Lit → List Int) (c : List Int) (q : Int) : Nat → Lit → List Int
  | 0 => F
  | k + 1 => setL (popF W F c q k) (litI [q, k, c.getD (1 + k) 0]) (W (litI [q, k, c.getD (1 + k) 0]))

section
variable {W F : Lit → List Int} {c : List Int} {q n : Int} (hq : I64 q) (hc : ∀ i, I64 (c.getD i 0))
include hq hc
theorem spot_ne {i j : Nat} (hi : i < 9) (hj : j < 9) (h : i ≠ j) : litI [q, i, c.getD (1 + i) 0] ≠ litI [q, j, c.getD (1 + j) 0] := fun e => by
  have := litI_inj3 rfl rfl (by intro a ha; simp only [List.mem_cons, List.not_mem_nil, or_false] at ha; rcases ha with rfl | rfl | rfl; exact hq; exact ⟨by omega, by omega⟩; exact hc _) (by intro a ha; simp only [List.mem_cons, List.not_mem_nil, or_false] at ha; rcases ha with rfl | rfl | rfl; exact hq; exact ⟨by omega, by omega⟩; exact hc _) e
  simp only [List.cons.injEq, and_true] at this
  omega
theorem whF_key : ∀ {k i : Nat}, i < k → k ≤ 8 → whF W c n q k (litI [q, i, c.getD (1 + i) 0]) = W (litI [q, i, c.getD (1 + i) 0]) ++ [n]
  | 0, _, h, _ => by omega
  | k + 1, i, h, h8 => by
    simp only [whF]
    by_cases e : i = k
    · subst e
      rw [setL_same]
      have : ∀ m : Nat, m ≤ i → whF W c n q m (litI [q, i, c.getD (1 + i) 0]) = W (litI [q, i, c.getD (1 + i) 0]) := fun m => by
        induction m with
        | zero => exact fun _ => rfl
        | succ m ih =>
          intro hm
          simp only [whF]
          rw [setL_other _ _ (spot_ne hq hc (by omega) (by omega) (by omega)), ih (by omega)]
      rw [this i (Nat.le_refl _)]
    · rw [setL_other _ _ (spot_ne hq hc (by omega) (by omega) e), whF_key (by omega) (by omega)]
theorem popF_key : ∀ {k i : Nat}, k ≤ i → i < 8 → popF W F c q k (litI [q, i, c.getD (1 + i) 0]) = F (litI [q, i, c.getD (1 + i) 0])
  | 0, _, _, _ => rfl
  | k + 1, i, h, h8 => by
    simp only [popF]
    rw [setL_other _ _ (spot_ne hq hc (by omega) (by omega) (by omega)), popF_key (by omega) h8]
theorem popF_all : ∀ k : Nat, k ≤ 8 → popF W (whF W c n q k) c q k = W := fun k hk => by
  have key : ∀ m i : Nat, i < m → m ≤ 8 → popF W (whF W c n q k) c q m (litI [q, i, c.getD (1 + i) 0]) = W (litI [q, i, c.getD (1 + i) 0]) := fun m => by
    induction m with
    | zero => intro i h; omega
    | succ m ih =>
      intro i h h8
      simp only [popF]
      by_cases e : i = m
      · subst e; rw [setL_same]
      · rw [setL_other _ _ (spot_ne hq hc (by omega) (by omega) e), ih i (by omega) (by omega)]
  funext l
  by_cases h : ∃ i : Nat, i < k ∧ l = litI [q, i, c.getD (1 + i) 0]
  · obtain ⟨i, hi, rfl⟩ := h
    exact key k i hi hk
  · have h1 : ∀ m : Nat, m ≤ k → popF W (whF W c n q k) c q m l = whF W c n q k l := fun m => by
      induction m with
      | zero => exact fun _ => rfl
      | succ m ih =>
        intro hm
        simp only [popF]
        rw [setL_other _ _ (fun e => h ⟨m, by omega, e⟩), ih (by omega)]
    have h2 : ∀ m : Nat, m ≤ k → whF W c n q m l = W l := fun m => by
      induction m with
      | zero => exact fun _ => rfl
      | succ m ih =>
        intro hm
        simp only [whF]
        rw [setL_other _ _ (fun e => h ⟨m, by omega, e⟩), ih (by omega)]
    rw [h1 k (Nat.le_refl _), h2 k (Nat.le_refl _)]
end
theorem setL_back (O : Lit → List Int) (l : Lit) (u : List Int) : setL (setL O l u) l (O l) = O := by
  funext l'
  by_cases e : l' = l
  · subst e; rw [setL_same]
  · rw [setL_other _ _ e, setL_other _ _ e]

/-- What is kept while the places are taken back. -/
def Tak (w : World) (own : Own) (p b2 b3 b4 b5 : Nat) (c : List Int) (n q : Nat) (L : Loc) (N3 : Nat) (S' : Sto) (wx : World) : Prop :=
  ∃ n3, n3 ≤ N3 ∧ Raw wx own p { L with n3 := n3 } S' ∧ Boxes wx own p b2 b3 b4 b5 c n q ∧ Turn (fun t => ∃ l, t = .whl l ∨ t = .whm) own own w wx

set_option maxRecDepth 100000 in
set_option maxHeartbeats 4000000 in
theorem take_any {w : World} {own : Own} {p : Nat} {L : Loc} {S : Sto} (h : Raw w own p L S) {b2 b3 b4 b5 : Nat} {C : List (List Int)} {c : List Int} (hC : S.C = C ++ [c]) (hc : c.length = 9) (hI : ∀ x ∈ c, I64 x) {q n na : Nat} (hq : c[0]? = some (q : Int)) (hn : C.length = n) (hn2 : n < 68719476736) (hnb : S.bs.length = n + 1)
    (hn13 : L.n1 < 549755813888 ∧ L.n2 < 549755813888 ∧ L.n3 < 549755813888) (hB : Boxes w own p b2 b3 b4 b5 c n q) (hj : S.N = keyAt litI (C ++ [c]) ∧ ∀ c', c' ∈ C → litI c' ≠ litI c) {O W : Lit → List Int} (hO : S.O = setL O (.int .i64 q) (O (.int .i64 q) ++ [(n : Int)])) (hW : S.W = whF W c n q na) (hOW : (∀ l, (O l).length ≤ n) ∧ ∀ l, (W l).length ≤ 8 * n) (ha : S.ar[q]? = some (na : Int) ∧ na ≤ 8) :
    Calls Try.prog 44 #[.pointer (some ⟨b2, 0, none⟩), .pointer (some ⟨b5, 0, none⟩), .pointer (some ⟨b3, 0, none⟩), .pointer (some ⟨b4, 0, none⟩)] w fun e w' => e = .returned (.tuple #[]) ∧ ∃ w0 n2 n3 ao cap, n2 ≤ L.n2 + 1 ∧ n3 ≤ L.n3 + na ∧ Raw w0 own p { L with vb := .slice ao n cap, n2 := n2, n3 := n3 } { S with bs := S.bs.take n, N := keyAt litI C, O := O, W := W } ∧
      Turn (fun _ => True) own own w w0 ∧ ∃ ro rc, L.vr = .slice ro (n + 1) rc ∧ w' = w0.setCell ⟨p, 1, none⟩ (.slice ro n rc) := by
  have HR := hide h
  have HC := hide (And.intro hc hI)
  have HB := hide hB
  have HA := hide ha
  obtain ⟨ava, aca, hva, har⟩ := h.ar
  obtain ⟨ba, oa, rfl, -, hac⟩ := har.resolve_left (fun e => by rw [e] at ha; simp at ha)
  have c0 := h.c0
  rw [hva] at c0
  have a0 := hac q (na : Int) ha.1
  have k2 := hB.s.cell (j := 0) rfl
  have k5 := hB.q.cell (j := 0) rfl
  have hql : q < S.ar.length := (List.getElem?_eq_some_iff.1 ha.1).1
  obtain ⟨la, hla⟩ : ∃ la, S.ar.length = la := ⟨_, rfl⟩
  rw [hla] at c0 hql
  have hq1 : (0 : Int) ≤ (q : Int) := by omega
  have hq2 : (q : Int) < (la : Int) := by omega
  have HCC := hide hC
  have HCn := hide hn
  have HNb := hide hnb
  have HNn := hide hn13
  have HJ := hide hj
  have HO := hide hO
  have HW := hide hW
  have HOW := hide hOW
  have HQ : Hid (I64 (q : Int)) := hI _ (List.mem_of_getElem? hq)
  have HQ0 := hide hq
  clear h hc hI hB ha hac hva hla har hC hn hnb hn13 hj hO hW hOW hq
  go_enter Try.func44, Try.ntmps44
  go_wp2
  -- WALK
  go_region_held3 (fun w' => w'.cell? ⟨b2, 0, none⟩ = some (.pointer (some ⟨p, 0, none⟩)) ∧ w'.cell? ⟨p, 0, none⟩ = some (.slice (some ⟨ba, oa, none⟩) la aca) ∧ w'.cell? ⟨b5, 0, none⟩ = some (.int .i64 q) ∧ w'.cell? ⟨ba, oa + q, none⟩ = some (.int .i64 (na : Int))) (go_keep) (fail)
  go_wp2
  have hu := Try.underlying56
  have hinf : (Try.prog.info? 56).map (·.size) = some (ints c).length := by rw [List.length_map, HC.out.1]; kernel_rfl
  have HcI : Hid (∀ i, I64 (c.getD i 0)) := fun i => by
    rw [List.getD_eq_getElem?_getD]
    cases hy : c[i]? with
    | none => exact ⟨by decide, by decide⟩
    | some y => exact HC.out.2 y (List.mem_of_getElem? hy)
  have hna := HA.out.2
  clear hq1 hq2 hql c0 a0 k2 k5
  go_loopw [4, 12] (fun _ i wl => ∃ k : Nat, k ≤ na ∧ i = .int .i64 k ∧ Hid (Tak w own p b2 b3 b4 b5 c n q L (L.n3 + k) { S with W := popF W S.W c q k } wl)) (fun _ i _ => na - (intOf i).toNat)
  case atStart => exact ⟨0, by omega, rfl, L.n3, Nat.le_refl _, HR.out.below (Below.refl _ w).drew, HB.out.keep (A := fun _ => False) (Turn.below (Below.refl _ w).drew) id, (Turn.refl _ _ _).drew⟩
  case round =>
    obtain ⟨k, hk, rfl, HTk⟩ := hrel
    obtain ⟨n3, hn3, hR, hBx, hT⟩ := HTk.out
    by_cases hlt : k < na
    · have hi : (k : Int) < (na : Int) := by omega
      obtain ⟨x, HX⟩ : ∃ x, Hid (x = c.getD (1 + k) 0) := ⟨_, rfl⟩
      have hx : c[1 + k]? = some x := by
        have : 1 + k < c.length := by rw [HC.out.1]; omega
        rw [HX.out, List.getElem?_eq_getElem this]
        simp [List.getD, List.getElem?_eq_getElem this]
      have HSp := hide (spot_any wr.drew (k := k) (q := (q : Int)) (x := x) HC.out.1 HQ0.out hx (by omega))
      have hkey : popF W S.W c q k (litI [(q : Int), k, x]) = W (litI [(q : Int), k, x]) ++ [(n : Int)] := by
        rw [HX.out, popF_key HQ.out HcI.out (Nat.le_refl _) (by omega), HW.out, whF_key HQ.out HcI.out hlt hna]
      have hIx : I64 x := by rw [HX.out]; exact HcI.out _
      have HDr : Hid (∀ V, Below wr.heap.size wr V → Calls Try.prog 45 #[.map (some L.m3), .agg #[.int .i64 (q : Int), .int .i64 (k : Int), .int .i64 x]] V fun e w' => e = .returned (.tuple #[]) ∧ ∃ n3', n3' ≤ n3 + 1 ∧ Raw w' own p { L with n3 := n3' } { S with W := popF W S.W c q (k + 1) } ∧ Turn (fun t => t = .whl (litI [(q : Int), k, x]) ∨ t = .whm) own own V w') := fun V hV => by
        have := dropSpot_any (hR.below hV) HQ.out (y := (k : Int)) ⟨by omega, by omega⟩ hIx hkey (by have := HOW.out.2 (litI [(q : Int), k, x]); omega) (by have := HNn.out.2.2; show n3 < _; omega)
        simp only [popF]
        rw [← HX.out]
        exact this
      have c7 := hR.c7
      have k2 := hBx.s.cell (j := 0) rfl
      have hS0 : wr.drew.cell? ⟨b2, 0, none⟩ = some (.pointer (some ⟨p, 0, none⟩)) ∧ wr.drew.cell? ⟨p, 7, none⟩ = some (.map (some L.m3)) ∧ wr.drew.rangeAt b3 0 (ints c) := ⟨k2, c7, hBx.c.range⟩
      have HRr := hide hR
      have HBx := hide hBx
      have HT := hide hT
      clear hR hBx hT hx hkey hIx HTk c7 k2
      go_wp2
      go_region_held3 (fun w' => w'.cell? ⟨b2, 0, none⟩ = some (.pointer (some ⟨p, 0, none⟩)) ∧ w'.cell? ⟨p, 7, none⟩ = some (.map (some L.m3)) ∧ w'.rangeAt b3 0 (ints c))
        (first
          | exact hS0
          | exact hS3
          | exact hS4)
        (first
          | (go_at_call 43; refine HSp.out.mono ?_; rintro e w3 ⟨rfl, h3⟩; have hb3 : Below wr.heap.size wr w3 := (below_drewN _ wr 1).trans h3; have hS3 := And.intro (kept_cell hb3 hS0.1) (And.intro (kept_cell hb3 hS0.2.1) ((HBx.out.keep (A := fun _ => False) (Turn.below hb3) id).c.range)); have HB3 := hide hb3; clear h3 hb3)
          | (go_at_call 45; refine (HDr.out w3 HB3.out).mono ?_; rintro e w4 ⟨rfl, n3', hn3', r4, t4⟩; have hT4 : Turn (fun t => ∃ l, t = .whl l ∨ t = .whm) own own wr w4 := (Turn.below HB3.out).trans (t4.mono (fun t h => ⟨_, h⟩)); have hb4 := HBx.out.keep hT4 (by rintro ⟨l, h | h⟩ <;> cases h); have hS4 := And.intro (hb4.s.cell (j := 0) rfl) (And.intro r4.c7 hb4.c.range); have HTk4 : Hid (Tak w own p b2 b3 b4 b5 c n q L (L.n3 + (k + 1)) { S with W := popF W S.W c q (k + 1) } w4) := ⟨n3', by omega, r4, hb4, HT.out.trans hT4⟩; clear r4 t4 hT4 hb4))
      clear hS0 hS3 hS4
      go_wp2
      go_roundw
      case rel => exact ⟨k + 1, by omega, by go_num, HTk4⟩
      case measure => simp [intOf]; omega
    · obtain rfl : k = na := by omega
      have hi : ¬ (k : Int) < (k : Int) := by omega
      rw [HW.out, popF_all HQ.out HcI.out k hna] at hR
      have c6 := hR.c6
      have k2 := hBx.s.cell (j := 0) rfl
      have k5 := hBx.q.cell (j := 0) rfl
      have HDi := hide (dropInt_any (hR.below (below_drewN _ wr 1)) HQ.out (zs := O (.int .i64 q)) (x := (n : Int)) (by show S.O _ = _; rw [HO.out, setL_same]) (by have := HOW.out.1 (.int .i64 q); omega) (by have := HNn.out.2.1; show L.n2 < _; omega))
      have HRr := hide hR
      have HBx := hide hBx
      have HT := hide hT
      clear hR hBx hT HTk
      generalize wr = W0 at *
      go_wp2
      have hS0 : W0.drew.cell? ⟨b2, 0, none⟩ = some (.pointer (some ⟨p, 0, none⟩)) ∧ W0.drew.cell? ⟨p, 6, none⟩ = some (.map (some L.m2)) ∧ W0.drew.cell? ⟨b5, 0, none⟩ = some (.int .i64 q) := ⟨k2, c6, k5⟩
      go_region_held3 (fun w' => w'.cell? ⟨b2, 0, none⟩ = some (.pointer (some ⟨p, 0, none⟩)) ∧ w'.cell? ⟨p, 6, none⟩ = some (.map (some L.m2)) ∧ w'.cell? ⟨b5, 0, none⟩ = some (.int .i64 q))
        (first
          | exact hS0
          | exact hS3)
        (first
          | (go_at_call 46; refine HDi.out.mono ?_; rintro e W1 ⟨rfl, n2, hn2', r3, t3⟩; have hT3 : Turn (fun t => t = .ofl (.int .i64 q) ∨ t = .ofm) own own W0 W1 := (Turn.below (below_drewN _ W0 1)).trans t3; have hb3 := HBx.out.keep hT3 (by simp); have hS3 := And.intro (hb3.s.cell (j := 0) rfl) (And.intro r3.c6 (hb3.q.cell (j := 0) rfl)); have HR1 := hide r3; have HB1 := hide hb3; have HT1 : Hid (Turn (fun _ => True) own own w W1) := (HT.out.mono (fun _ _ => trivial)).trans (hT3.mono (fun _ _ => trivial)); clear r3 t3 hT3 hb3))
      have hR1 := HR1.out
      rw [HO.out, setL_back] at hR1
      have HR2 := hide hR1
      clear hS0 hS3 HR1 hR1 HRr HBx HT HDi c6 k2 k5
      have c5 := HR2.out.c5
      have k2 := HB1.out.s.cell (j := 0) rfl
      have hdr : Below W1.heap.size W1 W1.drew := (Below.refl _ W1).drew
      obtain ⟨W2, hdel, hM2, hO2⟩ := (HR2.out.below hdr).nums.drop (t := 61) (Keyed.of_law lawCells) Try.underlying61 (keyOf_cells HC.out.1 HC.out.2) 0 (keyAt litI C) (fun j hj => by obtain ⟨c', h1, h2⟩ := hj; exact HJ.out.2 c' (List.mem_of_getElem? h1) h2) (fun l' hl' j => by show _ ↔ S.N l' j; rw [HJ.out.1, keyAt_snoc_other hl' j])
      have hN := (HR2.out.below hdr).set_nums hM2 hO2
      have hTn : Turn (fun t => t = .nums) own own W1 W2 := (Turn.below hdr).trans hN.2
      have hb2 := HB1.out.keep hTn (by simp)
      have hS0 : W1.drew.cell? ⟨b2, 0, none⟩ = some (.pointer (some ⟨p, 0, none⟩)) ∧ W1.drew.cell? ⟨p, 5, none⟩ = some (.map (some L.m1)) ∧ W1.drew.rangeAt b3 0 (ints c) := ⟨k2, c5, HB1.out.c.range⟩
      have hS3 : W2.cell? ⟨b2, 0, none⟩ = some (.pointer (some ⟨p, 0, none⟩)) ∧ W2.cell? ⟨p, 5, none⟩ = some (.map (some L.m1)) ∧ W2.rangeAt b3 0 (ints c) := ⟨hb2.s.cell (j := 0) rfl, hN.1.c5, hb2.c.range⟩
      have HR3 := hide hN.1
      have HB2 := hide hb2
      have HT2 : Hid (Turn (fun _ => True) own own w W2) := HT1.out.trans (hTn.mono (fun _ _ => trivial))
      clear hM2 hO2 hN hTn hb2 hdr c5 k2
      go_wp2
      go_region_held3 (fun w' => w'.cell? ⟨b2, 0, none⟩ = some (.pointer (some ⟨p, 0, none⟩)) ∧ w'.cell? ⟨p, 5, none⟩ = some (.map (some L.m1)) ∧ w'.rangeAt b3 0 (ints c))
        (first
          | exact hS0
          | exact hS3)
        (fail)
      clear hS0 hS3 hdel HR2 HB1 HT1
      obtain ⟨vo, cap, hvb, hg, hcap⟩ := HR3.out.births.form
      rw [show ({ S with N := keyAt litI C, O := O, W := W } : Sto).bs.length = n + 1 from HNb.out] at hvb hg hcap
      obtain ⟨g, rfl⟩ := hg (by omega)
      have c2 := HR3.out.c2
      rw [show _ = _ from hvb] at c2
      have k2 := HB2.out.s.cell (j := 0) rfl
      have k4 := HB2.out.n.cell (j := 0) rfl
      have hfz : W2.drew.frozen? ⟨p, 2, none⟩ = false := HR3.out.fz 2
      obtain ⟨hC3, hT3⟩ := (HR3.out.below (Below.refl _ W2).drew).cut_births (k := n) (by show _ = Value.slice _ S.bs.length _; rw [HNb.out]; exact hvb) (by show n ≤ S.bs.length; rw [HNb.out]; omega) (by show 0 < S.bs.length; rw [HNb.out]; omega)
      have hT3' : Turn (fun t => t = .me) own own W2 (W2.setCell ⟨p, 2, none⟩ (.slice (some ⟨g, 0, none⟩) n cap)).drew := (Turn.below (Below.refl _ W2).drew).trans hT3
      have HR4 : Hid (Raw (W2.setCell ⟨p, 2, none⟩ (.slice (some ⟨g, 0, none⟩) n cap)).drew own p { L with vb := .slice (some ⟨g, 0, none⟩) n cap, n2 := n2, n3 := n3 } { S with bs := S.bs.take n, N := keyAt litI C, O := O, W := W }) := hC3
      have HB3 := hide (HB2.out.keep hT3' (by simp))
      have HT3 : Hid (Turn (fun _ => True) own own w (W2.setCell ⟨p, 2, none⟩ (.slice (some ⟨g, 0, none⟩) n cap)).drew) := HT2.out.trans (hT3'.mono (fun _ _ => trivial))
      have HS1 : W2.drew.cell? ⟨b2, 0, none⟩ = some (.pointer (some ⟨p, 0, none⟩)) ∧ W2.drew.cell? ⟨p, 2, none⟩ = some (.slice (some ⟨g, 0, none⟩) (n + 1) cap) ∧ W2.drew.cell? ⟨b4, 0, none⟩ = some (.int .i64 n) := ⟨k2, c2, k4⟩
      have hn0 : (0 : Int) ≤ (n : Int) := by omega
      have hnc : (n : Int) ≤ (cap : Int) := by omega
      clear hC3 hT3 hT3' hvb hg k2 k4 c2 HR3 HB2 HT2
      go_wp2
      refine wp_region_last (by kernel_rfl) (fun w' => w'.cell? ⟨b2, 0, none⟩ = some (.pointer (some ⟨p, 0, none⟩)) ∧ w'.cell? ⟨p, 2, none⟩ = some (.slice (some ⟨g, 0, none⟩) (n + 1) cap) ∧ w'.cell? ⟨b4, 0, none⟩ = some (.int .i64 n)) 9 ?_
      refine wpAnyM_take (i := 0) (v := ?_) rfl (by kernel_rfl) (by kernel_rfl) (by kernel_rfl) (by kernel_rfl) (fun _ _ _ h => h) HS1 (Or.inl ⟨by rfl, ?_⟩) ?_
      rotate_left
      · (intro w hSw; (try dsimp only at hSw); go_simp; try with_reducible rfl)
      simp only [Act.put, List.setIfInBounds_toArray, List.set_cons_zero, List.set_cons_succ]
      refine wpAnyM_take (i := 1) (v := ?_) rfl (by kernel_rfl) (by kernel_rfl) (by kernel_rfl) (by kernel_rfl) (fun _ _ _ h => h) HS1 (Or.inl ⟨by rfl, ?_⟩) ?_
      rotate_left
      · (intro w hSw; (try dsimp only at hSw); go_simp; try with_reducible rfl)
      simp only [Act.put, List.setIfInBounds_toArray, List.set_cons_zero, List.set_cons_succ]
      refine wpAnyM_take (i := 2) (v := ?_) rfl (by kernel_rfl) (by kernel_rfl) (by kernel_rfl) (by kernel_rfl) (fun _ _ _ h => h) HS1 (Or.inl ⟨by rfl, ?_⟩) ?_
      rotate_left
      · (intro w hSw; (try dsimp only at hSw); go_simp; try with_reducible rfl)
      simp only [Act.put, List.setIfInBounds_toArray, List.set_cons_zero, List.set_cons_succ]
      refine wpAnyM_take (i := 3) (v := ?_) rfl (by kernel_rfl) (by kernel_rfl) (by kernel_rfl) (by kernel_rfl) (fun _ _ _ h => h) HS1 (Or.inl ⟨by rfl, ?_⟩) ?_
      rotate_left
      · (intro w hSw; (try dsimp only at hSw); go_simp; try with_reducible rfl)
      simp only [Act.put, List.setIfInBounds_toArray, List.set_cons_zero, List.set_cons_succ]
      refine wpAnyM_take (i := 4) (v := ?_) rfl (by kernel_rfl) (by kernel_rfl) (by kernel_rfl) (by kernel_rfl) (fun _ _ _ h => h) HS1 (Or.inl ⟨by rfl, ?_⟩) ?_
      rotate_left
      · (intro w hSw; (try dsimp only at hSw); go_simp; try with_reducible rfl)
      simp only [Act.put, List.setIfInBounds_toArray, List.set_cons_zero, List.set_cons_succ]
      refine wpAnyM_take (i := 5) (v := ?_) rfl (by kernel_rfl) (by kernel_rfl) (by kernel_rfl) (by kernel_rfl) (fun _ _ _ h => h) HS1 (Or.inl ⟨by rfl, ?_⟩) ?_
      rotate_left
      · (intro w hSw; (try dsimp only at hSw); go_simp; try with_reducible rfl)
      simp only [Act.put, List.setIfInBounds_toArray, List.set_cons_zero, List.set_cons_succ]
      refine wpAnyM_take (i := 6) (v := ?_) rfl (by kernel_rfl) (by kernel_rfl) (by kernel_rfl) (by kernel_rfl) (fun _ _ _ h => h) HS1 (Or.inl ⟨by rfl, ?_⟩) ?_
      rotate_left
      · (intro w hSw; (try dsimp only at hSw); go_simp; try with_reducible rfl)
      simp only [Act.put, List.setIfInBounds_toArray, List.set_cons_zero, List.set_cons_succ]
      refine wpAnyM_one (i := 7) (by kernel_rfl) rfl (fun K hK => ?_)
      go_simp
      refine hK.out _ _ HS1 (fun _ => ?_)
      clear hK K
      refine wpAnyM_one (i := 8) (by kernel_rfl) rfl (fun K hK => ?_)
      go_simp
      refine hK.out _ _ HS1 (fun _ => ?_)
      clear hK K
      refine wpAnyM_end (by kernel_rfl) rfl (by kernel_rfl) (fun K hK => ?_)
      go_simp
      refine hK.out _ _ ?_
      clear hK K
      clear HS1 hfz
      generalize (W2.setCell ⟨p, 2, none⟩ (.slice (some ⟨g, 0, none⟩) n cap)).drew = W3 at *
      obtain ⟨vo2, cap2, hvr, hg2, hcap2⟩ := HR4.out.rows.form
      have hcl : S.C.length = n + 1 := by rw [HCC.out, List.length_append, HCn.out]; rfl
      rw [show ({ S with bs := S.bs.take n, N := keyAt litI C, O := O, W := W } : Sto).C.length = n + 1 from hcl] at hvr hg2 hcap2
      obtain ⟨g2, rfl⟩ := hg2 (by omega)
      have c1 := HR4.out.c1
      rw [show _ = _ from hvr] at c1
      have k2 := HB3.out.s.cell (j := 0) rfl
      have k4 := HB3.out.n.cell (j := 0) rfl
      have hfz : W3.drew.frozen? ⟨p, 1, none⟩ = false := HR4.out.fz 1
      have HVr := hide hvr
      have HR5 := hide (HR4.out.below (Below.refl _ W3).drew)
      have HT5 : Hid (Turn (fun _ => True) own own w W3.drew) := HT3.out.trans (Turn.below (Below.refl _ W3).drew)
      have HS1 : W3.drew.cell? ⟨b2, 0, none⟩ = some (.pointer (some ⟨p, 0, none⟩)) ∧ W3.drew.cell? ⟨p, 1, none⟩ = some (.slice (some ⟨g2, 0, none⟩) (n + 1) cap2) ∧ W3.drew.cell? ⟨b4, 0, none⟩ = some (.int .i64 n) := ⟨k2, c1, k4⟩
      have hnc2 : (n : Int) ≤ (cap2 : Int) := by omega
      clear hvr hg2 hcl k2 k4 c1 HR4 HB3 HT3
      go_wp2
      refine wp_region_last (by kernel_rfl) (fun w' => w'.cell? ⟨b2, 0, none⟩ = some (.pointer (some ⟨p, 0, none⟩)) ∧ w'.cell? ⟨p, 1, none⟩ = some (.slice (some ⟨g2, 0, none⟩) (n + 1) cap2) ∧ w'.cell? ⟨b4, 0, none⟩ = some (.int .i64 n)) 9 ?_
      refine wpAnyM_take (i := 0) (v := ?_) rfl (by kernel_rfl) (by kernel_rfl) (by kernel_rfl) (by kernel_rfl) (fun _ _ _ h => h) HS1 (Or.inl ⟨by rfl, ?_⟩) ?_
      rotate_left
      · (intro w hSw; (try dsimp only at hSw); go_simp; try with_reducible rfl)
      simp only [Act.put, List.setIfInBounds_toArray, List.set_cons_zero, List.set_cons_succ]
      refine wpAnyM_take (i := 1) (v := ?_) rfl (by kernel_rfl) (by kernel_rfl) (by kernel_rfl) (by kernel_rfl) (fun _ _ _ h => h) HS1 (Or.inl ⟨by rfl, ?_⟩) ?_
      rotate_left
      · (intro w hSw; (try dsimp only at hSw); go_simp; try with_reducible rfl)
      simp only [Act.put, List.setIfInBounds_toArray, List.set_cons_zero, List.set_cons_succ]
      refine wpAnyM_take (i := 2) (v := ?_) rfl (by kernel_rfl) (by kernel_rfl) (by kernel_rfl) (by kernel_rfl) (fun _ _ _ h => h) HS1 (Or.inl ⟨by rfl, ?_⟩) ?_
      rotate_left
      · (intro w hSw; (try dsimp only at hSw); go_simp; try with_reducible rfl)
      simp only [Act.put, List.setIfInBounds_toArray, List.set_cons_zero, List.set_cons_succ]
      refine wpAnyM_take (i := 3) (v := ?_) rfl (by kernel_rfl) (by kernel_rfl) (by kernel_rfl) (by kernel_rfl) (fun _ _ _ h => h) HS1 (Or.inl ⟨by rfl, ?_⟩) ?_
      rotate_left
      · (intro w hSw; (try dsimp only at hSw); go_simp; try with_reducible rfl)
      simp only [Act.put, List.setIfInBounds_toArray, List.set_cons_zero, List.set_cons_succ]
      refine wpAnyM_take (i := 4) (v := ?_) rfl (by kernel_rfl) (by kernel_rfl) (by kernel_rfl) (by kernel_rfl) (fun _ _ _ h => h) HS1 (Or.inl ⟨by rfl, ?_⟩) ?_
      rotate_left
      · (intro w hSw; (try dsimp only at hSw); go_simp; try with_reducible rfl)
      simp only [Act.put, List.setIfInBounds_toArray, List.set_cons_zero, List.set_cons_succ]
      refine wpAnyM_take (i := 5) (v := ?_) rfl (by kernel_rfl) (by kernel_rfl) (by kernel_rfl) (by kernel_rfl) (fun _ _ _ h => h) HS1 (Or.inl ⟨by rfl, ?_⟩) ?_
      rotate_left
      · (intro w hSw; (try dsimp only at hSw); go_simp; try with_reducible rfl)
      simp only [Act.put, List.setIfInBounds_toArray, List.set_cons_zero, List.set_cons_succ]
      refine wpAnyM_take (i := 6) (v := ?_) rfl (by kernel_rfl) (by kernel_rfl) (by kernel_rfl) (by kernel_rfl) (fun _ _ _ h => h) HS1 (Or.inl ⟨by rfl, ?_⟩) ?_
      rotate_left
      · (intro w hSw; (try dsimp only at hSw); go_simp; try with_reducible rfl)
      simp only [Act.put, List.setIfInBounds_toArray, List.set_cons_zero, List.set_cons_succ]
      refine wpAnyM_one (i := 7) (by kernel_rfl) rfl (fun K hK => ?_)
      go_simp
      refine hK.out _ _ HS1 (fun _ => ?_)
      clear hK K
      refine wpAnyM_one (i := 8) (by kernel_rfl) rfl (fun K hK => ?_)
      go_simp
      refine hK.out _ _ HS1 (fun _ => ?_)
      clear hK K
      refine wpAnyM_end (by kernel_rfl) rfl (by kernel_rfl) (fun K hK => ?_)
      go_simp
      refine hK.out _ _ ?_
      clear hK K
      go_wp2
      go_end0
      exact ⟨rfl, W3.drew, n2, n3, _, _, hn2', hn3, HR5.out, HT5.out, _, _, HVr.out, rfl⟩
end Go.Proofs.Ytcofoddjcgmmkaa
