/- Tokens that spell a list of facts: places in a list of tokens. ParseSpellsFacts: as ParseSpells, of Facts and of Query. -/
import Derived.Test.YtjofiibfgfdleaaDoorPkA3
import Derived.Test.YtjofiibfgfdleaaDoorProg
import Derived.Test.YtjofiibfgfdleaaDoorPkB3
import Derived.Test.YtjofiibfgfdleaaDoorPkC3

namespace Go.Proofs.YtjofiibfgfdleaaDoor
set_option linter.unusedSimpArgs false
set_option linter.unusedVariables false
open Go.RowKit

/-- A fact's terms bear no variables. -/
def Gnd (a : PAtom) : Prop := ∀ t ∈ a.ts, t.k ≠ 4
theorem args_gnd {c f : Int} : ∀ (n : Nat) (acc : List Trm) (R r : List Tok) (ts : List Trm), R.length = n → argsP c f valueKs acc R = .ok ts r → (∀ t ∈ acc, t.k ≠ 4) → ∀ t ∈ ts, t.k ≠ 4 := by
  intro n
  induction n using Nat.strongRecOn with
  | ind n ih =>
    intro acc R r ts hn h ha
    match R, hn, h with
    | [], _, h => cases h
    | [t], _, h =>
      unfold argsP at h
      split at h
      · split at h <;> cases h
      · cases h
    | t :: s :: q, hn, h =>
      unfold argsP at h
      split at h
      · rename_i hk
        have hk4 : (termP t).k ≠ 4 := by
          simp only [valueKs, List.mem_cons, List.not_mem_nil, or_false] at hk
          unfold termP kindT
          simp only
          rcases hk with e | e | e <;> rw [e] <;> decide
        have hacc : ∀ u ∈ acc ++ [termP t], u.k ≠ 4 := fun u hu => by
          rcases List.mem_append.1 hu with h1 | h1
          · exact ha u h1
          · simp only [List.mem_singleton] at h1; rw [h1]; exact hk4
        split at h
        · cases h
        · simp only at h
          split at h
          · exact ih q.length (by simp at hn; omega) _ q r ts rfl h hacc
          · split at h
            · injection h with e1 e2
              subst e1
              exact hacc
            · cases h
      · cases h
theorem atom_gnd {c f : Int} {name : Tok} {R r : List Tok} {a : PAtom} (h : atomP c f valueKs name R = .ok a r) : Gnd a := by
  cases R with
  | nil => cases h
  | cons t R =>
    change (if t.k = 5 then (match argsP c f valueKs [] R with | .bad c o => PR.bad c o | .ok ts r' => PR.ok (⟨name.t, ts, name.off⟩ : PAtom) r') else PR.ok (⟨name.t, [], name.off⟩ : PAtom) (t :: R)) = _ at h
    split at h
    · cases hA : argsP c f valueKs [] R with
      | bad x o => rw [hA] at h; cases h
      | ok ts r1 =>
        rw [hA] at h
        simp only [PR.ok.injEq] at h
        obtain ⟨rfl, rfl⟩ := h
        exact args_gnd _ [] R r1 ts rfl hA (by simp)
    · injection h with e1 e2
      subst e1
      intro t ht
      simp at ht
structure SpF (L : List Tok) (xs : List PAtom) (e : Nat) : Prop where
  few : xs.length ≤ 4096
  at' : ∃ pl : Nat → Nat, pl 0 = 0 ∧ (∀ j x, xs[j]? = some x → Gnd x ∧ ∃ m s, SpA L (pl j) x m ∧ L[m]? = some s ∧ s.k = 8 ∧ pl (j + 1) = m + 1) ∧ pl xs.length = e
  fin : ∃ s, L[e]? = some s ∧ s.k = 0
theorem facts_sp {c f : Int} {L : List Tok} : ∀ (n : Nat) (acc : List PAtom) (R r : List Tok) (xs : List PAtom) (pl : Nat → Nat), factsF c f n acc R = .ok xs r → acc.length ≤ 4096 → pl 0 = 0 → (∀ j x, acc[j]? = some x → Gnd x ∧ ∃ m s, SpA L (pl j) x m ∧ L[m]? = some s ∧ s.k = 8 ∧ pl (j + 1) = m + 1) → L.drop (pl acc.length) = R →
    ∃ e, SpF L xs e ∧ L.drop (e + 1) = r := by
  intro n
  induction n with
  | zero => intro acc R r xs pl h; cases h
  | succ n ih =>
    intro acc R r xs pl h h4 h0 hl hd
    rw [factsF] at h
    cases h1 : takeP c f [1, 0] R with
    | bad a b => rw [h1] at h; cases h
    | ok t r1 =>
      rw [h1] at h
      simp only at h
      obtain ⟨rfl, k1⟩ := take_sp h1
      obtain ⟨gt, dt⟩ := at_drop hd
      split at h
      · rename_i ht
        injection h with e1 e2
        subst e1 e2
        exact ⟨pl acc.length, ⟨h4, ⟨pl, h0, hl, rfl⟩, t, gt, ht⟩, dt⟩
      · rename_i ht
        split at h
        · cases h
        · rename_i hne
          cases h2 : atomP c f valueKs t r1 with
          | bad a b => rw [h2] at h; cases h
          | ok x r2 =>
            rw [h2] at h
            simp only at h
            cases h3 : takeP c f [8] r2 with
            | bad a b => rw [h3] at h; cases h
            | ok s r3 =>
              rw [h3] at h
              simp only at h
              obtain ⟨m, q, d⟩ := atom_sp valueKs_k h2 hd (by
                simp only [List.mem_cons, List.not_mem_nil, or_false] at k1
                exact k1.resolve_right ht)
              obtain ⟨rfl, k3⟩ := take_sp h3
              obtain ⟨gs, ds⟩ := at_drop d
              obtain ⟨pm, hpm⟩ : ∃ pm : Nat → Nat, pm = fun j => if j ≤ acc.length then pl j else m + 1 := ⟨_, rfl⟩
              have p1 : ∀ j, j ≤ acc.length → pm j = pl j := fun j hj => by rw [hpm]; simp only; rw [if_pos hj]
              have p2 : pm (acc.length + 1) = m + 1 := by rw [hpm]; simp only; rw [if_neg (by omega)]
              refine ih (acc ++ [x]) _ r xs pm h (by simp; omega) (by rw [p1 0 (by omega)]; exact h0) (fun j y hj => ?_) (by rw [List.length_append, List.length_singleton, p2]; exact ds)
              rcases Nat.lt_or_ge j acc.length with g | g
              · rw [List.getElem?_append_left g] at hj
                rw [p1 j (by omega), p1 (j + 1) (by omega)]
                exact hl j y hj
              · rw [List.getElem?_append_right g] at hj
                have hj0 : j - acc.length = 0 := by
                  rcases Nat.eq_zero_or_pos (j - acc.length) with g2 | g2
                  · exact g2
                  · rw [List.getElem?_eq_none (by simp; omega)] at hj; cases hj
                rw [hj0] at hj
                obtain rfl : j = acc.length := by omega
                obtain rfl : x = y := Option.some.inj hj
                rw [p1 _ (Nat.le_refl _), p2]
                exact ⟨atom_gnd h2, m, s, q, gs, by simpa using k3, rfl⟩
end Go.Proofs.YtjofiibfgfdleaaDoor

namespace Go.Proofs.YtjofiibfgfdleaaDoor
set_option linter.unusedSimpArgs false
set_option linter.unusedVariables false
open Go.RowKit

theorem splf_neq (c o : Int) (h : c ≠ 0) (w : World) : (binOp .neq 25 (.agg #[.int .i64 c, .int .i64 0, .int .i64 o]) (.agg #[.int .i64 0, .int .i64 0, .int .i64 0])).run Tryd.prog w = .ok (.bool true) w := by
  have hc : (c == 0) = false := by simpa using h
  have h1 := run_equalIn_struct (P := Tryd.prog) w 9999 25 #[.int .i64 c, .int .i64 0, .int .i64 o] #[.int .i64 0, .int .i64 0, .int .i64 0] (by kernel_rfl) (by kernel_rfl)
  simp only [binOp]
  simp only [Op.equal, Op.maxDepth, Sem.run_bind]
  go_simp
theorem query_sp {c f : Int} {L r : List Tok} {b : List PLit} (h : queryP c f L = .ok b r) : ∃ e s, SpB L 0 b e ∧ L[e]? = some s ∧ s.k = 0 := by
  unfold queryP at h
  cases h1 : bodyP c f L with
  | bad a b => rw [h1] at h; cases h
  | ok b1 r1 =>
    rw [h1] at h
    simp only at h
    cases h2 : takeP c f [0] r1 with
    | bad a b => rw [h2] at h; cases h
    | ok s r2 =>
      rw [h2] at h
      injection h with e1 e2
      subst e1 e2
      obtain ⟨e, q, d⟩ := body_sp _ [] L r1 b1 (fun _ => 0) h1 (by simp) rfl (fun j x hj => by simp at hj) (fun j j0 jl => by simp at jl; omega) rfl
      obtain ⟨rfl, k2⟩ := take_sp h2
      exact ⟨e, s, q, (at_drop d).1, by simpa using k2⟩
/-- What refused answers for such a fault. -/
def Rfs (L : List Tok) (ec eo c o : Int) : Prop := ∀ (W : World) (F : Nat → Prop) (v : Value), Lst elTk W F v L → Calls Tryd.prog 16 #[v, .agg #[.int .i64 ec, .int .i64 0, .int .i64 eo], .agg #[.int .i64 c, .int .i64 0, .int .i64 o]] W fun e w' => e = .returned (.bool true) ∧ Below W.heap.size W w'
theorem rfs {s : ByteArray} {first x o : Int} (h0 : overC first ⟨0, 0, 0⟩ = 0) (h : chkR (scanX s).2.1 ((scanX s).2.2 : Int) first first ⟨0, 0, 0⟩ (scanX s).1 = .bad x o) : Rfs (scanX s).1 (scanX s).2.1 ((scanX s).2.2 : Int) x o := fun W F v hv => by
  have hL := (scan_good s).2
  rcases who h0 h with ⟨h1, rfl, rfl⟩ | ⟨h1, h2, q, t, h3, h4, h5⟩
  · exact refused_own W v _ _ h1
  · exact refused_at W hv (by omega) _ _ _ _ h1 h2 h3 h4 h5
set_option maxRecDepth 100000 in
set_option maxHeartbeats 4000000 in
theorem spf_bb (s : ByteArray) (w : World) (hl : LexLaid w) (hs : s.size ≤ 140737488351232) {fc fo : Int} (hF : factsP (scanX s).2.1 ((scanX s).2.2 : Int) (scanX s).1 = .bad fc fo) (hfc : fc ≠ 0) {qc qo : Int} (hQ : queryP (scanX s).2.1 ((scanX s).2.2 : Int) (scanX s).1 = .bad qc qo) (hqc : qc ≠ 0) :
    Calls Tryd.prog 8 #[.string s] w fun e w' => e = .returned (.bool true) ∧ Below w.heap.size w w' := by
  have HSc := hide (scan_any s w hl hs)
  have HFa := hide (fun (W : World) (hb : Below w.heap.size w W) => parseFacts_any s W (hl.kept hb) hs)
  have HQu := hide (fun (W : World) (hb : Below w.heap.size w W) => parseQuery_any s W (hl.kept hb) hs)
  have HTk := hide (fun (W : World) (hb : Below w.heap.size w W) => taken_any W (hl.kept hb))
  obtain ⟨-, hlen⟩ := scan_good s
  unfold faultVal at HSc
  have HRF := hide (rfs (s := s) (first := 15) rfl ((facts_meet (scan_wf s)).1 _ _ hF))
  have HFb := hide (fun (W W' : World) (e : Ending) (h : ReadFacts W s e W') => readFacts_bad h hF)
  have hq1 := splf_neq fc fo hfc
  have HRQ := hide (rfs (s := s) (first := 5) rfl ((query_meet (scan_wf s)).1 _ _ hQ))
  have HQb := hide (fun (W W' : World) (e : Ending) (h : ReadQuery W s e W') => readQuery_bad h hQ)
  have hq2 := splf_neq qc qo hqc
  have hz1 := fault_self
  clear hl hs hF hQ hfc hqc
  generalize scanX s = R at *
  obtain ⟨L, ec, eo⟩ := R
  simp only at hlen HSc HRF HRQ
  have HLn := hide hlen
  clear hlen
  go_enter Tryd.func8, Tryd.ntmps8
  go_upto_region 2 with (go_at_call 9; refine HSc.out.mono ?_; intro e w1 hq; obtain ⟨v, rfl, hown, hb1⟩ := hq; have hgr : Grow elTk 30 w.heap.size w1 v L := ⟨hown, fun _ _ => trivial⟩; have hli := hgr.list (by have := HLn.out; omega); obtain ⟨va, vc, rfl, -⟩ := hli.shape; have HL1 := hide hli; have HB1 := hide hb1; clear hown hgr hli hb1)
  obtain ⟨Y, hY⟩ : ∃ Y, Y = w1.alloc (.cells #[.int .i64 ec, .int .i64 0, .int .i64 (eo : Int)] 25) := ⟨_, rfl⟩
  have HLY : Hid (Has elTk Y (.slice va L.length vc) L) := by rw [hY]; exact HL1.out.kept (belowA _ _)
  have HBY : Hid (Below w.heap.size w Y) := by rw [hY]; exact belowt2 HB1.out (belowA _ _)
  have HFY : Hid (Y.heap[w1.heap.size]? = some (.cells #[.int .i64 ec, .int .i64 0, .int .i64 (eo : Int)] 25 (0, 0))) := by rw [hY]; exact heap_alloc_new w1 _
  rw [← hY]
  clear hY HL1 HB1 HSc
  generalize w1.heap.size = g at *
  go_upto_region 3 with (go_at_call 23; refine (HFa.out _ HBY.out).mono ?_; intro e w2 hq; obtain ⟨rfl, hb2⟩ := HFb.out _ _ _ hq; clear hq; have HB2 := hide hb2; clear hb2; unfold faultV)
  obtain ⟨X, hX⟩ : ∃ X, X = w2.alloc (.cells #[.int .i64 fc, .int .i64 0, .int .i64 fo] 25) := ⟨_, rfl⟩
  have HBX : Hid (Below Y.heap.size Y X) := by rw [hX]; exact belowt2 HB2.out (belowA _ _)
  have hbf : X.heap[w2.heap.size]? = some (.cells #[.int .i64 fc, .int .i64 0, .int .i64 fo] 25 (0, 0)) := by rw [hX]; exact heap_alloc_new w2 _
  have HOX : Hid (X.heap[g]? = some (.cells #[.int .i64 ec, .int .i64 0, .int .i64 (eo : Int)] 25 (0, 0))) := by show _ = _; rw [HBX.out.block _ (Array.getElem?_eq_some_iff.1 HFY.out).1]; exact HFY.out
  have HBf := hide hbf
  have HLX := hide (HLY.out.kept HBX.out)
  rw [← hX]
  clear hX hbf HB2 HFY
  generalize w2.heap.size = d at *
  go_upto_region 4 with fail
  obtain ⟨Z, hZ⟩ : ∃ Z, Z = X.alloc (.cells #[.slice va L.length vc, .int .i64 0, .bool true] 47) := ⟨_, rfl⟩
  obtain ⟨p, hp⟩ : ∃ p, p = X.heap.size := ⟨_, rfl⟩
  have hBZ : Below X.heap.size X Z := by rw [hZ]; exact belowA _ _
  have HWZ : Hid (Wk Z p va vc L 0) := by
    rw [hp]
    exact ⟨by rw [hZ]; exact heap_alloc_new X _, HLX.out.move fun b hl _ => ⟨hl, hBZ.block b hl⟩⟩
  have HBZ : Hid (Below w.heap.size w Z) := belowt2 (belowt2 HBY.out HBX.out) hBZ
  have HPw : Hid (w.heap.size ≤ p) := by rw [hp]; exact (belowt2 HBY.out HBX.out).size
  have hgl : g < p := by rw [hp]; exact (Array.getElem?_eq_some_iff.1 HOX.out).1
  have HOZ : Hid (Z.heap[g]? = some (.cells #[.int .i64 ec, .int .i64 0, .int .i64 (eo : Int)] 25 (0, 0))) := by show _ = _; rw [hBZ.block _ (Array.getElem?_eq_some_iff.1 HOX.out).1]; exact HOX.out
  have hfz : Z.heap[d]? = some (.cells #[.int .i64 fc, .int .i64 0, .int .i64 fo] 25 (0, 0)) := by rw [hBZ.block _ (Array.getElem?_eq_some_iff.1 HBf.out).1]; exact HBf.out
  have q0 : Z.cell? ⟨d, 0, none⟩ = some (.int .i64 fc) := by simp [World.cell?, hfz]
  have q1 : Z.cell? ⟨d, 1, none⟩ = some (.int .i64 0) := by simp [World.cell?, hfz]
  have q2 : Z.cell? ⟨d, 2, none⟩ = some (.int .i64 fo) := by simp [World.cell?, hfz]
  have r0 : Z.cell? ⟨g, 0, none⟩ = some (.int .i64 ec) := by simp [World.cell?, HOZ.out]
  have r1 : Z.cell? ⟨g, 1, none⟩ = some (.int .i64 0) := by simp [World.cell?, HOZ.out]
  have r2 : Z.cell? ⟨g, 2, none⟩ = some (.int .i64 (eo : Int)) := by simp [World.cell?, HOZ.out]
  obtain ⟨⟨s0, s1, s2⟩, f1, f2⟩ := HWZ.out.cells
  rw [← hZ]
  have e9 : X.heap.size = p := hp.symm
  rw [e9]
  clear e9 hp hZ hBZ hfz HLX HBf HBX HLY HBY HOX
  go_upto_region 20 with (go_at_call 16; refine (HRF.out _ _ _ HWZ.out.tk).mono ?_; rintro e w4 ⟨rfl, hb4⟩; have HW4 := hide (HWZ.out.kept hb4); obtain ⟨⟨k0, k1, k2⟩, l1, l2⟩ := HW4.out.cells; have HB4 := hide hb4; clear hb4)
  obtain ⟨V, hV⟩ : ∃ V, V = w4.setCell ⟨p, 2, none⟩ (.bool true) := ⟨_, rfl⟩
  have HWV : Hid (Wk V p va vc L 0) := by rw [hV]; exact HW4.out.okay
  have hoV : Only (fun k => k = p) Z V := by rw [hV]; exact (Only.of_below HB4.out _).trans (Wk.only2 w4 p)
  have HBV : Hid (Below w.heap.size w V) := HBZ.out.trans (hoV.below HBZ.out.size (fun k hk e => by have := HPw.out; omega))
  have HOV : Hid (V.heap[g]? = some (.cells #[.int .i64 ec, .int .i64 0, .int .i64 (eo : Int)] 25 (0, 0))) := blk_only HOZ.out hoV (by omega)
  rw [← hV]
  clear hV hoV k0 k1 k2 l1 l2 HW4 HB4 q0 q1 q2 r0 r1 r2 s0 s1 s2 f1 f2 HWZ HOZ HBZ
  go_upto_region 21 with (go_at_call 25; refine (HQu.out _ HBV.out).mono ?_; intro e w6 hq; obtain ⟨rfl, hb6⟩ := HQb.out _ _ _ hq; clear hq; have HB6 := hide hb6; clear hb6; unfold faultV)
  obtain ⟨X, hX⟩ : ∃ X, X = w6.alloc (.cells #[.int .i64 qc, .int .i64 0, .int .i64 qo] 25) := ⟨_, rfl⟩
  have HBX : Hid (Below V.heap.size V X) := by rw [hX]; exact belowt2 HB6.out (belowA _ _)
  have HBf : Hid (X.heap[w6.heap.size]? = some (.cells #[.int .i64 qc, .int .i64 0, .int .i64 qo] 25 (0, 0))) := by rw [hX]; exact heap_alloc_new w6 _
  rw [← hX]
  clear hX HB6
  generalize w6.heap.size = d2 at *
  go_upto_region 22 with fail
  obtain ⟨Z2, hZ⟩ : ∃ Z2, Z2 = X.alloc (.cells #[.slice va L.length vc, .int .i64 0, .bool true] 47) := ⟨_, rfl⟩
  obtain ⟨p2, hp⟩ : ∃ p2, p2 = X.heap.size := ⟨_, rfl⟩
  have hBZ : Below X.heap.size X Z2 := by rw [hZ]; exact belowA _ _
  have hBV2 : Below V.heap.size V Z2 := belowt2 HBX.out hBZ
  have hpv := HWV.out.lt
  have hpp : ¬ p = p2 := by have := HBX.out.size; omega
  have hpp' : p < p2 := by have := HBX.out.size; omega
  have HWZ : Hid (Wk Z2 p2 va vc L 0) := by
    refine ⟨by rw [hZ, hp]; exact heap_alloc_new X _, HWV.out.tk.move fun b hl hF => ⟨?_, hBV2.block b hl⟩⟩
    have h9 : b < p := hF
    omega
  have HBZ : Hid (Below w.heap.size w Z2) := belowt2 HBV.out hBV2
  have HPw2 : Hid (w.heap.size ≤ p2) := by show _ ≤ _; have := HPw.out; omega
  have hoz : Z2.heap[g]? = some (.cells #[.int .i64 ec, .int .i64 0, .int .i64 (eo : Int)] 25 (0, 0)) := by rw [hBV2.block _ (Array.getElem?_eq_some_iff.1 HOV.out).1]; exact HOV.out
  have hfz : Z2.heap[d2]? = some (.cells #[.int .i64 qc, .int .i64 0, .int .i64 qo] 25 (0, 0)) := by rw [hBZ.block _ (Array.getElem?_eq_some_iff.1 HBf.out).1]; exact HBf.out
  have q0 : Z2.cell? ⟨d2, 0, none⟩ = some (.int .i64 qc) := by simp [World.cell?, hfz]
  have q1 : Z2.cell? ⟨d2, 1, none⟩ = some (.int .i64 0) := by simp [World.cell?, hfz]
  have q2 : Z2.cell? ⟨d2, 2, none⟩ = some (.int .i64 qo) := by simp [World.cell?, hfz]
  have r0 : Z2.cell? ⟨g, 0, none⟩ = some (.int .i64 ec) := by simp [World.cell?, hoz]
  have r1 : Z2.cell? ⟨g, 1, none⟩ = some (.int .i64 0) := by simp [World.cell?, hoz]
  have r2 : Z2.cell? ⟨g, 2, none⟩ = some (.int .i64 (eo : Int)) := by simp [World.cell?, hoz]
  have HPc : Hid (Z2.cell? ⟨p, 2, none⟩ = some (.bool true)) := (HWV.out.kept hBV2).cells.1.2.2
  obtain ⟨⟨s0, s1, s2⟩, f1, f2⟩ := HWZ.out.cells
  rw [← hZ]
  have e9 : X.heap.size = p2 := hp.symm
  rw [e9]
  clear e9 hp hZ hBZ hBV2 hfz hoz hpv HBf HBX HBV HOV HWV
  go_upto_region 28 with (go_at_call 16; refine (HRQ.out _ _ _ HWZ.out.tk).mono ?_; rintro e w7 ⟨rfl, hb7⟩; have HW7 := hide (HWZ.out.kept hb7); obtain ⟨⟨k0, k1, k2⟩, l1, l2⟩ := HW7.out.cells; have HO7 : Hid (Only (fun k => k = p2) Z2 w7) := Only.of_below hb7 _; clear hb7)
  obtain ⟨V2, hV⟩ : ∃ V2, V2 = w7.setCell ⟨p2, 2, none⟩ (.bool true) := ⟨_, rfl⟩
  have hoV : Only (fun k => k = p2) Z2 V2 := by rw [hV]; exact HO7.out.trans (Wk.only2 w7 p2)
  have HBV : Hid (Below w.heap.size w V2) := HBZ.out.trans (hoV.below HBZ.out.size (fun k hk e => by have := HPw2.out; omega))
  have v1 : V2.cell? ⟨p, 2, none⟩ = some (.bool true) := hoV.cell HPc.out hpp
  have v2 : V2.cell? ⟨p2, 2, none⟩ = some (.bool true) := by rw [hV]; exact HW7.out.okay.cells.1.2.2
  rw [← hV]
  clear hV hoV k0 k1 k2 l1 l2 q0 q1 q2 r0 r1 r2 s0 s1 s2 f1 f2
  go_wp2_with (go_at_call 11; refine (HTk.out _ HBV.out).mono ?_; rintro e w9 ⟨rfl, hb9⟩; have HB9 := hide (belowt2 HBV.out hb9); clear hb9)
  go_ret
  exact ⟨rfl, HB9.out⟩
set_option maxRecDepth 100000 in
set_option maxHeartbeats 4000000 in
theorem spf_bo (s : ByteArray) (w : World) (hl : LexLaid w) (hs : s.size ≤ 140737488351232) {fc fo : Int} (hF : factsP (scanX s).2.1 ((scanX s).2.2 : Int) (scanX s).1 = .bad fc fo) (hfc : fc ≠ 0) {qb : List PLit} {qr : List Tok} (hQ : queryP (scanX s).2.1 ((scanX s).2.2 : Int) (scanX s).1 = .ok qb qr) :
    Calls Tryd.prog 8 #[.string s] w fun e w' => e = .returned (.bool true) ∧ Below w.heap.size w w' := by
  have HSc := hide (scan_any s w hl hs)
  have HFa := hide (fun (W : World) (hb : Below w.heap.size w W) => parseFacts_any s W (hl.kept hb) hs)
  have HQu := hide (fun (W : World) (hb : Below w.heap.size w W) => parseQuery_any s W (hl.kept hb) hs)
  have HTk := hide (fun (W : World) (hb : Below w.heap.size w W) => taken_any W (hl.kept hb))
  obtain ⟨-, hlen⟩ := scan_good s
  unfold faultVal at HSc
  have HRF := hide (rfs (s := s) (first := 15) rfl ((facts_meet (scan_wf s)).1 _ _ hF))
  have HFb := hide (fun (W W' : World) (e : Ending) (h : ReadFacts W s e W') => readFacts_bad h hF)
  have hq1 := splf_neq fc fo hfc
  obtain ⟨eQ, g0, hspQ, hg0, hj0⟩ := query_sp hQ
  obtain ⟨hendQ, hecQ⟩ := wf_end _ _ _ (scan_wf s) hg0 hj0
  have HQo := hide (fun (W W' : World) (e : Ending) (h : ReadQuery W s e W') => readQuery_ok h hQ)
  have HSQ := hide hspQ
  clear hspQ
  have hz1 := fault_self
  clear hl hs hF hQ hfc
  generalize scanX s = R at *
  obtain ⟨L, ec, eo⟩ := R
  simp only at hlen HSc HRF HSQ hg0 hendQ hecQ
  subst hecQ
  have HLn := hide hlen
  clear hlen
  have HG0 := hide hg0
  have HJ0 := hide hj0
  have HEq := hide hendQ
  clear hg0 hj0 hendQ
  go_enter Tryd.func8, Tryd.ntmps8
  go_upto_region 2 with (go_at_call 9; refine HSc.out.mono ?_; intro e w1 hq; obtain ⟨v, rfl, hown, hb1⟩ := hq; have hgr : Grow elTk 30 w.heap.size w1 v L := ⟨hown, fun _ _ => trivial⟩; have hli := hgr.list (by have := HLn.out; omega); obtain ⟨va, vc, rfl, -⟩ := hli.shape; have HL1 := hide hli; have HB1 := hide hb1; clear hown hgr hli hb1)
  obtain ⟨Y, hY⟩ : ∃ Y, Y = w1.alloc (.cells #[.int .i64 0, .int .i64 0, .int .i64 (eo : Int)] 25) := ⟨_, rfl⟩
  have HLY : Hid (Has elTk Y (.slice va L.length vc) L) := by rw [hY]; exact HL1.out.kept (belowA _ _)
  have HBY : Hid (Below w.heap.size w Y) := by rw [hY]; exact belowt2 HB1.out (belowA _ _)
  have HFY : Hid (Y.heap[w1.heap.size]? = some (.cells #[.int .i64 0, .int .i64 0, .int .i64 (eo : Int)] 25 (0, 0))) := by rw [hY]; exact heap_alloc_new w1 _
  rw [← hY]
  clear hY HL1 HB1 HSc
  generalize w1.heap.size = g at *
  go_upto_region 3 with (go_at_call 23; refine (HFa.out _ HBY.out).mono ?_; intro e w2 hq; obtain ⟨rfl, hb2⟩ := HFb.out _ _ _ hq; clear hq; have HB2 := hide hb2; clear hb2; unfold faultV)
  obtain ⟨X, hX⟩ : ∃ X, X = w2.alloc (.cells #[.int .i64 fc, .int .i64 0, .int .i64 fo] 25) := ⟨_, rfl⟩
  have HBX : Hid (Below Y.heap.size Y X) := by rw [hX]; exact belowt2 HB2.out (belowA _ _)
  have hbf : X.heap[w2.heap.size]? = some (.cells #[.int .i64 fc, .int .i64 0, .int .i64 fo] 25 (0, 0)) := by rw [hX]; exact heap_alloc_new w2 _
  have HOX : Hid (X.heap[g]? = some (.cells #[.int .i64 0, .int .i64 0, .int .i64 (eo : Int)] 25 (0, 0))) := by show _ = _; rw [HBX.out.block _ (Array.getElem?_eq_some_iff.1 HFY.out).1]; exact HFY.out
  have HBf := hide hbf
  have HLX := hide (HLY.out.kept HBX.out)
  rw [← hX]
  clear hX hbf HB2 HFY
  generalize w2.heap.size = d at *
  go_upto_region 4 with fail
  obtain ⟨Z, hZ⟩ : ∃ Z, Z = X.alloc (.cells #[.slice va L.length vc, .int .i64 0, .bool true] 47) := ⟨_, rfl⟩
  obtain ⟨p, hp⟩ : ∃ p, p = X.heap.size := ⟨_, rfl⟩
  have hBZ : Below X.heap.size X Z := by rw [hZ]; exact belowA _ _
  have HWZ : Hid (Wk Z p va vc L 0) := by
    rw [hp]
    exact ⟨by rw [hZ]; exact heap_alloc_new X _, HLX.out.move fun b hl _ => ⟨hl, hBZ.block b hl⟩⟩
  have HBZ : Hid (Below w.heap.size w Z) := belowt2 (belowt2 HBY.out HBX.out) hBZ
  have HPw : Hid (w.heap.size ≤ p) := by rw [hp]; exact (belowt2 HBY.out HBX.out).size
  have hgl : g < p := by rw [hp]; exact (Array.getElem?_eq_some_iff.1 HOX.out).1
  have HOZ : Hid (Z.heap[g]? = some (.cells #[.int .i64 0, .int .i64 0, .int .i64 (eo : Int)] 25 (0, 0))) := by show _ = _; rw [hBZ.block _ (Array.getElem?_eq_some_iff.1 HOX.out).1]; exact HOX.out
  have hfz : Z.heap[d]? = some (.cells #[.int .i64 fc, .int .i64 0, .int .i64 fo] 25 (0, 0)) := by rw [hBZ.block _ (Array.getElem?_eq_some_iff.1 HBf.out).1]; exact HBf.out
  have q0 : Z.cell? ⟨d, 0, none⟩ = some (.int .i64 fc) := by simp [World.cell?, hfz]
  have q1 : Z.cell? ⟨d, 1, none⟩ = some (.int .i64 0) := by simp [World.cell?, hfz]
  have q2 : Z.cell? ⟨d, 2, none⟩ = some (.int .i64 fo) := by simp [World.cell?, hfz]
  have r0 : Z.cell? ⟨g, 0, none⟩ = some (.int .i64 0) := by simp [World.cell?, HOZ.out]
  have r1 : Z.cell? ⟨g, 1, none⟩ = some (.int .i64 0) := by simp [World.cell?, HOZ.out]
  have r2 : Z.cell? ⟨g, 2, none⟩ = some (.int .i64 (eo : Int)) := by simp [World.cell?, HOZ.out]
  obtain ⟨⟨s0, s1, s2⟩, f1, f2⟩ := HWZ.out.cells
  rw [← hZ]
  have e9 : X.heap.size = p := hp.symm
  rw [e9]
  clear e9 hp hZ hBZ hfz HLX HBf HBX HLY HBY HOX
  go_upto_region 20 with (go_at_call 16; refine (HRF.out _ _ _ HWZ.out.tk).mono ?_; rintro e w4 ⟨rfl, hb4⟩; have HW4 := hide (HWZ.out.kept hb4); obtain ⟨⟨k0, k1, k2⟩, l1, l2⟩ := HW4.out.cells; have HB4 := hide hb4; clear hb4)
  obtain ⟨V, hV⟩ : ∃ V, V = w4.setCell ⟨p, 2, none⟩ (.bool true) := ⟨_, rfl⟩
  have HWV : Hid (Wk V p va vc L 0) := by rw [hV]; exact HW4.out.okay
  have hoV : Only (fun k => k = p) Z V := by rw [hV]; exact (Only.of_below HB4.out _).trans (Wk.only2 w4 p)
  have HBV : Hid (Below w.heap.size w V) := HBZ.out.trans (hoV.below HBZ.out.size (fun k hk e => by have := HPw.out; omega))
  have HOV : Hid (V.heap[g]? = some (.cells #[.int .i64 0, .int .i64 0, .int .i64 (eo : Int)] 25 (0, 0))) := blk_only HOZ.out hoV (by omega)
  rw [← hV]
  clear hV hoV k0 k1 k2 l1 l2 HW4 HB4 q0 q1 q2 r0 r1 r2 s0 s1 s2 f1 f2 HWZ HOZ HBZ
  go_upto_region 21 with (go_at_call 25; refine (HQu.out _ HBV.out).mono ?_; intro e w6 hq; obtain ⟨v, ls, rfl, hpur, hcl, hls, hb6⟩ := HQo.out _ _ _ hq; clear hq; obtain ⟨la, lc, rfl, -⟩ := hls.shape; have HB6 := hide hb6; have HLq := hide hls.all; have HPq := hide hpur; clear hb6 hls hpur hcl; unfold faultV)
  obtain ⟨X, hX⟩ : ∃ X, X = w6.alloc (.cells #[.int .i64 0, .int .i64 0, .int .i64 0] 25) := ⟨_, rfl⟩
  have HBX : Hid (Below V.heap.size V X) := by rw [hX]; exact belowt2 HB6.out (belowA _ _)
  have HBf : Hid (X.heap[w6.heap.size]? = some (.cells #[.int .i64 0, .int .i64 0, .int .i64 0] 25 (0, 0))) := by rw [hX]; exact heap_alloc_new w6 _
  have HLq2 : Hid (Has elLix X (.slice la ls.length lc) ls) := by rw [hX]; exact HLq.out.kept (belowA _ _)
  rw [← hX]
  clear hX HB6 HLq
  generalize w6.heap.size = d2 at *
  go_upto_region 22 with fail
  obtain ⟨Z2, hZ⟩ : ∃ Z2, Z2 = X.alloc (.cells #[.slice va L.length vc, .int .i64 0, .bool true] 47) := ⟨_, rfl⟩
  obtain ⟨p2, hp⟩ : ∃ p2, p2 = X.heap.size := ⟨_, rfl⟩
  have hBZ : Below X.heap.size X Z2 := by rw [hZ]; exact belowA _ _
  have hBV2 : Below V.heap.size V Z2 := belowt2 HBX.out hBZ
  have hpv := HWV.out.lt
  have hpp : ¬ p = p2 := by have := HBX.out.size; omega
  have hpp' : p < p2 := by have := HBX.out.size; omega
  have HWZ : Hid (Wk Z2 p2 va vc L 0) := by
    refine ⟨by rw [hZ, hp]; exact heap_alloc_new X _, HWV.out.tk.move fun b hl hF => ⟨?_, hBV2.block b hl⟩⟩
    have h9 : b < p := hF
    omega
  have HBZ : Hid (Below w.heap.size w Z2) := belowt2 HBV.out hBV2
  have HPw2 : Hid (w.heap.size ≤ p2) := by show _ ≤ _; have := HPw.out; omega
  have hoz : Z2.heap[g]? = some (.cells #[.int .i64 0, .int .i64 0, .int .i64 (eo : Int)] 25 (0, 0)) := by rw [hBV2.block _ (Array.getElem?_eq_some_iff.1 HOV.out).1]; exact HOV.out
  have hfz : Z2.heap[d2]? = some (.cells #[.int .i64 0, .int .i64 0, .int .i64 0] 25 (0, 0)) := by rw [hBZ.block _ (Array.getElem?_eq_some_iff.1 HBf.out).1]; exact HBf.out
  have q0 : Z2.cell? ⟨d2, 0, none⟩ = some (.int .i64 0) := by simp [World.cell?, hfz]
  have q1 : Z2.cell? ⟨d2, 1, none⟩ = some (.int .i64 0) := by simp [World.cell?, hfz]
  have q2 : Z2.cell? ⟨d2, 2, none⟩ = some (.int .i64 0) := by simp [World.cell?, hfz]
  have r0 : Z2.cell? ⟨g, 0, none⟩ = some (.int .i64 0) := by simp [World.cell?, hoz]
  have r1 : Z2.cell? ⟨g, 1, none⟩ = some (.int .i64 0) := by simp [World.cell?, hoz]
  have r2 : Z2.cell? ⟨g, 2, none⟩ = some (.int .i64 (eo : Int)) := by simp [World.cell?, hoz]
  have HPc : Hid (Z2.cell? ⟨p, 2, none⟩ = some (.bool true)) := (HWV.out.kept hBV2).cells.1.2.2
  obtain ⟨⟨s0, s1, s2⟩, f1, f2⟩ := HWZ.out.cells
  have HCZ : Hid (Lst elLix Z2 (fun b => b < p2) (.slice la ls.length lc) ls) := by
    rw [hp]
    exact HLq2.out.move fun b hl _ => ⟨hl, hBZ.block b hl⟩
  rw [← hZ]
  have e9 : X.heap.size = p2 := hp.symm
  rw [e9]
  clear e9 hp hZ hBZ hBV2 hfz hoz hpv HBf HBX HBV HOV HWV HLq2
  go_upto_region 25 with fail
  obtain ⟨U2, hU⟩ : ∃ U2, U2 = Z2.setCell ⟨p2, 2, none⟩ (.bool true) := ⟨_, rfl⟩
  have HWU2 : Hid (Wk U2 p2 va vc L 0) := by rw [hU]; exact HWZ.out.okay
  have HOU2 : Hid (Only (fun k => k = p2) Z2 U2) := by rw [hU]; exact Wk.only2 Z2 p2
  have HCU2 := hide (lst_only HCZ.out HOU2.out)
  rw [← hU]
  clear hU HCZ q0 q1 q2 r0 r1 r2 s0 s1 s2 f1 f2
  have HBd := hide (fun (W : World) (hw : Wk W p2 va vc L 0) (hl : Lst elLix W (fun b => b < p2) (.slice la ls.length lc) ls) => spBody_ok hw (by have := HLn.out; omega) _ ls (by rw [HPq.out]; exact HSQ.out) hl)
  have HE2 := hide (fun (W : World) (hw : Wk W p2 va vc L eQ) => eat_ok hw HG0.out (by have := HLn.out; omega))
  unfold tokV at HE2
  rw [HJ0.out, HEq.out] at HE2
  go_upto_region 28 with (first
    | (go_at_call 19; refine (HBd.out _ HWU2.out HCU2.out).mono ?_; rintro e w8 ⟨rfl, hw8, ho8⟩; have HW8 := hide hw8; have HO8 := hide (HOU2.out.trans ho8); clear hw8 ho8)
    | (go_at_call 18; refine (HE2.out _ HW8.out).mono ?_; rintro e w7 ⟨rfl, hw7, ho7⟩; have HW7 := hide hw7; have HO7 := hide (HO8.out.trans ho7); obtain ⟨⟨k0, k1, k2⟩, l1, l2⟩ := hw7.cells; clear hw7 ho7))
  obtain ⟨V2, hV⟩ : ∃ V2, V2 = w7.setCell ⟨p2, 2, none⟩ (.bool true) := ⟨_, rfl⟩
  have hoV : Only (fun k => k = p2) Z2 V2 := by rw [hV]; exact HO7.out.trans (Wk.only2 w7 p2)
  have HBV : Hid (Below w.heap.size w V2) := HBZ.out.trans (hoV.below HBZ.out.size (fun k hk e => by have := HPw2.out; omega))
  have v1 : V2.cell? ⟨p, 2, none⟩ = some (.bool true) := hoV.cell HPc.out hpp
  have v2 : V2.cell? ⟨p2, 2, none⟩ = some (.bool true) := by rw [hV]; exact HW7.out.okay.cells.1.2.2
  rw [← hV]
  clear hV hoV k0 k1 k2 l1 l2
  go_wp2_with (go_at_call 11; refine (HTk.out _ HBV.out).mono ?_; rintro e w9 ⟨rfl, hb9⟩; have HB9 := hide (belowt2 HBV.out hb9); clear hb9)
  go_ret
  exact ⟨rfl, HB9.out⟩
set_option maxRecDepth 100000 in
set_option maxHeartbeats 4000000 in
theorem spf_ob (s : ByteArray) (w : World) (hl : LexLaid w) (hs : s.size ≤ 140737488351232) {fb : List PAtom} {fr : List Tok} (hF : factsP (scanX s).2.1 ((scanX s).2.2 : Int) (scanX s).1 = .ok fb fr) {qc qo : Int} (hQ : queryP (scanX s).2.1 ((scanX s).2.2 : Int) (scanX s).1 = .bad qc qo) (hqc : qc ≠ 0) :
    Calls Tryd.prog 8 #[.string s] w fun e w' => e = .returned (.bool true) ∧ Below w.heap.size w w' := by
  have HSc := hide (scan_any s w hl hs)
  have HFa := hide (fun (W : World) (hb : Below w.heap.size w W) => parseFacts_any s W (hl.kept hb) hs)
  have HQu := hide (fun (W : World) (hb : Below w.heap.size w W) => parseQuery_any s W (hl.kept hb) hs)
  have HTk := hide (fun (W : World) (hb : Below w.heap.size w W) => taken_any W (hl.kept hb))
  obtain ⟨-, hlen⟩ := scan_good s
  unfold faultVal at HSc
  obtain ⟨eF, hspF, -⟩ := facts_sp (L := (scanX s).1) _ [] _ fr fb (fun _ => 0) hF (by simp) rfl (fun j x hj => by simp at hj) rfl
  obtain ⟨-, ⟨pl, hp0, hpl, hpe⟩, ⟨f0, hf0, hk0⟩⟩ := hspF
  obtain ⟨hendF, hecF⟩ := wf_end _ _ _ (scan_wf s) hf0 hk0
  have HFo := hide (fun (W W' : World) (e : Ending) (h : ReadFacts W s e W') => readFacts_ok h hF)
  have HCl := hide hpl
  clear hpl
  have HRQ := hide (rfs (s := s) (first := 5) rfl ((query_meet (scan_wf s)).1 _ _ hQ))
  have HQb := hide (fun (W W' : World) (e : Ending) (h : ReadQuery W s e W') => readQuery_bad h hQ)
  have hq2 := splf_neq qc qo hqc
  have hz1 := fault_self
  clear hl hs hF hQ hqc
  generalize scanX s = R at *
  obtain ⟨L, ec, eo⟩ := R
  simp only at hlen HSc HCl hf0 hendF hecF HRQ
  subst hecF
  have HLn := hide hlen
  clear hlen
  have HF0 := hide hf0
  have HK0 := hide hk0
  have HEn := hide hendF
  have HPe := hide hpe
  have HP0 := hide hp0
  clear hf0 hk0 hendF hpe hp0
  go_enter Tryd.func8, Tryd.ntmps8
  go_upto_region 2 with (go_at_call 9; refine HSc.out.mono ?_; intro e w1 hq; obtain ⟨v, rfl, hown, hb1⟩ := hq; have hgr : Grow elTk 30 w.heap.size w1 v L := ⟨hown, fun _ _ => trivial⟩; have hli := hgr.list (by have := HLn.out; omega); obtain ⟨va, vc, rfl, -⟩ := hli.shape; have HL1 := hide hli; have HB1 := hide hb1; clear hown hgr hli hb1)
  obtain ⟨Y, hY⟩ : ∃ Y, Y = w1.alloc (.cells #[.int .i64 0, .int .i64 0, .int .i64 (eo : Int)] 25) := ⟨_, rfl⟩
  have HLY : Hid (Has elTk Y (.slice va L.length vc) L) := by rw [hY]; exact HL1.out.kept (belowA _ _)
  have HBY : Hid (Below w.heap.size w Y) := by rw [hY]; exact belowt2 HB1.out (belowA _ _)
  have HFY : Hid (Y.heap[w1.heap.size]? = some (.cells #[.int .i64 0, .int .i64 0, .int .i64 (eo : Int)] 25 (0, 0))) := by rw [hY]; exact heap_alloc_new w1 _
  rw [← hY]
  clear hY HL1 HB1 HSc
  generalize w1.heap.size = g at *
  go_upto_region 3 with (go_at_call 23; refine (HFa.out _ HBY.out).mono ?_; intro e w2 hq; obtain ⟨v, fs, rfl, hpur, hcl, hls, hb2⟩ := HFo.out _ _ _ hq; clear hq; obtain ⟨ca, cc, rfl, -⟩ := hls.shape; have HB2 := hide hb2; have HLs := hide hls.all; have HPu := hide hpur; have HCn := hide hcl; clear hb2 hls hpur hcl; unfold faultV)
  obtain ⟨X, hX⟩ : ∃ X, X = w2.alloc (.cells #[.int .i64 0, .int .i64 0, .int .i64 0] 25) := ⟨_, rfl⟩
  have HBX : Hid (Below Y.heap.size Y X) := by rw [hX]; exact belowt2 HB2.out (belowA _ _)
  have hbf : X.heap[w2.heap.size]? = some (.cells #[.int .i64 0, .int .i64 0, .int .i64 0] 25 (0, 0)) := by rw [hX]; exact heap_alloc_new w2 _
  have HOX : Hid (X.heap[g]? = some (.cells #[.int .i64 0, .int .i64 0, .int .i64 (eo : Int)] 25 (0, 0))) := by show _ = _; rw [HBX.out.block _ (Array.getElem?_eq_some_iff.1 HFY.out).1]; exact HFY.out
  have HBf := hide hbf
  have HLX := hide (HLY.out.kept HBX.out)
  have HLs2 : Hid (Has elAtx X (.slice ca fs.length cc) fs) := by rw [hX]; exact HLs.out.kept (belowA _ _)
  rw [← hX]
  clear hX hbf HB2 HFY HLs
  generalize w2.heap.size = d at *
  go_upto_region 4 with fail
  obtain ⟨Z, hZ⟩ : ∃ Z, Z = X.alloc (.cells #[.slice va L.length vc, .int .i64 0, .bool true] 47) := ⟨_, rfl⟩
  obtain ⟨p, hp⟩ : ∃ p, p = X.heap.size := ⟨_, rfl⟩
  have hBZ : Below X.heap.size X Z := by rw [hZ]; exact belowA _ _
  have HWZ : Hid (Wk Z p va vc L 0) := by
    rw [hp]
    exact ⟨by rw [hZ]; exact heap_alloc_new X _, HLX.out.move fun b hl _ => ⟨hl, hBZ.block b hl⟩⟩
  have HBZ : Hid (Below w.heap.size w Z) := belowt2 (belowt2 HBY.out HBX.out) hBZ
  have HPw : Hid (w.heap.size ≤ p) := by rw [hp]; exact (belowt2 HBY.out HBX.out).size
  have hgl : g < p := by rw [hp]; exact (Array.getElem?_eq_some_iff.1 HOX.out).1
  have HOZ : Hid (Z.heap[g]? = some (.cells #[.int .i64 0, .int .i64 0, .int .i64 (eo : Int)] 25 (0, 0))) := by show _ = _; rw [hBZ.block _ (Array.getElem?_eq_some_iff.1 HOX.out).1]; exact HOX.out
  have hfz : Z.heap[d]? = some (.cells #[.int .i64 0, .int .i64 0, .int .i64 0] 25 (0, 0)) := by rw [hBZ.block _ (Array.getElem?_eq_some_iff.1 HBf.out).1]; exact HBf.out
  have q0 : Z.cell? ⟨d, 0, none⟩ = some (.int .i64 0) := by simp [World.cell?, hfz]
  have q1 : Z.cell? ⟨d, 1, none⟩ = some (.int .i64 0) := by simp [World.cell?, hfz]
  have q2 : Z.cell? ⟨d, 2, none⟩ = some (.int .i64 0) := by simp [World.cell?, hfz]
  have r0 : Z.cell? ⟨g, 0, none⟩ = some (.int .i64 0) := by simp [World.cell?, HOZ.out]
  have r1 : Z.cell? ⟨g, 1, none⟩ = some (.int .i64 0) := by simp [World.cell?, HOZ.out]
  have r2 : Z.cell? ⟨g, 2, none⟩ = some (.int .i64 (eo : Int)) := by simp [World.cell?, HOZ.out]
  obtain ⟨⟨s0, s1, s2⟩, f1, f2⟩ := HWZ.out.cells
  have HCZ : Hid (Lst elAtx Z (fun b => b < p) (.slice ca fs.length cc) fs) := by
    rw [hp]
    exact HLs2.out.move fun b hl _ => ⟨hl, hBZ.block b hl⟩
  rw [← hZ]
  have e9 : X.heap.size = p := hp.symm
  rw [e9]
  clear e9 hp hZ hBZ hfz HLX HBf HBX HLY HBY HOX HLs2
  have k4 : decide ((fs.length : Int) ≤ 4096) = true := decide_eq_true (by have := HCn.out; omega)
  have k4' : decide (fs.length ≤ 4096) = true := decide_eq_true HCn.out
  go_upto_region 7 with fail
  obtain ⟨U, hU⟩ : ∃ U, U = Z.setCell ⟨p, 2, none⟩ (.bool true) := ⟨_, rfl⟩
  have HWU : Hid (Wk U p va vc L (pl 0)) := by rw [hU, HP0.out]; exact HWZ.out.okay
  have HOU : Hid (Only (fun k => k = p) Z U) := by rw [hU]; exact Wk.only2 Z p
  have HCU := hide (lst_only HCZ.out HOU.out)
  rw [← hU]
  clear hU k4 k4' q0 q1 q2 r0 r1 r2 s0 s1 s2 f1 f2 HWZ HCZ
  go_wp2
  obtain ⟨m, hm⟩ : ∃ m, m = fs.length := ⟨_, rfl⟩
  rw [← hm] at HCU HCn ⊢
  have HM := hide hm
  clear hm
  have HPm : Hid (pl m = eF) := by show _ = _; rw [HM.out, ← HPe.out, ← HPu.out, List.length_map]
  go_loopw [56] (fun iv wl => ∃ j : Nat, j ≤ m ∧ iv = .int .i64 (j : Int) ∧ Hid (Wk wl p va vc L (pl j)) ∧ Hid (Only (fun k => k = p) U wl)) (fun iv _ => m - (intOf iv).toNat)
  case atStart => exact ⟨0, by omega, rfl, HWU.out, Only.refl _ _⟩
  case round =>
    obtain ⟨j, hj, rfl, HWl, HOl⟩ := hrel
    have hmm := HCn.out
    by_cases hlt : j < m
    · have hi : (j : Int) < (m : Int) := by omega
      have hi0 : (0 : Int) ≤ (j : Int) := by omega
      obtain ⟨x, hx⟩ : ∃ x, fs[j]? = some x := ⟨_, List.getElem?_eq_getElem (by rw [← HM.out]; exact hlt)⟩
      have hAl := lst_only HCU.out HOl.out
      have hoh := (elAtx_ok (hAl.ok (List.mem_of_getElem? hx))).2.2
      obtain ⟨hgn, k1, sp, hsa, hsp, hsk, hnx⟩ := HCl.out j x.pur (by rw [← HPu.out, List.getElem?_map, hx]; rfl)
      have HAt := hide (fun (W : World) (hw : Wk W p va vc L (pl j)) (hl : Lst elTrm W (fun b => b < p) x.v x.ts) => spAtom_ok hw (by have := HLn.out; omega) x hsa hl)
      have HE := hide (fun (W : World) (hw : Wk W p va vc L k1) => eat_ok hw hsp (by have := HLn.out; omega))
      unfold tokV at HE
      rw [hsk] at HE
      obtain ⟨b3, o3, rfl, -, hF3, hr3⟩ := hAl.row (by rw [← HM.out]; omega)
      have y0 := hr3 j _ hx 0 _ rfl
      have y1 := hr3 j _ hx 1 _ rfl
      have y2 := hr3 j _ hx 2 _ rfl
      simp only [elAtx, Nat.add_zero] at y0 y1 y2
      obtain ⟨xp, xv, xo, xts⟩ := x
      unfold Atx.val at HAt
      have HGn : Hid (∀ t ∈ xts, t.k ≠ 4) := hgn
      simp only at hoh HAt y0 y1 y2
      obtain ⟨xa, xc, rfl, -⟩ := hoh.shape
      have HOh := hide hoh
      have HNx := hide hnx
      obtain ⟨n, hn⟩ : ∃ n, n = xts.length := ⟨_, rfl⟩
      rw [← hn] at y1 HAt
      have HN := hide hn
      have hn8 : n ≤ 8 := by have := hsa.few; rw [hn]; exact this
      obtain ⟨Q, hQ⟩ : ∃ Q, Q = wr.alloc (.cells #[.string xp, .slice xa n xc, .int .i64 xo] 50) := ⟨_, rfl⟩
      have HBQ : Hid (Below wr.heap.size wr Q) := by rw [hQ]; exact belowA _ _
      have HXQ : Hid (Q.heap[wr.heap.size]? = some (.cells #[.string xp, .slice xa n xc, .int .i64 xo] 50 (0, 0))) := by rw [hQ]; exact heap_alloc_new wr _
      have hpr := HWl.out.lt
      have t1 : Q.cell? ⟨wr.heap.size, 1, none⟩ = some (.slice xa n xc) := by simp [World.cell?, HXQ.out]
      have HWQ := hide (HWl.out.kept HBQ.out)
      have HOQ : Hid (Only (fun k => k = p) wr Q) := Only.of_below HBQ.out _
      have HHQ : Hid (Lst elTrm Q (fun b => b < p) (.slice xa n xc) xts) := by rw [HN.out]; exact lst_only HOh.out HOQ.out
      have hnp : ¬ wr.heap.size = p := by omega
      clear hr3 hAl hF3 hx hoh hsa hsp hsk hnx hn hgn
      go_upto_region 10 with fail
      rw [← hQ]
      clear hQ y0 y1 y2
      have HPr := hide hpr
      clear hpr
      generalize wr.heap.size = gq at *
      go_wp2
      clear t1
      go_loopw [63] (fun iv wl => ∃ k : Nat, k ≤ n ∧ iv = .int .i64 (k : Int) ∧ Hid (Wk wl p va vc L (pl j)) ∧ Hid (Only (fun k => k = p) Q wl)) (fun iv _ => n - (intOf iv).toNat)
      case atStart => exact ⟨0, by omega, rfl, HWQ.out, Only.refl _ _⟩
      case round =>
        obtain ⟨k, hk, rfl, HWk, HOk⟩ := hrel
        by_cases hkt : k < n
        · have hi2 : (k : Int) < (n : Int) := by omega
          have hi3 : (0 : Int) ≤ (k : Int) := by omega
          obtain ⟨t, ht⟩ : ∃ t, xts[k]? = some t := ⟨_, List.getElem?_eq_getElem (by rw [← HN.out]; exact hkt)⟩
          have ek : (t.k != 4) = true := bne_iff_ne.2 (HGn.out t (List.mem_of_getElem? ht))
          have hTl := lst_only HHQ.out HOk.out
          obtain ⟨b4, o4, rfl, -, hF4, hr4⟩ := hTl.row (by rw [← HN.out]; omega)
          have y0 := hr4 k _ ht 0 _ rfl
          have y1 := hr4 k _ ht 1 _ rfl
          have y2 := hr4 k _ ht 2 _ rfl
          have y3 := hr4 k _ ht 3 _ rfl
          simp only [elTrm, Nat.add_zero] at y0 y1 y2 y3
          obtain ⟨T, hT⟩ : ∃ T, T = wr.alloc (.cells #[.int .i64 t.k, .int .i64 t.n, .string t.s, .int .i64 t.off] 65) := ⟨_, rfl⟩
          have HBT : Hid (Below wr.heap.size wr T) := by rw [hT]; exact belowA _ _
          have hbt : T.heap[wr.heap.size]? = some (.cells #[.int .i64 t.k, .int .i64 t.n, .string t.s, .int .i64 t.off] 65 (0, 0)) := by rw [hT]; exact heap_alloc_new wr _
          have c0 : T.cell? ⟨wr.heap.size, 0, none⟩ = some (.int .i64 t.k) := by simp [World.cell?, hbt]
          have HWT := hide (HWk.out.kept HBT.out)
          have HOT : Hid (Only (fun k => k = p) Q T) := HOk.out.trans (Only.of_below HBT.out _)
          obtain ⟨⟨s0, s1, s2⟩, f1, f2⟩ := HWT.out.cells
          clear hr4 hTl hF4 ht hbt
          go_upto_region 13 with fail
          rw [← hT]
          clear hT y0 y1 y2 y3
          go_wp2
          go_roundw
          case rel => exact ⟨k + 1, by omega, by go_num, HWT.out.okay, HOT.out.trans (Wk.only2 T p)⟩
          case measure => simp [intOf]; omega
        · obtain rfl : k = n := by omega
          have hi2 : ¬ (k : Int) < (k : Int) := by omega
          have hbk := blk_only HXQ.out HOk.out hnp
          have c0 : wr.cell? ⟨gq, 0, none⟩ = some (.string xp) := by simp [World.cell?, hbk]
          have c1 : wr.cell? ⟨gq, 1, none⟩ = some (.slice xa k xc) := by simp [World.cell?, hbk]
          have c2 : wr.cell? ⟨gq, 2, none⟩ = some (.int .i64 xo) := by simp [World.cell?, hbk]
          have HHk := hide (lst_only HHQ.out HOk.out)
          clear hbk
          go_wp2_with (first
            | (go_at_call 17; refine (HAt.out _ HWk.out HHk.out).mono ?_; rintro e w2 ⟨rfl, hw2, ho2⟩; have HW2 := hide hw2; have HO2 := hide (((HOl.out.trans HOQ.out).trans HOk.out).trans ho2); clear hw2 ho2)
            | (go_at_call 18; refine (HE.out _ HW2.out).mono ?_; rintro e w3 ⟨rfl, hw3, ho3⟩; have HW3 := hide hw3; have HO3 := hide (HO2.out.trans ho3); clear hw3 ho3))
          go_roundw
          case rel => exact ⟨j + 1, by omega, by go_num, by show Wk _ _ _ _ _ _; rw [HNx.out]; exact HW3.out, HO3⟩
          case measure => simp [intOf]; omega
    · obtain rfl : j = m := by omega
      have hi : ¬ (j : Int) < (j : Int) := by omega
      have HE := hide (eat_ok HWl.out (by rw [HPm.out]; exact HF0.out) (by have := HLn.out; omega))
      unfold tokV at HE
      rw [HK0.out, HPm.out, HEn.out] at HE
      go_upto_region 20 with (go_at_call 18; refine HE.out.mono ?_; rintro e w4 ⟨rfl, hw4, ho4⟩; have HO4 := hide (HOl.out.trans ho4); have HW4 := hide hw4; obtain ⟨⟨k0, k1, k2⟩, l1, l2⟩ := hw4.cells; clear hw4 ho4)
      obtain ⟨V, hV⟩ : ∃ V, V = w4.setCell ⟨p, 2, none⟩ (.bool true) := ⟨_, rfl⟩
      have HWV : Hid (Wk V p va vc L L.length) := by rw [hV]; exact HW4.out.okay
      have hoV : Only (fun k => k = p) Z V := by rw [hV]; exact (HOU.out.trans HO4.out).trans (Wk.only2 w4 p)
      have HBV : Hid (Below w.heap.size w V) := HBZ.out.trans (hoV.below HBZ.out.size (fun k hk e => by have := HPw.out; omega))
      have HOV : Hid (V.heap[g]? = some (.cells #[.int .i64 0, .int .i64 0, .int .i64 (eo : Int)] 25 (0, 0))) := blk_only HOZ.out hoV (by omega)
      rw [← hV]
      clear hV hoV k0 k1 k2 l1 l2 HW4 HO4 HOl HWl HOZ HBZ
      go_upto_region 21 with (go_at_call 25; refine (HQu.out _ HBV.out).mono ?_; intro e w6 hq; obtain ⟨rfl, hb6⟩ := HQb.out _ _ _ hq; clear hq; have HB6 := hide hb6; clear hb6; unfold faultV)
      obtain ⟨X, hX⟩ : ∃ X, X = w6.alloc (.cells #[.int .i64 qc, .int .i64 0, .int .i64 qo] 25) := ⟨_, rfl⟩
      have HBX : Hid (Below V.heap.size V X) := by rw [hX]; exact belowt2 HB6.out (belowA _ _)
      have HBf : Hid (X.heap[w6.heap.size]? = some (.cells #[.int .i64 qc, .int .i64 0, .int .i64 qo] 25 (0, 0))) := by rw [hX]; exact heap_alloc_new w6 _
      rw [← hX]
      clear hX HB6
      generalize w6.heap.size = d2 at *
      go_upto_region 22 with fail
      obtain ⟨Z2, hZ⟩ : ∃ Z2, Z2 = X.alloc (.cells #[.slice va L.length vc, .int .i64 0, .bool true] 47) := ⟨_, rfl⟩
      obtain ⟨p2, hp⟩ : ∃ p2, p2 = X.heap.size := ⟨_, rfl⟩
      have hBZ : Below X.heap.size X Z2 := by rw [hZ]; exact belowA _ _
      have hBV2 : Below V.heap.size V Z2 := belowt2 HBX.out hBZ
      have hpv := HWV.out.lt
      have hpp : ¬ p = p2 := by have := HBX.out.size; omega
      have hpp' : p < p2 := by have := HBX.out.size; omega
      have HWZ : Hid (Wk Z2 p2 va vc L 0) := by
        refine ⟨by rw [hZ, hp]; exact heap_alloc_new X _, HWV.out.tk.move fun b hl hF => ⟨?_, hBV2.block b hl⟩⟩
        have h9 : b < p := hF
        omega
      have HBZ : Hid (Below w.heap.size w Z2) := belowt2 HBV.out hBV2
      have HPw2 : Hid (w.heap.size ≤ p2) := by show _ ≤ _; have := HPw.out; omega
      have hoz : Z2.heap[g]? = some (.cells #[.int .i64 0, .int .i64 0, .int .i64 (eo : Int)] 25 (0, 0)) := by rw [hBV2.block _ (Array.getElem?_eq_some_iff.1 HOV.out).1]; exact HOV.out
      have hfz : Z2.heap[d2]? = some (.cells #[.int .i64 qc, .int .i64 0, .int .i64 qo] 25 (0, 0)) := by rw [hBZ.block _ (Array.getElem?_eq_some_iff.1 HBf.out).1]; exact HBf.out
      have q0 : Z2.cell? ⟨d2, 0, none⟩ = some (.int .i64 qc) := by simp [World.cell?, hfz]
      have q1 : Z2.cell? ⟨d2, 1, none⟩ = some (.int .i64 0) := by simp [World.cell?, hfz]
      have q2 : Z2.cell? ⟨d2, 2, none⟩ = some (.int .i64 qo) := by simp [World.cell?, hfz]
      have r0 : Z2.cell? ⟨g, 0, none⟩ = some (.int .i64 0) := by simp [World.cell?, hoz]
      have r1 : Z2.cell? ⟨g, 1, none⟩ = some (.int .i64 0) := by simp [World.cell?, hoz]
      have r2 : Z2.cell? ⟨g, 2, none⟩ = some (.int .i64 (eo : Int)) := by simp [World.cell?, hoz]
      have HPc : Hid (Z2.cell? ⟨p, 2, none⟩ = some (.bool true)) := (HWV.out.kept hBV2).cells.1.2.2
      obtain ⟨⟨s0, s1, s2⟩, f1, f2⟩ := HWZ.out.cells
      rw [← hZ]
      have e9 : X.heap.size = p2 := hp.symm
      rw [e9]
      clear e9 hp hZ hBZ hBV2 hfz hoz hpv HBf HBX HBV HOV HWV
      go_upto_region 28 with (go_at_call 16; refine (HRQ.out _ _ _ HWZ.out.tk).mono ?_; rintro e w7 ⟨rfl, hb7⟩; have HW7 := hide (HWZ.out.kept hb7); obtain ⟨⟨k0, k1, k2⟩, l1, l2⟩ := HW7.out.cells; have HO7 : Hid (Only (fun k => k = p2) Z2 w7) := Only.of_below hb7 _; clear hb7)
      obtain ⟨V2, hV⟩ : ∃ V2, V2 = w7.setCell ⟨p2, 2, none⟩ (.bool true) := ⟨_, rfl⟩
      have hoV : Only (fun k => k = p2) Z2 V2 := by rw [hV]; exact HO7.out.trans (Wk.only2 w7 p2)
      have HBV : Hid (Below w.heap.size w V2) := HBZ.out.trans (hoV.below HBZ.out.size (fun k hk e => by have := HPw2.out; omega))
      have v1 : V2.cell? ⟨p, 2, none⟩ = some (.bool true) := hoV.cell HPc.out hpp
      have v2 : V2.cell? ⟨p2, 2, none⟩ = some (.bool true) := by rw [hV]; exact HW7.out.okay.cells.1.2.2
      rw [← hV]
      clear hV hoV k0 k1 k2 l1 l2 q0 q1 q2 r0 r1 r2 s0 s1 s2 f1 f2
      go_wp2_with (go_at_call 11; refine (HTk.out _ HBV.out).mono ?_; rintro e w9 ⟨rfl, hb9⟩; have HB9 := hide (belowt2 HBV.out hb9); clear hb9)
      go_ret
      exact ⟨rfl, HB9.out⟩
set_option maxRecDepth 100000 in
set_option maxHeartbeats 4000000 in
theorem spf_oo (s : ByteArray) (w : World) (hl : LexLaid w) (hs : s.size ≤ 140737488351232) {fb : List PAtom} {fr : List Tok} (hF : factsP (scanX s).2.1 ((scanX s).2.2 : Int) (scanX s).1 = .ok fb fr) {qb : List PLit} {qr : List Tok} (hQ : queryP (scanX s).2.1 ((scanX s).2.2 : Int) (scanX s).1 = .ok qb qr) :
    Calls Tryd.prog 8 #[.string s] w fun e w' => e = .returned (.bool true) ∧ Below w.heap.size w w' := by
  have HSc := hide (scan_any s w hl hs)
  have HFa := hide (fun (W : World) (hb : Below w.heap.size w W) => parseFacts_any s W (hl.kept hb) hs)
  have HQu := hide (fun (W : World) (hb : Below w.heap.size w W) => parseQuery_any s W (hl.kept hb) hs)
  have HTk := hide (fun (W : World) (hb : Below w.heap.size w W) => taken_any W (hl.kept hb))
  obtain ⟨-, hlen⟩ := scan_good s
  unfold faultVal at HSc
  obtain ⟨eF, hspF, -⟩ := facts_sp (L := (scanX s).1) _ [] _ fr fb (fun _ => 0) hF (by simp) rfl (fun j x hj => by simp at hj) rfl
  obtain ⟨-, ⟨pl, hp0, hpl, hpe⟩, ⟨f0, hf0, hk0⟩⟩ := hspF
  obtain ⟨hendF, hecF⟩ := wf_end _ _ _ (scan_wf s) hf0 hk0
  have HFo := hide (fun (W W' : World) (e : Ending) (h : ReadFacts W s e W') => readFacts_ok h hF)
  have HCl := hide hpl
  clear hpl
  obtain ⟨eQ, g0, hspQ, hg0, hj0⟩ := query_sp hQ
  obtain ⟨hendQ, hecQ⟩ := wf_end _ _ _ (scan_wf s) hg0 hj0
  have HQo := hide (fun (W W' : World) (e : Ending) (h : ReadQuery W s e W') => readQuery_ok h hQ)
  have HSQ := hide hspQ
  clear hspQ
  have hz1 := fault_self
  clear hl hs hF hQ
  generalize scanX s = R at *
  obtain ⟨L, ec, eo⟩ := R
  simp only at hlen HSc HCl hf0 hendF hecF HSQ hg0 hendQ hecQ
  subst hecF
  clear hecQ
  have HLn := hide hlen
  clear hlen
  have HF0 := hide hf0
  have HK0 := hide hk0
  have HEn := hide hendF
  have HPe := hide hpe
  have HP0 := hide hp0
  clear hf0 hk0 hendF hpe hp0
  have HG0 := hide hg0
  have HJ0 := hide hj0
  have HEq := hide hendQ
  clear hg0 hj0 hendQ
  go_enter Tryd.func8, Tryd.ntmps8
  go_upto_region 2 with (go_at_call 9; refine HSc.out.mono ?_; intro e w1 hq; obtain ⟨v, rfl, hown, hb1⟩ := hq; have hgr : Grow elTk 30 w.heap.size w1 v L := ⟨hown, fun _ _ => trivial⟩; have hli := hgr.list (by have := HLn.out; omega); obtain ⟨va, vc, rfl, -⟩ := hli.shape; have HL1 := hide hli; have HB1 := hide hb1; clear hown hgr hli hb1)
  obtain ⟨Y, hY⟩ : ∃ Y, Y = w1.alloc (.cells #[.int .i64 0, .int .i64 0, .int .i64 (eo : Int)] 25) := ⟨_, rfl⟩
  have HLY : Hid (Has elTk Y (.slice va L.length vc) L) := by rw [hY]; exact HL1.out.kept (belowA _ _)
  have HBY : Hid (Below w.heap.size w Y) := by rw [hY]; exact belowt2 HB1.out (belowA _ _)
  have HFY : Hid (Y.heap[w1.heap.size]? = some (.cells #[.int .i64 0, .int .i64 0, .int .i64 (eo : Int)] 25 (0, 0))) := by rw [hY]; exact heap_alloc_new w1 _
  rw [← hY]
  clear hY HL1 HB1 HSc
  generalize w1.heap.size = g at *
  go_upto_region 3 with (go_at_call 23; refine (HFa.out _ HBY.out).mono ?_; intro e w2 hq; obtain ⟨v, fs, rfl, hpur, hcl, hls, hb2⟩ := HFo.out _ _ _ hq; clear hq; obtain ⟨ca, cc, rfl, -⟩ := hls.shape; have HB2 := hide hb2; have HLs := hide hls.all; have HPu := hide hpur; have HCn := hide hcl; clear hb2 hls hpur hcl; unfold faultV)
  obtain ⟨X, hX⟩ : ∃ X, X = w2.alloc (.cells #[.int .i64 0, .int .i64 0, .int .i64 0] 25) := ⟨_, rfl⟩
  have HBX : Hid (Below Y.heap.size Y X) := by rw [hX]; exact belowt2 HB2.out (belowA _ _)
  have hbf : X.heap[w2.heap.size]? = some (.cells #[.int .i64 0, .int .i64 0, .int .i64 0] 25 (0, 0)) := by rw [hX]; exact heap_alloc_new w2 _
  have HOX : Hid (X.heap[g]? = some (.cells #[.int .i64 0, .int .i64 0, .int .i64 (eo : Int)] 25 (0, 0))) := by show _ = _; rw [HBX.out.block _ (Array.getElem?_eq_some_iff.1 HFY.out).1]; exact HFY.out
  have HBf := hide hbf
  have HLX := hide (HLY.out.kept HBX.out)
  have HLs2 : Hid (Has elAtx X (.slice ca fs.length cc) fs) := by rw [hX]; exact HLs.out.kept (belowA _ _)
  rw [← hX]
  clear hX hbf HB2 HFY HLs
  generalize w2.heap.size = d at *
  go_upto_region 4 with fail
  obtain ⟨Z, hZ⟩ : ∃ Z, Z = X.alloc (.cells #[.slice va L.length vc, .int .i64 0, .bool true] 47) := ⟨_, rfl⟩
  obtain ⟨p, hp⟩ : ∃ p, p = X.heap.size := ⟨_, rfl⟩
  have hBZ : Below X.heap.size X Z := by rw [hZ]; exact belowA _ _
  have HWZ : Hid (Wk Z p va vc L 0) := by
    rw [hp]
    exact ⟨by rw [hZ]; exact heap_alloc_new X _, HLX.out.move fun b hl _ => ⟨hl, hBZ.block b hl⟩⟩
  have HBZ : Hid (Below w.heap.size w Z) := belowt2 (belowt2 HBY.out HBX.out) hBZ
  have HPw : Hid (w.heap.size ≤ p) := by rw [hp]; exact (belowt2 HBY.out HBX.out).size
  have hgl : g < p := by rw [hp]; exact (Array.getElem?_eq_some_iff.1 HOX.out).1
  have HOZ : Hid (Z.heap[g]? = some (.cells #[.int .i64 0, .int .i64 0, .int .i64 (eo : Int)] 25 (0, 0))) := by show _ = _; rw [hBZ.block _ (Array.getElem?_eq_some_iff.1 HOX.out).1]; exact HOX.out
  have hfz : Z.heap[d]? = some (.cells #[.int .i64 0, .int .i64 0, .int .i64 0] 25 (0, 0)) := by rw [hBZ.block _ (Array.getElem?_eq_some_iff.1 HBf.out).1]; exact HBf.out
  have q0 : Z.cell? ⟨d, 0, none⟩ = some (.int .i64 0) := by simp [World.cell?, hfz]
  have q1 : Z.cell? ⟨d, 1, none⟩ = some (.int .i64 0) := by simp [World.cell?, hfz]
  have q2 : Z.cell? ⟨d, 2, none⟩ = some (.int .i64 0) := by simp [World.cell?, hfz]
  have r0 : Z.cell? ⟨g, 0, none⟩ = some (.int .i64 0) := by simp [World.cell?, HOZ.out]
  have r1 : Z.cell? ⟨g, 1, none⟩ = some (.int .i64 0) := by simp [World.cell?, HOZ.out]
  have r2 : Z.cell? ⟨g, 2, none⟩ = some (.int .i64 (eo : Int)) := by simp [World.cell?, HOZ.out]
  obtain ⟨⟨s0, s1, s2⟩, f1, f2⟩ := HWZ.out.cells
  have HCZ : Hid (Lst elAtx Z (fun b => b < p) (.slice ca fs.length cc) fs) := by
    rw [hp]
    exact HLs2.out.move fun b hl _ => ⟨hl, hBZ.block b hl⟩
  rw [← hZ]
  have e9 : X.heap.size = p := hp.symm
  rw [e9]
  clear e9 hp hZ hBZ hfz HLX HBf HBX HLY HBY HOX HLs2
  have k4 : decide ((fs.length : Int) ≤ 4096) = true := decide_eq_true (by have := HCn.out; omega)
  have k4' : decide (fs.length ≤ 4096) = true := decide_eq_true HCn.out
  go_upto_region 7 with fail
  obtain ⟨U, hU⟩ : ∃ U, U = Z.setCell ⟨p, 2, none⟩ (.bool true) := ⟨_, rfl⟩
  have HWU : Hid (Wk U p va vc L (pl 0)) := by rw [hU, HP0.out]; exact HWZ.out.okay
  have HOU : Hid (Only (fun k => k = p) Z U) := by rw [hU]; exact Wk.only2 Z p
  have HCU := hide (lst_only HCZ.out HOU.out)
  rw [← hU]
  clear hU k4 k4' q0 q1 q2 r0 r1 r2 s0 s1 s2 f1 f2 HWZ HCZ
  go_wp2
  obtain ⟨m, hm⟩ : ∃ m, m = fs.length := ⟨_, rfl⟩
  rw [← hm] at HCU HCn ⊢
  have HM := hide hm
  clear hm
  have HPm : Hid (pl m = eF) := by show _ = _; rw [HM.out, ← HPe.out, ← HPu.out, List.length_map]
  go_loopw [56] (fun iv wl => ∃ j : Nat, j ≤ m ∧ iv = .int .i64 (j : Int) ∧ Hid (Wk wl p va vc L (pl j)) ∧ Hid (Only (fun k => k = p) U wl)) (fun iv _ => m - (intOf iv).toNat)
  case atStart => exact ⟨0, by omega, rfl, HWU.out, Only.refl _ _⟩
  case round =>
    obtain ⟨j, hj, rfl, HWl, HOl⟩ := hrel
    have hmm := HCn.out
    by_cases hlt : j < m
    · have hi : (j : Int) < (m : Int) := by omega
      have hi0 : (0 : Int) ≤ (j : Int) := by omega
      obtain ⟨x, hx⟩ : ∃ x, fs[j]? = some x := ⟨_, List.getElem?_eq_getElem (by rw [← HM.out]; exact hlt)⟩
      have hAl := lst_only HCU.out HOl.out
      have hoh := (elAtx_ok (hAl.ok (List.mem_of_getElem? hx))).2.2
      obtain ⟨hgn, k1, sp, hsa, hsp, hsk, hnx⟩ := HCl.out j x.pur (by rw [← HPu.out, List.getElem?_map, hx]; rfl)
      have HAt := hide (fun (W : World) (hw : Wk W p va vc L (pl j)) (hl : Lst elTrm W (fun b => b < p) x.v x.ts) => spAtom_ok hw (by have := HLn.out; omega) x hsa hl)
      have HE := hide (fun (W : World) (hw : Wk W p va vc L k1) => eat_ok hw hsp (by have := HLn.out; omega))
      unfold tokV at HE
      rw [hsk] at HE
      obtain ⟨b3, o3, rfl, -, hF3, hr3⟩ := hAl.row (by rw [← HM.out]; omega)
      have y0 := hr3 j _ hx 0 _ rfl
      have y1 := hr3 j _ hx 1 _ rfl
      have y2 := hr3 j _ hx 2 _ rfl
      simp only [elAtx, Nat.add_zero] at y0 y1 y2
      obtain ⟨xp, xv, xo, xts⟩ := x
      unfold Atx.val at HAt
      have HGn : Hid (∀ t ∈ xts, t.k ≠ 4) := hgn
      simp only at hoh HAt y0 y1 y2
      obtain ⟨xa, xc, rfl, -⟩ := hoh.shape
      have HOh := hide hoh
      have HNx := hide hnx
      obtain ⟨n, hn⟩ : ∃ n, n = xts.length := ⟨_, rfl⟩
      rw [← hn] at y1 HAt
      have HN := hide hn
      have hn8 : n ≤ 8 := by have := hsa.few; rw [hn]; exact this
      obtain ⟨Q, hQ⟩ : ∃ Q, Q = wr.alloc (.cells #[.string xp, .slice xa n xc, .int .i64 xo] 50) := ⟨_, rfl⟩
      have HBQ : Hid (Below wr.heap.size wr Q) := by rw [hQ]; exact belowA _ _
      have HXQ : Hid (Q.heap[wr.heap.size]? = some (.cells #[.string xp, .slice xa n xc, .int .i64 xo] 50 (0, 0))) := by rw [hQ]; exact heap_alloc_new wr _
      have hpr := HWl.out.lt
      have t1 : Q.cell? ⟨wr.heap.size, 1, none⟩ = some (.slice xa n xc) := by simp [World.cell?, HXQ.out]
      have HWQ := hide (HWl.out.kept HBQ.out)
      have HOQ : Hid (Only (fun k => k = p) wr Q) := Only.of_below HBQ.out _
      have HHQ : Hid (Lst elTrm Q (fun b => b < p) (.slice xa n xc) xts) := by rw [HN.out]; exact lst_only HOh.out HOQ.out
      have hnp : ¬ wr.heap.size = p := by omega
      clear hr3 hAl hF3 hx hoh hsa hsp hsk hnx hn hgn
      go_upto_region 10 with fail
      rw [← hQ]
      clear hQ y0 y1 y2
      have HPr := hide hpr
      clear hpr
      generalize wr.heap.size = gq at *
      go_wp2
      clear t1
      go_loopw [63] (fun iv wl => ∃ k : Nat, k ≤ n ∧ iv = .int .i64 (k : Int) ∧ Hid (Wk wl p va vc L (pl j)) ∧ Hid (Only (fun k => k = p) Q wl)) (fun iv _ => n - (intOf iv).toNat)
      case atStart => exact ⟨0, by omega, rfl, HWQ.out, Only.refl _ _⟩
      case round =>
        obtain ⟨k, hk, rfl, HWk, HOk⟩ := hrel
        by_cases hkt : k < n
        · have hi2 : (k : Int) < (n : Int) := by omega
          have hi3 : (0 : Int) ≤ (k : Int) := by omega
          obtain ⟨t, ht⟩ : ∃ t, xts[k]? = some t := ⟨_, List.getElem?_eq_getElem (by rw [← HN.out]; exact hkt)⟩
          have ek : (t.k != 4) = true := bne_iff_ne.2 (HGn.out t (List.mem_of_getElem? ht))
          have hTl := lst_only HHQ.out HOk.out
          obtain ⟨b4, o4, rfl, -, hF4, hr4⟩ := hTl.row (by rw [← HN.out]; omega)
          have y0 := hr4 k _ ht 0 _ rfl
          have y1 := hr4 k _ ht 1 _ rfl
          have y2 := hr4 k _ ht 2 _ rfl
          have y3 := hr4 k _ ht 3 _ rfl
          simp only [elTrm, Nat.add_zero] at y0 y1 y2 y3
          obtain ⟨T, hT⟩ : ∃ T, T = wr.alloc (.cells #[.int .i64 t.k, .int .i64 t.n, .string t.s, .int .i64 t.off] 65) := ⟨_, rfl⟩
          have HBT : Hid (Below wr.heap.size wr T) := by rw [hT]; exact belowA _ _
          have hbt : T.heap[wr.heap.size]? = some (.cells #[.int .i64 t.k, .int .i64 t.n, .string t.s, .int .i64 t.off] 65 (0, 0)) := by rw [hT]; exact heap_alloc_new wr _
          have c0 : T.cell? ⟨wr.heap.size, 0, none⟩ = some (.int .i64 t.k) := by simp [World.cell?, hbt]
          have HWT := hide (HWk.out.kept HBT.out)
          have HOT : Hid (Only (fun k => k = p) Q T) := HOk.out.trans (Only.of_below HBT.out _)
          obtain ⟨⟨s0, s1, s2⟩, f1, f2⟩ := HWT.out.cells
          clear hr4 hTl hF4 ht hbt
          go_upto_region 13 with fail
          rw [← hT]
          clear hT y0 y1 y2 y3
          go_wp2
          go_roundw
          case rel => exact ⟨k + 1, by omega, by go_num, HWT.out.okay, HOT.out.trans (Wk.only2 T p)⟩
          case measure => simp [intOf]; omega
        · obtain rfl : k = n := by omega
          have hi2 : ¬ (k : Int) < (k : Int) := by omega
          have hbk := blk_only HXQ.out HOk.out hnp
          have c0 : wr.cell? ⟨gq, 0, none⟩ = some (.string xp) := by simp [World.cell?, hbk]
          have c1 : wr.cell? ⟨gq, 1, none⟩ = some (.slice xa k xc) := by simp [World.cell?, hbk]
          have c2 : wr.cell? ⟨gq, 2, none⟩ = some (.int .i64 xo) := by simp [World.cell?, hbk]
          have HHk := hide (lst_only HHQ.out HOk.out)
          clear hbk
          go_wp2_with (first
            | (go_at_call 17; refine (HAt.out _ HWk.out HHk.out).mono ?_; rintro e w2 ⟨rfl, hw2, ho2⟩; have HW2 := hide hw2; have HO2 := hide (((HOl.out.trans HOQ.out).trans HOk.out).trans ho2); clear hw2 ho2)
            | (go_at_call 18; refine (HE.out _ HW2.out).mono ?_; rintro e w3 ⟨rfl, hw3, ho3⟩; have HW3 := hide hw3; have HO3 := hide (HO2.out.trans ho3); clear hw3 ho3))
          go_roundw
          case rel => exact ⟨j + 1, by omega, by go_num, by show Wk _ _ _ _ _ _; rw [HNx.out]; exact HW3.out, HO3⟩
          case measure => simp [intOf]; omega
    · obtain rfl : j = m := by omega
      have hi : ¬ (j : Int) < (j : Int) := by omega
      have HE := hide (eat_ok HWl.out (by rw [HPm.out]; exact HF0.out) (by have := HLn.out; omega))
      unfold tokV at HE
      rw [HK0.out, HPm.out, HEn.out] at HE
      go_upto_region 20 with (go_at_call 18; refine HE.out.mono ?_; rintro e w4 ⟨rfl, hw4, ho4⟩; have HO4 := hide (HOl.out.trans ho4); have HW4 := hide hw4; obtain ⟨⟨k0, k1, k2⟩, l1, l2⟩ := hw4.cells; clear hw4 ho4)
      obtain ⟨V, hV⟩ : ∃ V, V = w4.setCell ⟨p, 2, none⟩ (.bool true) := ⟨_, rfl⟩
      have HWV : Hid (Wk V p va vc L L.length) := by rw [hV]; exact HW4.out.okay
      have hoV : Only (fun k => k = p) Z V := by rw [hV]; exact (HOU.out.trans HO4.out).trans (Wk.only2 w4 p)
      have HBV : Hid (Below w.heap.size w V) := HBZ.out.trans (hoV.below HBZ.out.size (fun k hk e => by have := HPw.out; omega))
      have HOV : Hid (V.heap[g]? = some (.cells #[.int .i64 0, .int .i64 0, .int .i64 (eo : Int)] 25 (0, 0))) := blk_only HOZ.out hoV (by omega)
      rw [← hV]
      clear hV hoV k0 k1 k2 l1 l2 HW4 HO4 HOl HWl HOZ HBZ
      go_upto_region 21 with (go_at_call 25; refine (HQu.out _ HBV.out).mono ?_; intro e w6 hq; obtain ⟨v, ls, rfl, hpur, hcl, hls, hb6⟩ := HQo.out _ _ _ hq; clear hq; obtain ⟨la, lc, rfl, -⟩ := hls.shape; have HB6 := hide hb6; have HLq := hide hls.all; have HPq := hide hpur; clear hb6 hls hpur hcl; unfold faultV)
      obtain ⟨X, hX⟩ : ∃ X, X = w6.alloc (.cells #[.int .i64 0, .int .i64 0, .int .i64 0] 25) := ⟨_, rfl⟩
      have HBX : Hid (Below V.heap.size V X) := by rw [hX]; exact belowt2 HB6.out (belowA _ _)
      have HBf : Hid (X.heap[w6.heap.size]? = some (.cells #[.int .i64 0, .int .i64 0, .int .i64 0] 25 (0, 0))) := by rw [hX]; exact heap_alloc_new w6 _
      have HLq2 : Hid (Has elLix X (.slice la ls.length lc) ls) := by rw [hX]; exact HLq.out.kept (belowA _ _)
      rw [← hX]
      clear hX HB6 HLq
      generalize w6.heap.size = d2 at *
      go_upto_region 22 with fail
      obtain ⟨Z2, hZ⟩ : ∃ Z2, Z2 = X.alloc (.cells #[.slice va L.length vc, .int .i64 0, .bool true] 47) := ⟨_, rfl⟩
      obtain ⟨p2, hp⟩ : ∃ p2, p2 = X.heap.size := ⟨_, rfl⟩
      have hBZ : Below X.heap.size X Z2 := by rw [hZ]; exact belowA _ _
      have hBV2 : Below V.heap.size V Z2 := belowt2 HBX.out hBZ
      have hpv := HWV.out.lt
      have hpp : ¬ p = p2 := by have := HBX.out.size; omega
      have hpp' : p < p2 := by have := HBX.out.size; omega
      have HWZ : Hid (Wk Z2 p2 va vc L 0) := by
        refine ⟨by rw [hZ, hp]; exact heap_alloc_new X _, HWV.out.tk.move fun b hl hF => ⟨?_, hBV2.block b hl⟩⟩
        have h9 : b < p := hF
        omega
      have HBZ : Hid (Below w.heap.size w Z2) := belowt2 HBV.out hBV2
      have HPw2 : Hid (w.heap.size ≤ p2) := by show _ ≤ _; have := HPw.out; omega
      have hoz : Z2.heap[g]? = some (.cells #[.int .i64 0, .int .i64 0, .int .i64 (eo : Int)] 25 (0, 0)) := by rw [hBV2.block _ (Array.getElem?_eq_some_iff.1 HOV.out).1]; exact HOV.out
      have hfz : Z2.heap[d2]? = some (.cells #[.int .i64 0, .int .i64 0, .int .i64 0] 25 (0, 0)) := by rw [hBZ.block _ (Array.getElem?_eq_some_iff.1 HBf.out).1]; exact HBf.out
      have q0 : Z2.cell? ⟨d2, 0, none⟩ = some (.int .i64 0) := by simp [World.cell?, hfz]
      have q1 : Z2.cell? ⟨d2, 1, none⟩ = some (.int .i64 0) := by simp [World.cell?, hfz]
      have q2 : Z2.cell? ⟨d2, 2, none⟩ = some (.int .i64 0) := by simp [World.cell?, hfz]
      have r0 : Z2.cell? ⟨g, 0, none⟩ = some (.int .i64 0) := by simp [World.cell?, hoz]
      have r1 : Z2.cell? ⟨g, 1, none⟩ = some (.int .i64 0) := by simp [World.cell?, hoz]
      have r2 : Z2.cell? ⟨g, 2, none⟩ = some (.int .i64 (eo : Int)) := by simp [World.cell?, hoz]
      have HPc : Hid (Z2.cell? ⟨p, 2, none⟩ = some (.bool true)) := (HWV.out.kept hBV2).cells.1.2.2
      obtain ⟨⟨s0, s1, s2⟩, f1, f2⟩ := HWZ.out.cells
      have HCZ : Hid (Lst elLix Z2 (fun b => b < p2) (.slice la ls.length lc) ls) := by
        rw [hp]
        exact HLq2.out.move fun b hl _ => ⟨hl, hBZ.block b hl⟩
      rw [← hZ]
      have e9 : X.heap.size = p2 := hp.symm
      rw [e9]
      clear e9 hp hZ hBZ hBV2 hfz hoz hpv HBf HBX HBV HOV HWV HLq2
      go_upto_region 25 with fail
      obtain ⟨U2, hU⟩ : ∃ U2, U2 = Z2.setCell ⟨p2, 2, none⟩ (.bool true) := ⟨_, rfl⟩
      have HWU2 : Hid (Wk U2 p2 va vc L 0) := by rw [hU]; exact HWZ.out.okay
      have HOU2 : Hid (Only (fun k => k = p2) Z2 U2) := by rw [hU]; exact Wk.only2 Z2 p2
      have HCU2 := hide (lst_only HCZ.out HOU2.out)
      rw [← hU]
      clear hU HCZ q0 q1 q2 r0 r1 r2 s0 s1 s2 f1 f2
      have HBd := hide (fun (W : World) (hw : Wk W p2 va vc L 0) (hl : Lst elLix W (fun b => b < p2) (.slice la ls.length lc) ls) => spBody_ok hw (by have := HLn.out; omega) _ ls (by rw [HPq.out]; exact HSQ.out) hl)
      have HE2 := hide (fun (W : World) (hw : Wk W p2 va vc L eQ) => eat_ok hw HG0.out (by have := HLn.out; omega))
      unfold tokV at HE2
      rw [HJ0.out, HEq.out] at HE2
      go_upto_region 28 with (first
        | (go_at_call 19; refine (HBd.out _ HWU2.out HCU2.out).mono ?_; rintro e w8 ⟨rfl, hw8, ho8⟩; have HW8 := hide hw8; have HO8 := hide (HOU2.out.trans ho8); clear hw8 ho8)
        | (go_at_call 18; refine (HE2.out _ HW8.out).mono ?_; rintro e w7 ⟨rfl, hw7, ho7⟩; have HW7 := hide hw7; have HO7 := hide (HO8.out.trans ho7); obtain ⟨⟨k0, k1, k2⟩, l1, l2⟩ := hw7.cells; clear hw7 ho7))
      obtain ⟨V2, hV⟩ : ∃ V2, V2 = w7.setCell ⟨p2, 2, none⟩ (.bool true) := ⟨_, rfl⟩
      have hoV : Only (fun k => k = p2) Z2 V2 := by rw [hV]; exact HO7.out.trans (Wk.only2 w7 p2)
      have HBV : Hid (Below w.heap.size w V2) := HBZ.out.trans (hoV.below HBZ.out.size (fun k hk e => by have := HPw2.out; omega))
      have v1 : V2.cell? ⟨p, 2, none⟩ = some (.bool true) := hoV.cell HPc.out hpp
      have v2 : V2.cell? ⟨p2, 2, none⟩ = some (.bool true) := by rw [hV]; exact HW7.out.okay.cells.1.2.2
      rw [← hV]
      clear hV hoV k0 k1 k2 l1 l2
      go_wp2_with (go_at_call 11; refine (HTk.out _ HBV.out).mono ?_; rintro e w9 ⟨rfl, hb9⟩; have HB9 := hide (belowt2 HBV.out hb9); clear hb9)
      go_ret
      exact ⟨rfl, HB9.out⟩
theorem queryF_ne {s : ByteArray} {x o : Int} (h : queryP (scanX s).2.1 ((scanX s).2.2 : Int) (scanX s).1 = .bad x o) : x ≠ 0 := by
  have h2 := (query_meet (scan_wf s)).1 _ _ h
  rcases chk_who _ _ _ _ _ h2 with ⟨h3, -, h4⟩ | h3
  · rw [h3]; exact h4
  · omega
theorem parseSpellsFacts_walk (s : ByteArray) (w : World) (hs : s.size ≤ 140737488351232) (hl : LexLaid w) :
    Calls Tryd.prog 8 #[.string s] w fun e w' => e = .returned (.bool true) ∧ Below w.heap.size w w' := by
  cases hF : factsP (scanX s).2.1 ((scanX s).2.2 : Int) (scanX s).1 with
  | bad c o =>
    have hc := facts_ne _ _ _ (by omega) (scan_ne s) hF
    cases hQ : queryP (scanX s).2.1 ((scanX s).2.2 : Int) (scanX s).1 with
    | bad c2 o2 => exact spf_bb s w hl hs hF hc hQ (queryF_ne hQ)
    | ok b r => exact spf_bo s w hl hs hF hc hQ
  | ok b r =>
    cases hQ : queryP (scanX s).2.1 ((scanX s).2.2 : Int) (scanX s).1 with
    | bad c2 o2 => exact spf_ob s w hl hs hF hQ (queryF_ne hQ)
    | ok b2 r2 => exact spf_oo s w hl hs hF hQ
end Go.Proofs.YtjofiibfgfdleaaDoor
