/- What mayBe answers. -/
import Derived.Test.YtcofoddjcgmmkaaProg
import Derived.Test.YtcofoddjcgmmkaaStoreAsk
namespace Go.Proofs.Ytcofoddjcgmmkaa
set_option linter.unusedSimpArgs false
set_option linter.unusedVariables false
open Go.RowKit Go.Maps

/-- May the row be in a store with these arities? -/
def mayP (ar : List Int) (q : Int) (l : List Int) : Bool := decide (0 ≤ q) && (decide (q < ar.length) && (decide (ar[q.toNat]? = some (l.length : Int)) && !(l.any badId)))

theorem box_over (w : World) (o : Obj) (x : World) : (over (w.alloc o) x).heap[w.heap.size]? = (w.alloc o).heap[w.heap.size]? := (over_below (w.alloc o) x).block _ (by simp)

set_option maxRecDepth 100000 in
set_option maxHeartbeats 4000000 in
theorem mayBe_any {w : World} {own : Own} {p : Nat} {L : Loc} {S : Sto} (h : Raw w own p L S) {q : Int} (hq : I64 q) {ao : Option Addr} {len cap : Nat} {l : List Int} (hi : IsInts w ao len l) (hal : S.ar.length < 1099511627776) (har : ∀ x ∈ S.ar, 0 ≤ x ∧ x ≤ 8) :
    Calls Try.prog 26 #[.pointer (some ⟨p, 0, none⟩), .agg #[.int .i64 q, .slice ao len cap]] w fun e w' => e = .returned (.bool (mayP S.ar q l)) ∧ Below w.heap.size w w' := by
  have c0 := h.c0
  obtain ⟨aa, ca, hva, har2⟩ := h.ar
  rw [hva] at c0
  have HR := hide h
  have HI := hide hi
  have HA2 := hide har2
  have hlp := h.plt
  obtain ⟨la, HLA⟩ : ∃ la, Hid (la = S.ar.length) := ⟨_, rfl⟩
  rw [← HLA.out] at c0 hal
  have HB : Hid (Below w.heap.size w (w.alloc (.cells #[.int .i64 q, .slice ao len cap] 31))) := (Below.refl _ _).alloc (Nat.le_refl _) _
  have HCl : Hid (∀ W, Below w.heap.size w W → Calls Try.prog 39 #[.slice ao len cap, .func (.func 42) #[] #[]] W fun e w' => e = .returned (.bool (l.any badId)) ∧ w' = W) := fun W hB => contains_id (hi.kept hB)
  clear h hi har2 hva
  by_cases h1 : 0 ≤ q
  · by_cases h2 : q < (la : Int)
    · obtain ⟨k, rfl⟩ : ∃ k : Nat, q = k := ⟨q.toNat, by omega⟩
      have hk : k < S.ar.length := by rw [← HLA.out]; omega
      obtain ⟨a, ha⟩ : ∃ a, S.ar[k]? = some a := ⟨_, List.getElem?_eq_getElem hk⟩
      obtain ⟨ba, oa, rfl, hao, hac⟩ := HA2.out.resolve_left (fun e => by rw [e] at hk; simp at hk)
      have a0 := hac k a ha
      have hlb := lt_of_cell a0
      simp only at hlb
      by_cases h3 : (len : Int) = a
      · have e : mayP S.ar (k : Int) l = !(l.any badId) := by
          have h4 : ((k : Int) < (S.ar.length : Int)) := by omega
          have h5 : S.ar[k]? = some (l.length : Int) := by rw [ha, HI.out.1, h3]
          simp [mayP, h4, h5]
        rw [e]
        have HBd := hide hac
        have HW := hide har
        clear HR HI HA2 HLA e ha hac hk hao har hq
        cases hbad : l.any badId with
        | true =>
          rw [hbad] at HCl
          go_enter Try.func26, Try.ntmps26
          go_upto_region 1 with fail
          obtain ⟨Y, hY⟩ : ∃ Y, Y = w.alloc (.cells #[.int .i64 (k : Int), .slice ao len cap] 31) := ⟨_, rfl⟩
          have r0 : Y.cell? ⟨w.heap.size, 0, none⟩ = some (.int .i64 (k : Int)) := by rw [hY]; simp
          have r1 : Y.cell? ⟨w.heap.size, 1, none⟩ = some (.slice ao len cap) := by rw [hY]; simp
          rw [← hY] at HB ⊢
          have d0 := over_cell r0
          have d1 := over_cell r1
          have d2 := over_cell (kept_cell HB.out c0)
          have d3 := over_cell (kept_cell HB.out a0)
          have HCo : Hid (∀ y, Calls Try.prog 39 #[.slice ao len cap, .func (.func 42) #[] #[]] (over Y y) fun e w' => e = .returned (.bool true) ∧ w' = over Y y) := fun y => HCl.out _ (HB.out.trans ((over_below Y y).mono HB.out.size))
          clear hY r0 r1 c0 a0 HCl
          refine wp_region_over (fun W => W = Y) (by kernel_rfl) (by kernel_rfl) rfl ?_
          rintro W rfl
          repeat (go_big_quiet_step (first | (go_at_call 39; exact calls_over_same (HCo.out _))))
          refine wpQuiet_nil ?_
          rintro _ ⟨z, rfl⟩
          go_wp2
          go_ret
          exact ⟨rfl, HB.out.trans ((over_below W z).mono HB.out.size)⟩
        | false =>
          rw [hbad] at HCl
          go_enter Try.func26, Try.ntmps26
          go_upto_region 1 with fail
          obtain ⟨Y, hY⟩ : ∃ Y, Y = w.alloc (.cells #[.int .i64 (k : Int), .slice ao len cap] 31) := ⟨_, rfl⟩
          have r0 : Y.cell? ⟨w.heap.size, 0, none⟩ = some (.int .i64 (k : Int)) := by rw [hY]; simp
          have r1 : Y.cell? ⟨w.heap.size, 1, none⟩ = some (.slice ao len cap) := by rw [hY]; simp
          rw [← hY] at HB ⊢
          have d0 := over_cell r0
          have d1 := over_cell r1
          have d2 := over_cell (kept_cell HB.out c0)
          have d3 := over_cell (kept_cell HB.out a0)
          have HCo : Hid (∀ y, Calls Try.prog 39 #[.slice ao len cap, .func (.func 42) #[] #[]] (over Y y) fun e w' => e = .returned (.bool false) ∧ w' = over Y y) := fun y => HCl.out _ (HB.out.trans ((over_below Y y).mono HB.out.size))
          clear hY r0 r1 c0 a0 HCl
          refine wp_region_over (fun W => W = Y) (by kernel_rfl) (by kernel_rfl) rfl ?_
          rintro W rfl
          repeat (go_big_quiet_step (first | (go_at_call 39; exact calls_over_same (HCo.out _))))
          refine wpQuiet_nil ?_
          rintro _ ⟨z, rfl⟩
          go_wp2
          go_ret
          exact ⟨rfl, HB.out.trans ((over_below W z).mono HB.out.size)⟩
      · have e : mayP S.ar (k : Int) l = false := by
          have h5 : S.ar[k]? ≠ some (l.length : Int) := by rw [ha, HI.out.1]; intro e; exact h3 (Option.some.inj e).symm
          simp [mayP, h5]
        rw [e]
        have h3b : ((len : Int) == a) = false := by simpa using h3
        clear ha hac hk hao
        clear HR HI HA2 HLA HCl
        go_enter Try.func26, Try.ntmps26
        go_upto_region 1 with fail
        go_quiet (fail)
        go_wp2
        go_ret
        exact ⟨rfl, HB.out.trans (below_drewN _ _ _)⟩
    · have e : mayP S.ar q l = false := by
        have h4 : ¬ (q < (S.ar.length : Int)) := by rw [← HLA.out]; omega
        simp [mayP, h4]
      rw [e]
      clear HR HI HA2 HLA HCl
      go_enter Try.func26, Try.ntmps26
      go_upto_region 1 with fail
      go_quiet (fail)
      go_wp2
      go_ret
      exact ⟨rfl, HB.out.trans (below_drewN _ _ _)⟩
  · have e : mayP S.ar q l = false := by simp [mayP, h1]
    rw [e]
    clear HR HI HA2 HLA HCl
    go_enter Try.func26, Try.ntmps26
    go_upto_region 1 with fail
    go_quiet (fail)
    go_wp2
    go_ret
    exact ⟨rfl, HB.out.trans (below_drewN _ _ _)⟩
end Go.Proofs.Ytcofoddjcgmmkaa
