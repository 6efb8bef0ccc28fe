/- edictlaw06.MatchExtends returns true at every pattern, row and substitution. -/
import Derived.Test.YtnahfhfnodghaaaRefExt
import Derived.Test.YtnahfhfnodghaaaMatchGrounds
namespace Go.Proofs.Ytnahfhfnodghaaa
set_option linter.unusedSimpArgs false
set_option linter.unusedVariables false
open Go.RowKit

set_option maxRecDepth 100000 in
set_option maxHeartbeats 1000000 in
theorem matchExtends_walk (q : Int) (pa : Option Addr) (pl pc : Nat) (ss : List Slt) (aa : Option Addr) (al ac : Nat) (args : List Int) (sa : Option Addr) (sl sc : Nat) (sub : List Int) (w : World)
    (hq : I64 q) (hp : IsSlts w pa pl ss) (hpn : pl ≤ pc ∧ (pa = none → pl = 0 ∧ pc = 0)) (hpz : pl * 16 ≤ 140737488351232)
    (ha : IsNums w aa al args) (han : al ≤ ac ∧ (aa = none → al = 0 ∧ ac = 0)) (haz : al * 8 ≤ 140737488351232)
    (hs : IsNums w sa sl sub) (hsn : sl ≤ sc ∧ (sa = none → sl = 0 ∧ sc = 0)) (hsz : sl * 8 ≤ 140737488351232) :
    Calls Try.prog 3 #[.agg #[.int .i64 q, .slice pa pl pc], .slice aa al ac, .slice sa sl sc] w fun e w' => e = .returned (.bool true) ∧ Below w.heap.size w w' := by
  have HP := hide hp
  have HA := hide ha
  have HS := hide hs
  have HAz := hide haz
  have HSz := hide hsz
  have HPz := hide hpz
  have HPn := hide hpn.2
  have HAn := hide han.2
  have HSn := hide hsn.2
  clear hp ha hs haz hsz hpz hpn han hsn hq
  have HB0 : Hid (Below w.heap.size w (w.alloc (.cells #[.int .i64 q, .slice pa pl pc] 24))) := (Below.refl _ _).alloc (Nat.le_refl _) _
  have HC0 : Hid ((w.alloc (.cells #[.int .i64 q, .slice pa pl pc] 24)).cell? ⟨w.heap.size, 0, none⟩ = some (.int .i64 q) ∧ (w.alloc (.cells #[.int .i64 q, .slice pa pl pc] 24)).cell? ⟨w.heap.size, 1, none⟩ = some (.slice pa pl pc)) := by
    show _ ∧ _
    constructor <;> simp
  go_enter Try.func3, Try.ntmps3
  go_wp2_with fail
  refine (roomy_any (HA.out.kept HB0.out) HAn.out HAz.out).mono ?_
  rintro e w1 ⟨v1, rfl, r1, h1⟩
  have HR1 := hide r1
  have HB1 := hide (HB0.out.trans (h1.mono HB0.out.size))
  have HC1 := hide (And.intro (kept_cell h1 HC0.out.1) (kept_cell h1 HC0.out.2))
  clear r1 h1 HB0 HC0
  go_wp2_with fail
  refine (roomy_any (HS.out.kept HB1.out) HSn.out HSz.out).mono ?_
  rintro e w2 ⟨v2, rfl, r2, h1⟩
  have HR2 := hide (HR1.out.kept h1)
  have HT2 := hide r2
  have HB2 := hide (HB1.out.trans (h1.mono HB1.out.size))
  have HC2 := hide (And.intro (kept_cell h1 HC1.out.1) (kept_cell h1 HC1.out.2))
  clear r2 h1 HB1 HC1 HR1
  obtain ⟨p0, p1⟩ := HC2.out
  go_wp2_with fail
  refine (copyPattern_any (HP.out.kept HB2.out) HPn.out).mono ?_
  rintro e w3 ⟨ca, cc, rfl, hown, h1⟩
  have HQ3 := hide (own_slts hown HP.out.2.2.1 (by have := HPz.out; omega))
  have HR3 := hide (HR2.out.kept h1)
  have HT3 := hide (HT2.out.kept h1)
  have HB3 := hide (HB2.out.trans (h1.mono HB2.out.size))
  have HC3 := hide (And.intro (kept_cell h1 HC2.out.1) (kept_cell h1 HC2.out.2))
  clear hown h1 HR2 HT2 HB2 HC2 p0 p1
  obtain ⟨Z, hZ⟩ : ∃ Z, Z = w3.alloc (.cells #[.int .i64 q, .slice ca pl cc] 24) := ⟨_, rfl⟩
  have h3 : Below w3.heap.size w3 Z := by rw [hZ]; exact (Below.refl _ _).alloc (Nat.le_refl _) _
  have HQ4 := hide (HQ3.out.kept h3)
  have HR4 := hide (HR3.out.kept h3)
  have HT4 := hide (HT3.out.kept h3)
  have HB4 := hide (HB3.out.trans (h3.mono HB3.out.size))
  have HC4 := hide (And.intro (kept_cell h3 HC3.out.1) (kept_cell h3 HC3.out.2))
  have HD4 : Hid (Z.cell? ⟨w3.heap.size, 0, none⟩ = some (.int .i64 q) ∧ Z.cell? ⟨w3.heap.size, 1, none⟩ = some (.slice ca pl cc)) := by
    show _ ∧ _
    rw [hZ]
    constructor <;> simp
  have HZ := hide hZ
  clear hZ h3 HQ3 HR3 HT3 HB3
  obtain ⟨p0, p1⟩ : (w3.alloc (.cells #[.int .i64 q, .slice ca pl cc] 24)).cell? ⟨w.heap.size, 0, none⟩ = some (.int .i64 q) ∧ (w3.alloc (.cells #[.int .i64 q, .slice ca pl cc] 24)).cell? ⟨w.heap.size, 1, none⟩ = some (.slice pa pl pc) := by
    have := HC4.out
    rw [HZ.out] at this
    exact this
  go_wp2_with fail
  rw [← HZ.out]
  clear HZ p0 p1 HC3
  refine (rextend_any (HP.out.kept HB4.out) (HA.out.kept HB4.out) (HS.out.kept HB4.out)).mono ?_
  rintro e w5 ⟨hr, h1⟩
  obtain ⟨ya, yn, yc, yl, rfl, hy, rfl⟩ := hr.look
  have HY5 := hide hy
  have HQ5 := hide (HQ4.out.kept h1)
  have HR5 := hide (HR4.out.kept h1)
  have HT5 := hide (HT4.out.kept h1)
  have HB5 := hide (HB4.out.trans (h1.mono HB4.out.size))
  have HC5 := hide (And.intro (kept_cell h1 HC4.out.1) (kept_cell h1 HC4.out.2))
  have HD5 := hide (And.intro (kept_cell h1 HD4.out.1) (kept_cell h1 HD4.out.2))
  clear hr hy h1 HQ4 HR4 HT4 HB4 HC4 HD4
  obtain ⟨g1, c1, rfl, hc1, i1, m1⟩ := HR5.out.nums HA.out.2.2.1 (by rw [HA.out.1]; have := HAz.out; omega)
  obtain ⟨g2, c2, rfl, hc2, i2, m2⟩ := HT5.out.nums HS.out.2.2.1 (by rw [HS.out.1]; have := HSz.out; omega)
  have HI1 := hide i1
  have HI2 := hide i2
  clear i1 m1 hc1 i2 m2 hc2
  obtain ⟨d0, d1⟩ := HD5.out
  go_wp2_with fail
  refine (extend_any HQ5.out HI1.out HI2.out).mono ?_
  rintro e w6 ⟨hr, h1⟩
  obtain ⟨xa, xn, xc, xl, rfl, hx, rfl⟩ := hr.look
  have HX6 := hide hx
  have HY6 := hide (HY5.out.kept h1)
  have HQ6 := hide (HQ5.out.kept h1)
  have HR6 := hide (HR5.out.kept h1)
  have HT6 := hide (HT5.out.kept h1)
  have HB6 := hide (HB5.out.trans (h1.mono HB5.out.size))
  have HC6 := hide (And.intro (kept_cell h1 HC5.out.1) (kept_cell h1 HC5.out.2))
  have HD6 := hide (And.intro (kept_cell h1 HD5.out.1) (kept_cell h1 HD5.out.2))
  clear hr hx h1 HY5 HQ5 HR5 HT5 HB5 HC5 HD5 HI1 HI2 d0 d1
  generalize extendP ss args sub = R at *
  go_wp2_with fail
  refine (sameInts_any HX6.out HY6.out).mono ?_
  rintro e w7 ⟨rfl, h1⟩
  rw [beq_self_eq_true]
  have HQ7 := hide (HQ6.out.kept h1)
  have HR7 := hide (HR6.out.kept h1)
  have HT7 := hide (HT6.out.kept h1)
  have HB7 := hide (HB6.out.trans (h1.mono HB6.out.size))
  have HC7 := hide (And.intro (kept_cell h1 HC6.out.1) (kept_cell h1 HC6.out.2))
  have HD7 := hide (And.intro (kept_cell h1 HD6.out.1) (kept_cell h1 HD6.out.2))
  clear h1 HX6 HY6 HQ6 HR6 HT6 HB6 HC6 HD6
  go_wp2_with fail
  refine (untouched_any HR7.out (HA.out.kept HB7.out)).mono ?_
  rintro e w8 ⟨rfl, h1⟩
  have HQ8 := hide (HQ7.out.kept h1)
  have HT8 := hide (HT7.out.kept h1)
  have HB8 := hide (HB7.out.trans (h1.mono HB7.out.size))
  have HC8 := hide (And.intro (kept_cell h1 HC7.out.1) (kept_cell h1 HC7.out.2))
  have HD8 := hide (And.intro (kept_cell h1 HD7.out.1) (kept_cell h1 HD7.out.2))
  clear h1 HQ7 HR7 HT7 HB7 HC7 HD7
  go_wp2_with fail
  refine (untouched_any HT8.out (HS.out.kept HB8.out)).mono ?_
  rintro e w9 ⟨rfl, h1⟩
  have HQ9 := hide (HQ8.out.kept h1)
  have HB9 := hide (HB8.out.trans (h1.mono HB8.out.size))
  have HC9 := hide (And.intro (kept_cell h1 HC8.out.1) (kept_cell h1 HC8.out.2))
  have HD9 := hide (And.intro (kept_cell h1 HD8.out.1) (kept_cell h1 HD8.out.2))
  clear h1 HQ8 HT8 HB8 HC8 HD8
  obtain ⟨d0, d1⟩ := HD9.out
  obtain ⟨p0, p1⟩ := HC9.out
  go_wp2_with fail
  refine (samePattern_any HQ9.out (HP.out.kept HB9.out)).mono ?_
  rintro e w10 ⟨rfl, h1⟩
  have HB10 := hide (HB9.out.trans (h1.mono HB9.out.size))
  clear h1 HQ9 HB9 HC9 HD9 d0 d1 p0 p1
  go_wp2
  go_ret
  exact ⟨rfl, HB10.out⟩
end Go.Proofs.Ytnahfhfnodghaaa
