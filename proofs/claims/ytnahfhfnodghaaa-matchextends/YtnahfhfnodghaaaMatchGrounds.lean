/- edictlaw06.MatchGrounds returns true at every pattern and substitution. -/
import Derived.Test.YtnahfhfnodghaaaMatchGround
namespace Go.Proofs.Ytnahfhfnodghaaa
set_option linter.unusedSimpArgs false
set_option linter.unusedVariables false
open Go.RowKit

/-- The two answers of one question, as the law looks at them. -/
theorem ListRes.look {w w1 : World} {r : Option (List Int)} {e : Ending} (h : ListRes w w1 r e) : ∃ ao n cap l, e = .returned (.tuple #[.slice ao n cap, .bool r.isSome]) ∧ IsNums w1 ao n l ∧ l = r.getD [] := by
  rcases h with ⟨rfl, rfl⟩ | ⟨l, ao, cap, rfl, rfl, h1, h2⟩
  · exact ⟨none, 0, 0, [], rfl, ⟨rfl, by omega, by simp, fun h => by omega⟩, rfl⟩
  · exact ⟨ao, l.length, cap, l, rfl, h1, rfl⟩

set_option maxRecDepth 100000 in
set_option maxHeartbeats 1000000 in
theorem matchGrounds_walk (q : Int) (pa : Option Addr) (pl pc : Nat) (ss : List Slt) (sa : Option Addr) (sl sc : Nat) (sub : List Int) (w : World)
    (hq : I64 q) (hp : IsSlts w pa pl ss) (hpn : pl ≤ pc ∧ (pa = none → pl = 0 ∧ pc = 0)) (hpz : pl * 16 ≤ 140737488351232) (hs : IsNums w sa sl sub) (hsn : sl ≤ sc ∧ (sa = none → sl = 0 ∧ sc = 0)) (hsz : sl * 8 ≤ 140737488351232) :
    Calls Try.prog 4 #[.agg #[.int .i64 q, .slice pa pl pc], .slice sa sl sc] w fun e w' => e = .returned (.bool true) ∧ Below w.heap.size w w' := by
  have HP := hide hp
  have HS := hide hs
  have HSz := hide hsz
  have HPn := hide hpn.2
  have HSn := hide hsn.2
  have HPz := hide hpz
  clear hp hs hsz hpn hsn hpz hq
  go_enter Try.func4, Try.ntmps4
  have HB0 : Hid (Below w.heap.size w (w.alloc (.cells #[.int .i64 q, .slice pa pl pc] 24))) := (Below.refl _ _).alloc (Nat.le_refl _) _
  have HC0 : Hid ((w.alloc (.cells #[.int .i64 q, .slice pa pl pc] 24)).cell? ⟨w.heap.size, 0, none⟩ = some (.int .i64 q) ∧ (w.alloc (.cells #[.int .i64 q, .slice pa pl pc] 24)).cell? ⟨w.heap.size, 1, none⟩ = some (.slice pa pl pc)) := by
    show _ ∧ _
    constructor <;> simp
  go_wp2_with fail
  refine (rground_any (HP.out.kept HB0.out) (HS.out.kept HB0.out)).mono ?_
  rintro e w1 ⟨hr, h1⟩
  obtain ⟨ya, yn, yc, yl, rfl, hy, rfl⟩ := hr.look
  have HY1 := hide hy
  have HB1 := hide (HB0.out.trans (h1.mono HB0.out.size))
  have HC1 := hide (And.intro (kept_cell h1 HC0.out.1) (kept_cell h1 HC0.out.2))
  clear hr h1 hy HB0 HC0
  obtain ⟨p0, p1⟩ := HC1.out
  go_wp2_with fail
  refine (copyPattern_any (HP.out.kept HB1.out) HPn.out).mono ?_
  rintro e w2 ⟨ca, cc, rfl, hown, h1⟩
  have HQ2 := hide (own_slts hown HP.out.2.2.1 (by have := HPz.out; omega))
  have HY2 := hide (HY1.out.kept h1)
  have HB2 := hide (HB1.out.trans (h1.mono HB1.out.size))
  have HC2 := hide (And.intro (kept_cell h1 HC1.out.1) (kept_cell h1 HC1.out.2))
  clear hown h1 HY1 HB1 HC1 p0 p1
  obtain ⟨Z, hZ⟩ : ∃ Z, Z = w2.alloc (.cells #[.int .i64 q, .slice ca pl cc] 24) := ⟨_, rfl⟩
  have h3 : Below w2.heap.size w2 Z := by rw [hZ]; exact (Below.refl _ _).alloc (Nat.le_refl _) _
  have HQ3 := hide (HQ2.out.kept h3)
  have HY3 := hide (HY2.out.kept h3)
  have HB3 := hide (HB2.out.trans (h3.mono HB2.out.size))
  have HC3 := hide (And.intro (kept_cell h3 HC2.out.1) (kept_cell h3 HC2.out.2))
  have HD3 : Hid (Z.cell? ⟨w2.heap.size, 0, none⟩ = some (.int .i64 q) ∧ Z.cell? ⟨w2.heap.size, 1, none⟩ = some (.slice ca pl cc)) := by
    show _ ∧ _
    rw [hZ]
    constructor <;> simp
  go_wp2_with fail
  rw [← hZ]
  clear hZ h3 HQ2 HY2 HB2 HC2
  refine (roomy_any (HS.out.kept HB3.out) HSn.out HSz.out).mono ?_
  rintro e w4 ⟨v4, rfl, r4, h1⟩
  have HR4 := hide r4
  have HQ4 := hide (HQ3.out.kept h1)
  have HY4 := hide (HY3.out.kept h1)
  have HB4 := hide (HB3.out.trans (h1.mono HB3.out.size))
  have HC4 := hide (And.intro (kept_cell h1 HC3.out.1) (kept_cell h1 HC3.out.2))
  have HD4 := hide (And.intro (kept_cell h1 HD3.out.1) (kept_cell h1 HD3.out.2))
  clear r4 h1 HQ3 HY3 HB3 HC3 HD3
  obtain ⟨g4, c4, rfl, hc4, i4, m4⟩ := HR4.out.nums HS.out.2.2.1 (by rw [HS.out.1]; have := HSz.out; omega)
  have HI4 := hide i4
  clear i4 m4 hc4
  obtain ⟨d0, d1⟩ := HD4.out
  go_wp2_with fail
  refine (ground_any HQ4.out HI4.out).mono ?_
  rintro e w5 ⟨hr, h1⟩
  obtain ⟨xa, xn, xc, xl, rfl, hx, rfl⟩ := hr.look
  have HX5 := hide hx
  have HR5 := hide (HR4.out.kept h1)
  have HQ5 := hide (HQ4.out.kept h1)
  have HY5 := hide (HY4.out.kept h1)
  have HB5 := hide (HB4.out.trans (h1.mono HB4.out.size))
  have HC5 := hide (And.intro (kept_cell h1 HC4.out.1) (kept_cell h1 HC4.out.2))
  have HD5 := hide (And.intro (kept_cell h1 HD4.out.1) (kept_cell h1 HD4.out.2))
  clear hr hx h1 HR4 HQ4 HY4 HB4 HC4 HD4 HI4 d0 d1
  generalize groundP ss sub = R at *
  go_wp2_with fail
  refine (sameInts_any HX5.out HY5.out).mono ?_
  rintro e w6 ⟨rfl, h1⟩
  rw [beq_self_eq_true]
  have HR6 := hide (HR5.out.kept h1)
  have HQ6 := hide (HQ5.out.kept h1)
  have HB6 := hide (HB5.out.trans (h1.mono HB5.out.size))
  have HC6 := hide (And.intro (kept_cell h1 HC5.out.1) (kept_cell h1 HC5.out.2))
  have HD6 := hide (And.intro (kept_cell h1 HD5.out.1) (kept_cell h1 HD5.out.2))
  clear h1 HX5 HY5 HR5 HQ5 HB5 HC5 HD5
  obtain ⟨d0, d1⟩ := HD6.out
  obtain ⟨p0, p1⟩ := HC6.out
  go_wp2_with fail
  refine (samePattern_any HQ6.out (HP.out.kept HB6.out)).mono ?_
  rintro e w7 ⟨rfl, h1⟩
  have HR7 := hide (HR6.out.kept h1)
  have HB7 := hide (HB6.out.trans (h1.mono HB6.out.size))
  clear h1 HR6 HQ6 HB6 HC6 HD6 d0 d1 p0 p1
  go_wp2_with fail
  refine (untouched_any HR7.out (HS.out.kept HB7.out)).mono ?_
  rintro e w8 ⟨rfl, h1⟩
  have HB8 := hide (HB7.out.trans (h1.mono HB7.out.size))
  clear h1 HR7 HB7
  go_wp2
  go_ret
  exact ⟨rfl, HB8.out⟩
end Go.Proofs.Ytnahfhfnodghaaa
