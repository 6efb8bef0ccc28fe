/- The law's own sameAtom at equal atoms. The law's own sameAtoms at equal lists of atoms. The laws' own sameTerm, sameAtom of edictlaw04, at trees that differ in places alone. The laws' own sameBody, sameProgram of edictlaw04, at trees that differ in places alone. -/
import Derived.Test.YtchhophblejmeaaGreatDoorProg
import Derived.Test.YtchhophblejmeaaGreatDoorPkB4
import Derived.Test.YtchhophblejmeaaGreatDoorOver
import Derived.Test.YtchhophblejmeaaGreatDoorPkB8
import Derived.Test.YtchhophblejmeaaGreatDoorPkB7
import Derived.Test.YtchhophblejmeaaGreatDoorPkB9
import Derived.Test.YtchhophblejmeaaGreatDoorPkAb

namespace Go.Proofs.YtchhophblejmeaaGreatDoor
set_option linter.unusedSimpArgs false
set_option linter.unusedVariables false
open Go.RowKit

end Go.Proofs.YtchhophblejmeaaGreatDoor

namespace Go.Proofs.YtchhophblejmeaaGreatDoor
set_option linter.unusedSimpArgs false
set_option linter.unusedVariables false
open Go.RowKit

theorem pur_at {α β : Type} {f : α → β} {l m : List α} (h : l.map f = m.map f) {k : Nat} {x y : α} (hx : l[k]? = some x) (hy : m[k]? = some y) : f x = f y := by
  have e := congrArg (fun z => z[k]?) h
  simp only [List.getElem?_map, hx, hy, Option.map_some, Option.some.injEq] at e
  exact e
end Go.Proofs.YtchhophblejmeaaGreatDoor

namespace Go.Proofs.YtchhophblejmeaaGreatDoor
set_option linter.unusedSimpArgs false
set_option linter.unusedVariables false
open Go.RowKit

set_option maxRecDepth 100000 in
set_option maxHeartbeats 1000000 in
theorem sameTerm4 (t u : Trm) (h : t.st = u.st) (w : World) :
    Calls Tryz.prog 42 #[.agg #[.int .i64 t.k, .int .i64 t.n, .string t.s, .int .i64 t.off], .agg #[.int .i64 u.k, .int .i64 u.n, .string u.s, .int .i64 u.off]] w fun e w' => e = .returned (.bool true) ∧ Below w.heap.size w w' := by
  obtain ⟨k, n, s, o⟩ := t
  obtain ⟨k', n', s', o'⟩ := u
  simp only [Trm.st, Trm.mk.injEq] at h
  obtain ⟨rfl, rfl, rfl, -⟩ := h
  have q1 : (k == k) = true := by simp
  have q2 : (n == n) = true := by simp
  have q3 : (s.toList == s.toList) = true := by simp
  go_enter Tryz.func42, Tryz.ntmps42
  go_wp2
  go_ret
  exact ⟨rfl, below2a _ _ _⟩

set_option maxRecDepth 100000 in
set_option maxHeartbeats 2000000 in
theorem sameAtom4 {w : World} {F G : Nat → Prop} (pr : ByteArray) (o1 o2 : Int) (ts us : List Trm) (v1 v2 : Value) (h1 : Lst elTrm w F v1 ts) (h2 : Lst elTrm w G v2 us) (he : ts.map Trm.st = us.map Trm.st) :
    Calls Tryz.prog 37 #[.agg #[.string pr, v1, .int .i64 o1], .agg #[.string pr, v2, .int .i64 o2]] w fun e w' => e = .returned (.bool true) ∧ Below w.heap.size w w' := by
  obtain ⟨a1, c1, rfl, -, -, hlen⟩ := h1.shape
  obtain ⟨a2, c2, rfl, -⟩ := h2.shape
  have hl : us.length = ts.length := by have := congrArg List.length he; simpa using this.symm
  have HE := hide he
  have HL := hide hl
  rw [hl] at h2 ⊢
  have HH1 := hide h1
  have HH2 := hide h2
  clear h1 h2 he hl
  obtain ⟨n, hn⟩ : ∃ n, n = ts.length := ⟨_, rfl⟩
  rw [← hn] at HL HH1 HH2 hlen ⊢
  have HN := hide hn
  clear hn
  have hps : (pr.toList != pr.toList) = false := by simp
  have hnn : ((n : Int) != (n : Int)) = false := by simp
  go_enter Tryz.func37, Tryz.ntmps37
  go_wp2
  obtain ⟨Y, hY⟩ : ∃ Y, Y = (w.alloc (.cells #[.string pr, .slice a1 n c1, .int .i64 o1] 42)).alloc (.cells #[.string pr, .slice a2 n c2, .int .i64 o2] 42) := ⟨_, rfl⟩
  have HB0 : Hid (Below w.heap.size w Y) := by rw [hY]; exact below2a _ _ _
  have HP : Hid (Y.cell? ⟨w.heap.size, 1, none⟩ = some (.slice a1 n c1) ∧ Y.cell? ⟨w.heap.size + 1, 1, none⟩ = some (.slice a2 n c2)) := by
    show _ ∧ _
    rw [hY]
    constructor <;> simp
  rw [← hY]
  clear hY
  go_loopw [5] (fun i wl => ∃ k : Nat, k ≤ n ∧ i = .int .i64 k ∧ Hid (Below Y.heap.size Y wl)) (fun i _ => n - (intOf i).toNat)
  case atStart => exact ⟨0, by omega, rfl, Below.refl _ _⟩
  case round =>
    obtain ⟨k, hk, rfl, HB⟩ := hrel
    have HBw := hide (HB0.out.trans (HB.out.mono HB0.out.size))
    have p1 := kept_cell HB.out HP.out.1
    have p2 := kept_cell HB.out HP.out.2
    by_cases hlt : k < n
    · have hi : (k : Int) < (n : Int) := by omega
      have hi0 : (0 : Int) ≤ (k : Int) := by omega
      rw [HN.out] at HH1
      rw [← HL.out] at HH2
      obtain ⟨b1, q1, rfl, -, -, hr1⟩ := HH1.out.row (by have := HN.out; omega)
      obtain ⟨b2, q2, rfl, -, -, hr2⟩ := HH2.out.row (by have := HL.out; omega)
      obtain ⟨x, hx⟩ : ∃ x, ts[k]? = some x := ⟨_, List.getElem?_eq_getElem (by have := HN.out; omega)⟩
      obtain ⟨y, hy⟩ : ∃ y, us[k]? = some y := ⟨_, List.getElem?_eq_getElem (by have := HL.out; omega)⟩
      have hst : x.st = y.st := by
        have := congrArg (fun l => l[k]?) HE.out
        simp only [List.getElem?_map, hx, hy, Option.map_some, Option.some.injEq] at this
        exact this
      have HS := hide (fun V => sameTerm4 x y hst V)
      have x0 := over_cell (kept_cell HBw.out (hr1 k x hx 0 _ rfl))
      have x1 := over_cell (kept_cell HBw.out (hr1 k x hx 1 _ rfl))
      have x2 := over_cell (kept_cell HBw.out (hr1 k x hx 2 _ rfl))
      have x3 := over_cell (kept_cell HBw.out (hr1 k x hx 3 _ rfl))
      have y0 := over_cell (kept_cell HBw.out (hr2 k y hy 0 _ rfl))
      have y1 := over_cell (kept_cell HBw.out (hr2 k y hy 1 _ rfl))
      have y2 := over_cell (kept_cell HBw.out (hr2 k y hy 2 _ rfl))
      have y3 := over_cell (kept_cell HBw.out (hr2 k y hy 3 _ rfl))
      simp only [elTrm, Nat.add_zero] at x0 x1 x2 x3 y0 y1 y2 y3
      clear hr1 hr2 hx hy hst
      go_wp2
      refine wp_region_over (fun W => W = wr) (by kernel_rfl) (by kernel_rfl) rfl ?_
      rintro W rfl
      have p1' := over_cell p1
      have p2' := over_cell p2
      clear p1 p2
      repeat (go_big_quiet_step (first | (go_at_call 42; exact calls_over (HS.out _))))
      refine wpQuiet_nil ?_
      rintro _ ⟨z, rfl⟩
      have HB3 := hide (HB.out.trans ((over_below W z).mono HB.out.size))
      clear x0 x1 x2 x3 y0 y1 y2 y3 p1' p2' HS
      go_wp2
      go_roundw
      case rel => exact ⟨k + 1, by omega, by go_num, HB3⟩
      case measure => simp [intOf]; omega
    · obtain rfl : k = n := by omega
      have hi : ¬ (k : Int) < (k : Int) := by omega
      go_wp2
      go_ret
      exact ⟨rfl, HBw.out⟩
end Go.Proofs.YtchhophblejmeaaGreatDoor

namespace Go.Proofs.YtchhophblejmeaaGreatDoor
set_option linter.unusedSimpArgs false
set_option linter.unusedVariables false
open Go.RowKit

theorem map_at {α β γ : Type} {f : α → γ} {g : β → γ} {l : List α} {m : List β} (h : l.map f = m.map g) {k : Nat} {x : α} {y : β} (hx : l[k]? = some x) (hy : m[k]? = some y) : f x = g y := by
  have := congrArg (fun l => l[k]?) h
  simp only [List.getElem?_map, hx, hy, Option.map_some, Option.some.injEq] at this
  exact this

/-- The cells of the terms of two literals. -/
def V0 (V : World) (b c bo co k : Nat) (l1 l2 l4 m4 r1 r2 r4 p4 : Int) (l3 r3 : ByteArray) : Prop :=
  V.cell? ⟨b, bo + k * 14 + 5, none⟩ = some (.int .i64 l1) ∧ V.cell? ⟨b, bo + k * 14 + 6, none⟩ = some (.int .i64 l2) ∧ V.cell? ⟨b, bo + k * 14 + 7, none⟩ = some (.string l3) ∧ V.cell? ⟨b, bo + k * 14 + 8, none⟩ = some (.int .i64 l4) ∧ V.cell? ⟨b, bo + k * 14 + 9, none⟩ = some (.int .i64 r1) ∧ V.cell? ⟨b, bo + k * 14 + 10, none⟩ = some (.int .i64 r2) ∧ V.cell? ⟨b, bo + k * 14 + 11, none⟩ = some (.string r3) ∧ V.cell? ⟨b, bo + k * 14 + 12, none⟩ = some (.int .i64 r4) ∧ V.cell? ⟨c, co + k * 14 + 5, none⟩ = some (.int .i64 l1) ∧ V.cell? ⟨c, co + k * 14 + 6, none⟩ = some (.int .i64 l2) ∧ V.cell? ⟨c, co + k * 14 + 7, none⟩ = some (.string l3) ∧ V.cell? ⟨c, co + k * 14 + 8, none⟩ = some (.int .i64 m4) ∧ V.cell? ⟨c, co + k * 14 + 9, none⟩ = some (.int .i64 r1) ∧ V.cell? ⟨c, co + k * 14 + 10, none⟩ = some (.int .i64 r2) ∧ V.cell? ⟨c, co + k * 14 + 11, none⟩ = some (.string r3) ∧ V.cell? ⟨c, co + k * 14 + 12, none⟩ = some (.int .i64 p4)

set_option maxRecDepth 100000 in
set_option maxHeartbeats 8000000 in
theorem sameBody4 {w : World} {F G : Nat → Prop} {v1 v2 : Value} {l m : List Lix} (h1 : Lst elLix w F v1 l) (h2 : Lst elLix w G v2 m) (hp : l.map (fun x => x.pur.st) = m.map (fun x => x.pur.st)) :
    Calls Tryz.prog 23 #[v1, v2] w fun e w' => e = .returned (.bool true) ∧ Below w.heap.size w w' := by
  obtain ⟨a1, c1, rfl, -, -, hl1⟩ := h1.shape
  obtain ⟨a2, c2, rfl, -, -, hl2⟩ := h2.shape
  have hl : l.length = m.length := by have := congrArg List.length hp; simpa using this
  have H1 := hide h1.all
  have H2 := hide h2.all
  have HP := hide hp
  have HE := hide hl
  obtain ⟨n, hn⟩ : ∃ n, n = l.length := ⟨_, rfl⟩
  rw [← hl, ← hn]
  rw [← hn] at hl1
  rw [← hl] at H2
  rw [← hn] at H1 H2
  have HN := hide hn
  clear h1 h2 hp hl hl2 hn
  have hnn : ((n : Int) != (n : Int)) = false := by simp
  go_enter Tryz.func23, Tryz.ntmps23
  go_wp2
  go_loopw [5] (fun i wl => ∃ k : Nat, k ≤ n ∧ i = .int .i64 k ∧ Hid (Below w.heap.size w wl)) (fun i _ => n - (intOf i).toNat)
  case atStart => exact ⟨0, by omega, rfl, Below.refl _ _⟩
  case round =>
    obtain ⟨k, hk, rfl, HB⟩ := hrel
    by_cases hlt : k < n
    · have hi : (k : Int) < (n : Int) := by omega
      have hi0 : (0 : Int) ≤ (k : Int) := by omega
      obtain ⟨b, bo, rfl, -, -, hrow⟩ := (H1.out.kept HB.out).row (by have := HN.out; omega)
      obtain ⟨c, co, rfl, -, -, krow⟩ := (H2.out.kept HB.out).row (by have := HN.out; have := HE.out; omega)
      obtain ⟨x, hx⟩ : ∃ x, l[k]? = some x := ⟨_, List.getElem?_eq_getElem (by have := HN.out; omega)⟩
      obtain ⟨y, hy⟩ : ∃ y, m[k]? = some y := ⟨_, List.getElem?_eq_getElem (by have := HN.out; have := HE.out; omega)⟩
      have hpq := map_at HP.out hx hy
      have x0 := over_cell (hrow k _ hx 0 _ rfl)
      have x1 := over_cell (hrow k _ hx 1 _ rfl)
      have x2 := over_cell (hrow k _ hx 2 _ rfl)
      have x3 := over_cell (hrow k _ hx 3 _ rfl)
      have x4 := over_cell (hrow k _ hx 4 _ rfl)
      have rx5 := hrow k _ hx 5 _ rfl
      have rx6 := hrow k _ hx 6 _ rfl
      have rx7 := hrow k _ hx 7 _ rfl
      have rx8 := hrow k _ hx 8 _ rfl
      have rx9 := hrow k _ hx 9 _ rfl
      have rx10 := hrow k _ hx 10 _ rfl
      have rx11 := hrow k _ hx 11 _ rfl
      have rx12 := hrow k _ hx 12 _ rfl
      have y0 := over_cell (krow k _ hy 0 _ rfl)
      have y1 := over_cell (krow k _ hy 1 _ rfl)
      have y2 := over_cell (krow k _ hy 2 _ rfl)
      have y3 := over_cell (krow k _ hy 3 _ rfl)
      have y4 := over_cell (krow k _ hy 4 _ rfl)
      have ry5 := krow k _ hy 5 _ rfl
      have ry6 := krow k _ hy 6 _ rfl
      have ry7 := krow k _ hy 7 _ rfl
      have ry8 := krow k _ hy 8 _ rfl
      have ry9 := krow k _ hy 9 _ rfl
      have ry10 := krow k _ hy 10 _ rfl
      have ry11 := krow k _ hy 11 _ rfl
      have ry12 := krow k _ hy 12 _ rfl
      have hxo := H1.out.ok (List.mem_of_getElem? hx)
      have hyo := H2.out.ok (List.mem_of_getElem? hy)
      obtain ⟨lk, ⟨ap, av, aoff, ats⟩, lop, ⟨l1, l2, l3, l4⟩, ⟨r1, r2, r3, r4⟩, loff⟩ := x
      obtain ⟨yk, ⟨yp, yv, yoff, yts⟩, yop, ⟨m1, m2, m3, m4⟩, ⟨p1, p2, p3, p4⟩, yof⟩ := y
      simp only [elLix, Nat.add_zero] at x0 x1 x2 x3 x4 rx5 rx6 rx7 rx8 rx9 rx10 rx11 rx12 ry5 ry6 ry7 ry8 ry9 ry10 ry11 ry12 y0 y1 y2 y3 y4
      simp only [Lix.pur, Atx.pur, PLit.st, PAtom.st, Trm.st, PLit.mk.injEq, PAtom.mk.injEq, Trm.mk.injEq] at hpq
      obtain ⟨rfl, ⟨rfl, hts, -⟩, rfl, ⟨rfl, rfl, rfl, -⟩, ⟨rfl, rfl, rfl, -⟩, -⟩ := hpq
      have HS := hide (fun W (hb : Below wr.heap.size wr W) => sameAtom4 ap aoff yoff ats yts av yv (((show Lst elTrm w (fun _ => True) av ats from hxo.2.1.2.2).kept HB.out).kept hb) (((show Lst elTrm w (fun _ => True) yv yts from hyo.2.1.2.2).kept HB.out).kept hb) hts)
      have HT : Hid (∀ (k n : Int) (s : ByteArray) (o o' : Int) (W : World), Calls Tryz.prog 42 #[.agg #[.int .i64 k, .int .i64 n, .string s, .int .i64 o], .agg #[.int .i64 k, .int .i64 n, .string s, .int .i64 o']] W fun e w' => e = .returned (.bool true) ∧ Below W.heap.size W w') := fun k n s o o' W => sameTerm4 ⟨k, n, s, o⟩ ⟨k, n, s, o'⟩ rfl W
      obtain ⟨xa, xc, rfl, -⟩ := (show Lst elTrm w (fun _ => True) av ats from hxo.2.1.2.2).shape
      obtain ⟨ya, yc, rfl, -⟩ := (show Lst elTrm w (fun _ => True) yv yts from hyo.2.1.2.2).shape
      have q1 : (lk != lk) = false := by simp
      have q2 : (lop != lop) = false := by simp
      clear hrow hx krow hy hxo hyo hts
      have HX : Hid (V0 wr b c bo co k l1 l2 l4 m4 r1 r2 r4 p4 l3 r3) := ⟨rx5, rx6, rx7, rx8, rx9, rx10, rx11, rx12, ry5, ry6, ry7, ry8, ry9, ry10, ry11, ry12⟩
      clear rx5 rx6 rx7 rx8 rx9 rx10 rx11 rx12 ry5 ry6 ry7 ry8 ry9 ry10 ry11 ry12
      go_wp2
      refine wp_region_over (fun W => W = wr) (by kernel_rfl) (by kernel_rfl) rfl ?_
      rintro W rfl
      repeat (go_big_quiet_step (first | (go_at_call 37; exact calls_over (HS.out _ (over_below _ _)))))
      refine wpQuiet_nil ?_
      rintro _ ⟨z, rfl⟩
      have HB3 := hide (over_below W z)
      clear x0 x1 x2 x3 x4 y0 y1 y2 y3 y4 HS
      go_wp2
      refine wp_region_over (fun V => V = over W z) (by kernel_rfl) (by kernel_rfl) rfl ?_
      rintro V rfl
      obtain ⟨x5, x6, x7, x8, x9, x10, x11, x12, y5, y6, y7, y8, y9, y10, y11, y12⟩ := HX.out
      have x5 := over_cell (kept_cell HB3.out x5)
      have x6 := over_cell (kept_cell HB3.out x6)
      have x7 := over_cell (kept_cell HB3.out x7)
      have x8 := over_cell (kept_cell HB3.out x8)
      have x9 := over_cell (kept_cell HB3.out x9)
      have x10 := over_cell (kept_cell HB3.out x10)
      have x11 := over_cell (kept_cell HB3.out x11)
      have x12 := over_cell (kept_cell HB3.out x12)
      have y5 := over_cell (kept_cell HB3.out y5)
      have y6 := over_cell (kept_cell HB3.out y6)
      have y7 := over_cell (kept_cell HB3.out y7)
      have y8 := over_cell (kept_cell HB3.out y8)
      have y9 := over_cell (kept_cell HB3.out y9)
      have y10 := over_cell (kept_cell HB3.out y10)
      have y11 := over_cell (kept_cell HB3.out y11)
      have y12 := over_cell (kept_cell HB3.out y12)
      repeat (go_big_quiet_step (first | (go_at_call 42; exact calls_over (HT.out _ _ _ _ _ _))))
      refine wpQuiet_nil ?_
      rintro _ ⟨z2, rfl⟩
      have HB4 := hide (HB.out.trans ((HB3.out.trans ((over_below (over W z) z2).mono HB3.out.size)).mono HB.out.size))
      clear x5 x6 x7 x8 x9 x10 x11 x12 y5 y6 y7 y8 y9 y10 y11 y12 HT HX
      go_wp2
      go_roundw
      case rel => exact ⟨k + 1, by omega, by go_num, HB4⟩
      case measure => simp [intOf]; omega
    · obtain rfl : k = n := by omega
      have hi : ¬ (k : Int) < (k : Int) := by omega
      go_wp2
      go_ret
      exact ⟨rfl, HB.out⟩
end Go.Proofs.YtchhophblejmeaaGreatDoor
