/- The law's own sameAtom at equal atoms. The law's own sameAtoms at equal lists of atoms. The law's own sameBody at equal lists of literals. parse's reader takes a clause. parse's reader takes a program. parse.read: a text's tokens, taken by a rule; where it gives up, the fault. -/
import Derived.Test.YtmdhjggijlhhgaaGreatDoorProg
import Derived.Test.YtmdhjggijlhhgaaGreatDoorForms
import Derived.Test.YtmdhjggijlhhgaaGreatDoorOver
import Derived.Test.YtmdhjggijlhhgaaGreatDoorPkC
import Derived.Test.YtmdhjggijlhhgaaGreatDoorParseAtom
import Derived.Deep.RegionHeld3
import Derived.Deep.DeepCutAuto
import Derived.Test.YtmdhjggijlhhgaaGreatDoorPkD
import Derived.Test.YtmdhjggijlhhgaaGreatDoorParseCatch

namespace Go.Proofs.YtmdhjggijlhhgaaGreatDoor
set_option linter.unusedSimpArgs false
set_option linter.unusedVariables false
open Go.RowKit

theorem neqTrmSame (a : Trm) (w : World) : (binOp .neq 58 (.agg #[.int .i64 a.k, .int .i64 a.n, .string a.s, .int .i64 a.off]) (.agg #[.int .i64 a.k, .int .i64 a.n, .string a.s, .int .i64 a.off])).run Tryz.prog w = .ok (.bool false) w := by
  have h1 := run_equalIn_struct (P := Tryz.prog) w 9999 58 #[.int .i64 a.k, .int .i64 a.n, .string a.s, .int .i64 a.off] #[.int .i64 a.k, .int .i64 a.n, .string a.s, .int .i64 a.off] (by kernel_rfl) (by kernel_rfl)
  simp only [binOp]
  simp only [Op.equal, Op.maxDepth, Sem.run_bind]
  go_simp

set_option maxRecDepth 100000 in
set_option maxHeartbeats 1000000 in
theorem sameAtom_any {w : World} {F G : Nat → Prop} (pr : ByteArray) (off : Int) (ts : List Trm) (v1 v2 : Value) (h1 : Lst elTrm w F v1 ts) (h2 : Lst elTrm w G v2 ts) :
    Calls Tryz.prog 26 #[.agg #[.string pr, v1, .int .i64 off], .agg #[.string pr, v2, .int .i64 off]] w fun e w' => e = .returned (.bool true) ∧ Below w.heap.size w w' := by
  obtain ⟨a1, c1, rfl, -, -, hlen⟩ := h1.shape
  obtain ⟨a2, c2, rfl, -⟩ := h2.shape
  have HH1 := hide h1
  have HH2 := hide h2
  clear h1 h2
  have hq : (off != off) = false := by simp
  have hps : (pr.toList != pr.toList) = false := by simp
  go_enter Tryz.func26, Tryz.ntmps26
  go_wp2
  obtain ⟨Y, hY⟩ : ∃ Y, Y = (w.alloc (.cells #[.string pr, .slice a1 ts.length c1, .int .i64 off] 55)).alloc (.cells #[.string pr, .slice a2 ts.length c2, .int .i64 off] 55) := ⟨_, rfl⟩
  have HB0 : Hid (Below w.heap.size w Y) := by rw [hY]; exact below2a _ _ _
  have HP : Hid (Y.cell? ⟨w.heap.size, 1, none⟩ = some (.slice a1 ts.length c1) ∧ Y.cell? ⟨w.heap.size + 1, 1, none⟩ = some (.slice a2 ts.length c2)) := by
    show _ ∧ _
    rw [hY]
    constructor <;> simp
  rw [← hY]
  clear hY
  go_loopw [30] (fun i wl => ∃ k : Nat, k ≤ ts.length ∧ i = .int .i64 k ∧ Hid (Below Y.heap.size Y wl)) (fun i _ => ts.length - (intOf i).toNat)
  case atStart => exact ⟨0, by omega, rfl, Below.refl _ _⟩
  case round =>
    obtain ⟨k, hk, rfl, HB⟩ := hrel
    have HBw := hide (HB0.out.trans (HB.out.mono HB0.out.size))
    have p1 := kept_cell HB.out HP.out.1
    have p2 := kept_cell HB.out HP.out.2
    by_cases hlt : k < ts.length
    · have hi : (k : Int) < (ts.length : Int) := by omega
      have hi0 : (0 : Int) ≤ (k : Int) := by omega
      obtain ⟨b1, o1, rfl, -, -, hr1⟩ := HH1.out.row (by omega)
      obtain ⟨b2, o2, rfl, -, -, hr2⟩ := HH2.out.row (by omega)
      obtain ⟨x, hx⟩ : ∃ x, ts[k]? = some x := ⟨_, List.getElem?_eq_getElem hlt⟩
      have x0 := over_cell (kept_cell HBw.out (hr1 k x hx 0 _ rfl))
      have x1 := over_cell (kept_cell HBw.out (hr1 k x hx 1 _ rfl))
      have x2 := over_cell (kept_cell HBw.out (hr1 k x hx 2 _ rfl))
      have x3 := over_cell (kept_cell HBw.out (hr1 k x hx 3 _ rfl))
      have y0 := over_cell (kept_cell HBw.out (hr2 k x hx 0 _ rfl))
      have y1 := over_cell (kept_cell HBw.out (hr2 k x hx 1 _ rfl))
      have y2 := over_cell (kept_cell HBw.out (hr2 k x hx 2 _ rfl))
      have y3 := over_cell (kept_cell HBw.out (hr2 k x hx 3 _ rfl))
      simp only [elTrm, Nat.add_zero] at x0 x1 x2 x3 y0 y1 y2 y3
      have hs := neqTrmSame x
      clear hr1 hr2 hx
      go_wp2
      refine wp_region_over (fun W => W = wr) (by kernel_rfl) (by kernel_rfl) rfl ?_
      rintro W rfl
      have p1' := over_cell p1
      have p2' := over_cell p2
      clear p1 p2
      repeat (go_big_quiet_step (first | fail))
      refine wpQuiet_nil ?_
      rintro _ ⟨z, rfl⟩
      have HB3 := hide (HB.out.trans ((over_below W z).mono HB.out.size))
      clear x0 x1 x2 x3 y0 y1 y2 y3 p1' p2'
      go_wp2
      go_roundw
      case rel => exact ⟨k + 1, by omega, by go_num, HB3⟩
      case measure => simp [intOf]; omega
    · obtain rfl : k = ts.length := by omega
      have hi : ¬ (ts.length : Int) < (ts.length : Int) := by omega
      go_wp2
      go_ret
      exact ⟨rfl, HBw.out⟩

end Go.Proofs.YtmdhjggijlhhgaaGreatDoor

namespace Go.Proofs.YtmdhjggijlhhgaaGreatDoor
set_option linter.unusedSimpArgs false
set_option linter.unusedVariables false
open Go.RowKit

theorem pur_at {α β : Type} {f : α → β} {l m : List α} (h : l.map f = m.map f) {k : Nat} {x y : α} (hx : l[k]? = some x) (hy : m[k]? = some y) : f x = f y := by
  have e := congrArg (fun z => z[k]?) h
  simp only [List.getElem?_map, hx, hy, Option.map_some, Option.some.injEq] at e
  exact e
set_option maxRecDepth 100000 in
set_option maxHeartbeats 2000000 in
theorem sameAtoms_any {w : World} {F G : Nat → Prop} {v1 v2 : Value} {l m : List Atx} (h1 : Lst elAtx w F v1 l) (h2 : Lst elAtx w G v2 m) (hp : l.map Atx.pur = m.map Atx.pur) :
    Calls Tryz.prog 12 #[v1, v2] w fun e w' => e = .returned (.bool true) ∧ Below w.heap.size w w' := by
  obtain ⟨a1, c1, rfl, -, -, hl1⟩ := h1.shape
  obtain ⟨a2, c2, rfl, -, -, hl2⟩ := h2.shape
  have hl : l.length = m.length := by have := congrArg List.length hp; simpa using this
  have H1 := hide h1.all
  have H2 := hide h2.all
  have HP := hide hp
  have HE := hide hl
  obtain ⟨n, hn⟩ : ∃ n, n = l.length := ⟨_, rfl⟩
  rw [← hl, ← hn]
  rw [← hn] at hl1
  rw [← hl] at H2
  rw [← hn] at H1 H2
  have HN := hide hn
  clear h1 h2 hp hl hl2 hn
  have hnn : ((n : Int) != (n : Int)) = false := by simp
  go_enter Tryz.func12, Tryz.ntmps12
  go_wp2
  go_loopw [13] (fun i wl => ∃ k : Nat, k ≤ n ∧ i = .int .i64 k ∧ Hid (Below w.heap.size w wl)) (fun i _ => n - (intOf i).toNat)
  case atStart => exact ⟨0, by omega, rfl, Below.refl _ _⟩
  case round =>
    obtain ⟨k, hk, rfl, HB⟩ := hrel
    by_cases hlt : k < n
    · have hi : (k : Int) < (n : Int) := by omega
      have hi0 : (0 : Int) ≤ (k : Int) := by omega
      obtain ⟨b, bo, rfl, -, -, hrow⟩ := H1.out.row (by have := HN.out; omega)
      obtain ⟨c, co, rfl, -, -, krow⟩ := H2.out.row (by have := HN.out; have := HE.out; omega)
      obtain ⟨x, hx⟩ : ∃ x, l[k]? = some x := ⟨_, List.getElem?_eq_getElem (by have := HN.out; omega)⟩
      obtain ⟨y, hy⟩ : ∃ y, m[k]? = some y := ⟨_, List.getElem?_eq_getElem (by have := HN.out; have := HE.out; omega)⟩
      have hpq := pur_at HP.out hx hy
      have x0 := over_cell (kept_cell HB.out (hrow k _ hx 0 _ rfl))
      have x1 := over_cell (kept_cell HB.out (hrow k _ hx 1 _ rfl))
      have x2 := over_cell (kept_cell HB.out (hrow k _ hx 2 _ rfl))
      have y0 := over_cell (kept_cell HB.out (krow k _ hy 0 _ rfl))
      have y1 := over_cell (kept_cell HB.out (krow k _ hy 1 _ rfl))
      have y2 := over_cell (kept_cell HB.out (krow k _ hy 2 _ rfl))
      have hxo := H1.out.ok (List.mem_of_getElem? hx)
      have hyo := H2.out.ok (List.mem_of_getElem? hy)
      obtain ⟨xp, xv, xoff, xts⟩ := x
      obtain ⟨yp, yv, yoff, yts⟩ := y
      simp only [elAtx, Nat.add_zero] at x0 x1 x2 y0 y1 y2
      simp only [Atx.pur, PAtom.mk.injEq] at hpq
      obtain ⟨rfl, rfl, rfl⟩ := hpq
      have HS := hide (fun x => sameAtom_any xp xoff xts xv yv (((show Lst elTrm w (fun _ => True) xv xts from hxo.2.2).kept HB.out).kept (over_below _ x)) (((show Lst elTrm w (fun _ => True) yv xts from hyo.2.2).kept HB.out).kept (over_below _ x)))
      obtain ⟨xa, xc, rfl, -⟩ := (show Lst elTrm w (fun _ => True) xv xts from hxo.2.2).shape
      obtain ⟨ya, yc, rfl, -⟩ := (show Lst elTrm w (fun _ => True) yv xts from hyo.2.2).shape
      clear hrow hx krow hy hxo hyo
      go_wp2
      refine wp_region_over (fun W => W = wr) (by kernel_rfl) (by kernel_rfl) rfl ?_
      rintro W rfl
      repeat (go_big_quiet_step (first | (go_at_call 26; exact calls_over (HS.out _))))
      refine wpQuiet_nil ?_
      rintro _ ⟨z, rfl⟩
      have HB3 := hide (HB.out.trans ((over_below W z).mono HB.out.size))
      clear x0 x1 x2 y0 y1 y2 HS
      go_wp2
      go_roundw
      case rel => exact ⟨k + 1, by omega, by go_num, HB3⟩
      case measure => simp [intOf]; omega
    · obtain rfl : k = n := by omega
      have hi : ¬ (k : Int) < (k : Int) := by omega
      go_wp2
      go_ret
      exact ⟨rfl, HB.out⟩
end Go.Proofs.YtmdhjggijlhhgaaGreatDoor

namespace Go.Proofs.YtmdhjggijlhhgaaGreatDoor
set_option linter.unusedSimpArgs false
set_option linter.unusedVariables false
open Go.RowKit

theorem bx_first (w : World) (x y : Obj) : ((w.alloc x).alloc y).drew.heap[w.heap.size]? = some x := by
  show ((w.alloc x).alloc y).heap[w.heap.size]? = some x
  rw [(belowA (w.alloc x) y).block _ (by simp)]; exact heap_alloc_new w _
theorem bx_second (w : World) (x y : Obj) : ((w.alloc x).alloc y).drew.heap[w.heap.size + 1]? = some y := by
  have := heap_alloc_new (w.alloc x) y
  show ((w.alloc x).alloc y).heap[w.heap.size + 1]? = some y
  simpa using this
set_option maxRecDepth 100000 in
set_option maxHeartbeats 8000000 in
theorem sameBody_any {w : World} {F G : Nat → Prop} {v1 v2 : Value} {l m : List Lix} (h1 : Lst elLix w F v1 l) (h2 : Lst elLix w G v2 m) (hp : l.map Lix.pur = m.map Lix.pur) :
    Calls Tryz.prog 15 #[v1, v2] w fun e w' => e = .returned (.bool true) ∧ Below w.heap.size w w' := by
  obtain ⟨a1, c1, rfl, -, -, hl1⟩ := h1.shape
  obtain ⟨a2, c2, rfl, -, -, hl2⟩ := h2.shape
  have hl : l.length = m.length := by have := congrArg List.length hp; simpa using this
  have H1 := hide h1.all
  have H2 := hide h2.all
  have HP := hide hp
  have HE := hide hl
  obtain ⟨n, hn⟩ : ∃ n, n = l.length := ⟨_, rfl⟩
  rw [← hl, ← hn]
  rw [← hn] at hl1
  rw [← hl] at H2
  rw [← hn] at H1 H2
  have HN := hide hn
  clear h1 h2 hp hl hl2 hn
  have hnn : ((n : Int) != (n : Int)) = false := by simp
  go_enter Tryz.func15, Tryz.ntmps15
  go_wp2
  go_loopw [15] (fun i wl => ∃ k : Nat, k ≤ n ∧ i = .int .i64 k ∧ Hid (Below w.heap.size w wl)) (fun i _ => n - (intOf i).toNat)
  case atStart => exact ⟨0, by omega, rfl, Below.refl _ _⟩
  case round =>
    obtain ⟨k, hk, rfl, HB⟩ := hrel
    by_cases hlt : k < n
    · have hi : (k : Int) < (n : Int) := by omega
      have hi0 : (0 : Int) ≤ (k : Int) := by omega
      obtain ⟨b, bo, rfl, -, -, hrow⟩ := (H1.out.kept HB.out).row (by have := HN.out; omega)
      obtain ⟨c, co, rfl, -, -, krow⟩ := (H2.out.kept HB.out).row (by have := HN.out; have := HE.out; omega)
      obtain ⟨x, hx⟩ : ∃ x, l[k]? = some x := ⟨_, List.getElem?_eq_getElem (by have := HN.out; omega)⟩
      obtain ⟨y, hy⟩ : ∃ y, m[k]? = some y := ⟨_, List.getElem?_eq_getElem (by have := HN.out; have := HE.out; omega)⟩
      have hpq := pur_at HP.out hx hy
      have x0 := hrow k _ hx 0 _ rfl
      have x1 := hrow k _ hx 1 _ rfl
      have x2 := hrow k _ hx 2 _ rfl
      have x3 := hrow k _ hx 3 _ rfl
      have x4 := hrow k _ hx 4 _ rfl
      have x5 := hrow k _ hx 5 _ rfl
      have x6 := hrow k _ hx 6 _ rfl
      have x7 := hrow k _ hx 7 _ rfl
      have x8 := hrow k _ hx 8 _ rfl
      have x9 := hrow k _ hx 9 _ rfl
      have x10 := hrow k _ hx 10 _ rfl
      have x11 := hrow k _ hx 11 _ rfl
      have x12 := hrow k _ hx 12 _ rfl
      have x13 := hrow k _ hx 13 _ rfl
      have y0 := krow k _ hy 0 _ rfl
      have y1 := krow k _ hy 1 _ rfl
      have y2 := krow k _ hy 2 _ rfl
      have y3 := krow k _ hy 3 _ rfl
      have y4 := krow k _ hy 4 _ rfl
      have y5 := krow k _ hy 5 _ rfl
      have y6 := krow k _ hy 6 _ rfl
      have y7 := krow k _ hy 7 _ rfl
      have y8 := krow k _ hy 8 _ rfl
      have y9 := krow k _ hy 9 _ rfl
      have y10 := krow k _ hy 10 _ rfl
      have y11 := krow k _ hy 11 _ rfl
      have y12 := krow k _ hy 12 _ rfl
      have y13 := krow k _ hy 13 _ rfl
      have hxo := H1.out.ok (List.mem_of_getElem? hx)
      have hyo := H2.out.ok (List.mem_of_getElem? hy)
      obtain ⟨lk, ⟨ap, av, aoff, ats⟩, lop, ll, lr, loff⟩ := x
      obtain ⟨yk, ⟨yp, yv, yoff, yts⟩, yop, yl, yr, yof⟩ := y
      simp only [elLix, Nat.add_zero] at x0 x1 x2 x3 x4 x5 x6 x7 x8 x9 x10 x11 x12 x13 y0 y1 y2 y3 y4 y5 y6 y7 y8 y9 y10 y11 y12 y13
      simp only [Lix.pur, Atx.pur, PLit.mk.injEq, PAtom.mk.injEq] at hpq
      obtain ⟨rfl, ⟨rfl, rfl, rfl⟩, rfl, rfl, rfl, rfl⟩ := hpq
      have HS := hide (fun W (hb : Below wr.heap.size wr W) => sameAtom_any ap aoff ats av yv (((show Lst elTrm w (fun _ => True) av ats from hxo.2.1.2.2).kept HB.out).kept hb) (((show Lst elTrm w (fun _ => True) yv ats from hyo.2.1.2.2).kept HB.out).kept hb))
      obtain ⟨xa, xc, rfl, -⟩ := (show Lst elTrm w (fun _ => True) av ats from hxo.2.1.2.2).shape
      obtain ⟨ya, yc, rfl, -⟩ := (show Lst elTrm w (fun _ => True) yv ats from hyo.2.1.2.2).shape
      have HSc : Hid (∀ V : World, Below wr.heap.size wr V → V.cell? ⟨b, bo + k * 14, none⟩ = some (.int .i64 lk) ∧ V.cell? ⟨b, bo + k * 14 + 1, none⟩ = some (.string ap) ∧ V.cell? ⟨b, bo + k * 14 + 2, none⟩ = some (.slice xa ats.length xc) ∧ V.cell? ⟨b, bo + k * 14 + 3, none⟩ = some (.int .i64 aoff) ∧ V.cell? ⟨b, bo + k * 14 + 4, none⟩ = some (.int .i64 lop) ∧ V.cell? ⟨b, bo + k * 14 + 5, none⟩ = some (.int .i64 ll.k) ∧ V.cell? ⟨b, bo + k * 14 + 6, none⟩ = some (.int .i64 ll.n) ∧ V.cell? ⟨b, bo + k * 14 + 7, none⟩ = some (.string ll.s) ∧ V.cell? ⟨b, bo + k * 14 + 8, none⟩ = some (.int .i64 ll.off) ∧ V.cell? ⟨b, bo + k * 14 + 9, none⟩ = some (.int .i64 lr.k) ∧ V.cell? ⟨b, bo + k * 14 + 10, none⟩ = some (.int .i64 lr.n) ∧ V.cell? ⟨b, bo + k * 14 + 11, none⟩ = some (.string lr.s) ∧ V.cell? ⟨b, bo + k * 14 + 12, none⟩ = some (.int .i64 lr.off) ∧ V.cell? ⟨b, bo + k * 14 + 13, none⟩ = some (.int .i64 loff) ∧ V.cell? ⟨c, co + k * 14, none⟩ = some (.int .i64 lk) ∧ V.cell? ⟨c, co + k * 14 + 1, none⟩ = some (.string ap) ∧ V.cell? ⟨c, co + k * 14 + 2, none⟩ = some (.slice ya ats.length yc) ∧ V.cell? ⟨c, co + k * 14 + 3, none⟩ = some (.int .i64 aoff) ∧ V.cell? ⟨c, co + k * 14 + 4, none⟩ = some (.int .i64 lop) ∧ V.cell? ⟨c, co + k * 14 + 5, none⟩ = some (.int .i64 ll.k) ∧ V.cell? ⟨c, co + k * 14 + 6, none⟩ = some (.int .i64 ll.n) ∧ V.cell? ⟨c, co + k * 14 + 7, none⟩ = some (.string ll.s) ∧ V.cell? ⟨c, co + k * 14 + 8, none⟩ = some (.int .i64 ll.off) ∧ V.cell? ⟨c, co + k * 14 + 9, none⟩ = some (.int .i64 lr.k) ∧ V.cell? ⟨c, co + k * 14 + 10, none⟩ = some (.int .i64 lr.n) ∧ V.cell? ⟨c, co + k * 14 + 11, none⟩ = some (.string lr.s) ∧ V.cell? ⟨c, co + k * 14 + 12, none⟩ = some (.int .i64 lr.off) ∧ V.cell? ⟨c, co + k * 14 + 13, none⟩ = some (.int .i64 loff)) := fun V hV => ⟨kept_cell hV x0, kept_cell hV x1, kept_cell hV x2, kept_cell hV x3, kept_cell hV x4, kept_cell hV x5, kept_cell hV x6, kept_cell hV x7, kept_cell hV x8, kept_cell hV x9, kept_cell hV x10, kept_cell hV x11, kept_cell hV x12, kept_cell hV x13, kept_cell hV y0, kept_cell hV y1, kept_cell hV y2, kept_cell hV y3, kept_cell hV y4, kept_cell hV y5, kept_cell hV y6, kept_cell hV y7, kept_cell hV y8, kept_cell hV y9, kept_cell hV y10, kept_cell hV y11, kept_cell hV y12, kept_cell hV y13⟩
      clear hrow hx krow hy hxo hyo x0 x1 x2 x3 x4 x5 x6 x7 x8 x9 x10 x11 x12 x13 y0 y1 y2 y3 y4 y5 y6 y7 y8 y9 y10 y11 y12 y13
      go_upto_region 6 with fail
      go_cut [6, 7] (fun t6 t7 wx => ∃ X Y, t6 = .pointer (some ⟨X, 0, none⟩) ∧ t7 = .pointer (some ⟨Y, 0, none⟩) ∧ Hid (wx.heap[X]? = some (.cells #[.int .i64 lk, .string ap, .slice xa ats.length xc, .int .i64 aoff, .int .i64 lop, .int .i64 ll.k, .int .i64 ll.n, .string ll.s, .int .i64 ll.off, .int .i64 lr.k, .int .i64 lr.n, .string lr.s, .int .i64 lr.off, .int .i64 loff] 72 (0, 0))) ∧ Hid (wx.heap[Y]? = some (.cells #[.int .i64 lk, .string ap, .slice ya ats.length yc, .int .i64 aoff, .int .i64 lop, .int .i64 ll.k, .int .i64 ll.n, .string ll.s, .int .i64 ll.off, .int .i64 lr.k, .int .i64 lr.n, .string lr.s, .int .i64 lr.off, .int .i64 loff] 72 (0, 0))) ∧ Hid (Below wr.heap.size wr wx))
      case first =>
        go_region_held3 (fun V => V.cell? ⟨b, bo + k * 14, none⟩ = some (.int .i64 lk) ∧ V.cell? ⟨b, bo + k * 14 + 1, none⟩ = some (.string ap) ∧ V.cell? ⟨b, bo + k * 14 + 2, none⟩ = some (.slice xa ats.length xc) ∧ V.cell? ⟨b, bo + k * 14 + 3, none⟩ = some (.int .i64 aoff) ∧ V.cell? ⟨b, bo + k * 14 + 4, none⟩ = some (.int .i64 lop) ∧ V.cell? ⟨b, bo + k * 14 + 5, none⟩ = some (.int .i64 ll.k) ∧ V.cell? ⟨b, bo + k * 14 + 6, none⟩ = some (.int .i64 ll.n) ∧ V.cell? ⟨b, bo + k * 14 + 7, none⟩ = some (.string ll.s) ∧ V.cell? ⟨b, bo + k * 14 + 8, none⟩ = some (.int .i64 ll.off) ∧ V.cell? ⟨b, bo + k * 14 + 9, none⟩ = some (.int .i64 lr.k) ∧ V.cell? ⟨b, bo + k * 14 + 10, none⟩ = some (.int .i64 lr.n) ∧ V.cell? ⟨b, bo + k * 14 + 11, none⟩ = some (.string lr.s) ∧ V.cell? ⟨b, bo + k * 14 + 12, none⟩ = some (.int .i64 lr.off) ∧ V.cell? ⟨b, bo + k * 14 + 13, none⟩ = some (.int .i64 loff) ∧ V.cell? ⟨c, co + k * 14, none⟩ = some (.int .i64 lk) ∧ V.cell? ⟨c, co + k * 14 + 1, none⟩ = some (.string ap) ∧ V.cell? ⟨c, co + k * 14 + 2, none⟩ = some (.slice ya ats.length yc) ∧ V.cell? ⟨c, co + k * 14 + 3, none⟩ = some (.int .i64 aoff) ∧ V.cell? ⟨c, co + k * 14 + 4, none⟩ = some (.int .i64 lop) ∧ V.cell? ⟨c, co + k * 14 + 5, none⟩ = some (.int .i64 ll.k) ∧ V.cell? ⟨c, co + k * 14 + 6, none⟩ = some (.int .i64 ll.n) ∧ V.cell? ⟨c, co + k * 14 + 7, none⟩ = some (.string ll.s) ∧ V.cell? ⟨c, co + k * 14 + 8, none⟩ = some (.int .i64 ll.off) ∧ V.cell? ⟨c, co + k * 14 + 9, none⟩ = some (.int .i64 lr.k) ∧ V.cell? ⟨c, co + k * 14 + 10, none⟩ = some (.int .i64 lr.n) ∧ V.cell? ⟨c, co + k * 14 + 11, none⟩ = some (.string lr.s) ∧ V.cell? ⟨c, co + k * 14 + 12, none⟩ = some (.int .i64 lr.off) ∧ V.cell? ⟨c, co + k * 14 + 13, none⟩ = some (.int .i64 loff))
          (first
            | (with_reducible exact HSc.out _ (Below.refl _ _))
            | (with_reducible exact HSc.out _ (Below.refl _ _).drew)
            | (with_reducible exact HSc.out _ (belowA _ _).drew)
            | (with_reducible exact HSc.out _ (belowA _ _))
            | (with_reducible exact HSc.out _ (below2a _ _ _).drew)
            | (with_reducible exact HSc.out _ (below2a _ _ _)))
          (fail)
        all_goals (go_wp2; go_meet)
        · exact ⟨wr.heap.size, wr.heap.size + 1, rfl, rfl, bx_first _ _ _, bx_second _ _ _, (below2a _ _ _).drew⟩
        · exact ⟨wr.heap.size + 1, wr.heap.size, rfl, rfl, bx_second _ _ _, bx_first _ _ _, (below2a _ _ _).drew⟩
      case rest =>
        obtain ⟨X, Y, rfl, rfl, HX, HY, HBx⟩ := hcut
        obtain ⟨⟨x0, x1, x2, x3, x4, x5, x6, x7, x8, x9, x10, x11, x12, x13⟩, -⟩ := boxL_cells HX.out
        obtain ⟨⟨y0, y1, y2, y3, y4, y5, y6, y7, y8, y9, y10, y11, y12, y13⟩, -⟩ := boxL_cells HY.out
        have q1 : (lk != lk) = false := by simp
        have q2 : (lop != lop) = false := by simp
        have q3 : (loff != loff) = false := by simp
        have q4 := neqTrmSame ll
        have q5 := neqTrmSame lr
        go_wp2_with (go_at_call 26; refine (HS.out _ HBx.out).mono ?_; rintro e w7 ⟨rfl, hb7⟩; have HB7 := hide (belowt2 (belowt2 HB.out HBx.out) hb7); clear hb7)
        go_roundw
        case rel => exact ⟨k + 1, by omega, by go_num, HB7⟩
        case measure => simp [intOf]; omega
    · obtain rfl : k = n := by omega
      have hi : ¬ (k : Int) < (k : Int) := by omega
      go_wp2
      go_ret
      exact ⟨rfl, HB.out⟩
end Go.Proofs.YtmdhjggijlhhgaaGreatDoor

namespace Go.Proofs.YtmdhjggijlhhgaaGreatDoor
set_option linter.unusedSimpArgs false
set_option linter.unusedVariables false
open Go.RowKit

def Clx.pur (x : Clx) : PCls := ⟨x.h.pur, x.ls.map Lix.pur⟩
def Clx.val (c : Clx) : Value := .agg #[.string c.h.p, c.h.v, .int .i64 c.h.off, c.v]
def ClsPost (w : World) (p : Nat) (ao : Option Addr) (cap : Nat) (L : List Tok) (c f : Int) (res : PR PCls) (e : Ending) (w' : World) : Prop :=
  match res with
  | .bad ec eo => e = PEnd ec eo ∧ Only (fun k => k = p) w w'
  | .ok x r => ∃ a : Clx, e = .returned a.val ∧ a.pur = x ∧ elClx.ok w' (fun b => w.heap.size ≤ b) a ∧ Ahead w' p ao cap L c f r ∧ Only (fun k => k = p) w w'
theorem clsPost_bad {w w' : World} {p : Nat} {ao : Option Addr} {cap : Nat} {L : List Tok} {c f ec eo : Int} {e : Ending} (h : ClsPost w p ao cap L c f (.bad ec eo) e w') : e = PEnd ec eo ∧ Only (fun k => k = p) w w' := h
theorem clsPost_ok {w w' : World} {p : Nat} {ao : Option Addr} {cap : Nat} {L : List Tok} {c f : Int} {x : PCls} {r : List Tok} {e : Ending} (h : ClsPost w p ao cap L c f (.ok x r) e w') : ∃ a : Clx, e = .returned a.val ∧ a.pur = x ∧ elClx.ok w' (fun b => w.heap.size ≤ b) a ∧ Ahead w' p ao cap L c f r ∧ Only (fun k => k = p) w w' := h

theorem boxC_cells {V : World} {b : Nat} {u0 u1 u2 u3 : Value} (h : V.heap[b]? = some (.cells #[u0, u1, u2, u3] 78 (0, 0))) : (V.cell? ⟨b, 0, none⟩ = some u0 ∧ V.cell? ⟨b, 1, none⟩ = some u1 ∧ V.cell? ⟨b, 2, none⟩ = some u2 ∧ V.cell? ⟨b, 3, none⟩ = some u3) ∧ (V.frozen? ⟨b, 0, none⟩ = false ∧ V.frozen? ⟨b, 1, none⟩ = false ∧ V.frozen? ⟨b, 2, none⟩ = false ∧ V.frozen? ⟨b, 3, none⟩ = false) := by
  refine ⟨⟨?_, ?_, ?_, ?_⟩, ⟨?_, ?_, ?_, ?_⟩⟩ <;> simp [World.cell?, World.frozen?, h]
theorem boxC_put {V : World} {b : Nat} {u0 u1 u2 u3 : Value} (h : V.heap[b]? = some (.cells #[u0, u1, u2, u3] 78 (0, 0))) (x0 x1 x2 x3 : Value) :
    ((((V.setCell ⟨b, 0, none⟩ x0).setCell ⟨b, 1, none⟩ x1).setCell ⟨b, 2, none⟩ x2).setCell ⟨b, 3, none⟩ x3).heap[b]? = some (.cells #[x0, x1, x2, x3] 78 (0, 0)) := by
  simp [World.setCell, Array.getElem?_modify, h]
theorem boxC_only {V0 V : World} {S : Nat → Prop} (h : Only S V0 V) (b : Nat) (hb : S b) (x0 x1 x2 x3 : Value) : Only S V0 ((((V.setCell ⟨b, 0, none⟩ x0).setCell ⟨b, 1, none⟩ x1).setCell ⟨b, 2, none⟩ x2).setCell ⟨b, 3, none⟩ x3) :=
  (((h.setCell (p := ⟨b, 0, none⟩) hb _).setCell (p := ⟨b, 1, none⟩) hb _).setCell (p := ⟨b, 2, none⟩) hb _).setCell (p := ⟨b, 3, none⟩) hb _
theorem clsRes (W : World) (b : Nat) (u0 u1 u2 u3 : Value) (tmps : Array Value) (ht : tmps[4]? = some (.pointer (some ⟨b, 0, none⟩))) (hb : W.heap[b]? = some (.cells #[u0, u1, u2, u3] 78 (0, 0))) :
    (results Tryz.f49 tmps).run Tryz.prog W = .ok (.agg #[u0, u1, u2, u3]) W := by
  obtain ⟨⟨c0, c1, c2, c3⟩, -⟩ := boxC_cells hb
  simp [results, Tryz.results49, go_sem, ht, c0, c1, c2, c3]
theorem cls_fin {w W W' : World} {p : Nat} {ao : Option Addr} {cap : Nat} {L : List Tok} {c f : Int} {R0 r : List Tok} {x y : Obj} (h0 : Ahead w p ao cap L c f R0) (hA : Ahead W p ao cap L c f r) (hB : TwoBox w W p x y) {b5 : Nat} (hb5 : w.heap.size + 2 ≤ b5) (a : Clx) (z : PCls) (hz : a.pur = z) (hok : elClx.ok W (fun k => w.heap.size + 2 ≤ k ∧ k ≠ b5) a) (ho : Only (fun k => k = b5 ∨ k = w.heap.size + 1) W W') :
    ClsPost w p ao cap L c f (.ok z r) (.returned a.val) W' :=
  ⟨a, rfl, hz, elClx.move hok fun k hk hF => ⟨by omega, ho.block k hk (by omega)⟩, h0.box hA (ho.mono fun k _ (e : k = b5 ∨ k = w.heap.size + 1) => by omega), only_drop (hB.on.trans (ho.mono fun k _ (e : k = b5 ∨ k = w.heap.size + 1) => .inr (by omega)))⟩
/-- A third box, made behind the two. -/
theorem box_moved {W W' : World} {p b : Nat} {x : Obj} (h : W.heap[b]? = some x) (hp : p ≠ b) (ho : Only (fun k => k = p) W W') : W'.heap[b]? = some x := by
  rw [ho.block _ (Array.getElem?_eq_some_iff.1 h).1 (by omega)]; exact h

set_option maxHeartbeats 4000000 in
set_option maxRecDepth 100000 in
theorem clause_any {w : World} {p : Nat} {ao : Option Addr} {cap : Nat} {L : List Tok} {c f : Int} {R : List Tok} (name : Tok) (h : Ahead w p ao cap L c f R) (hname : name.good) :
    Calls Tryz.prog 49 #[.pointer (some ⟨p, 0, none⟩), tokV name] w (ClsPost w p ao cap L c f (clauseP c f name R)) := by
  have HAt0 := fun (W : World) (ha : Ahead W p ao cap L c f R) => atom_any name ha hname
  have H0 := hide h
  have hp := h.lt
  have HB := hide (TwoBox.start (w := w) hp (.cells #[.int .i64 name.k, .string name.t, .int .i64 name.n, .int .i64 name.op, .int .i64 (name.off : Int), .int .i64 (name.en : Int)] 85) (.cells #[.string ⟨#[]⟩, .slice none 0 0, .int .i64 0, .slice none 0 0] 78))
  have HA0 := hide (h.kept (below2a w (.cells #[.int .i64 name.k, .string name.t, .int .i64 name.n, .int .i64 name.op, .int .i64 (name.off : Int), .int .i64 (name.en : Int)] 85) (.cells #[.string ⟨#[]⟩, .slice none 0 0, .int .i64 0, .slice none 0 0] 78)))
  unfold tokV at HAt0 ⊢
  clear h
  cases hA : atomP c f termKs name R with
  | bad ec eo =>
    rw [show clauseP c f name R = .bad ec eo from by unfold clauseP; rw [hA]]
    rw [hA] at HAt0
    have HAt := hide HAt0
    clear HAt0 hA
    unfold ClsPost
    go_enter Tryz.func49, Tryz.ntmps49
    go_wp2_with (go_at_call 65; refine (HAt.out _ HA0.out).mono ?_; intro e w1 hq; obtain ⟨rfl, ho1⟩ := atmPost_bad hq; clear hq)
    exact ⟨rfl, rfl, only_drop (HB.out.move ho1).on⟩
  | ok a r1 =>
    rw [hA] at HAt0
    have HAt := hide HAt0
    clear HAt0
    cases hT : takeP c f [8, 9] r1 with
    | bad ec eo =>
      have HT : Hid (∀ (W : World) (g : Nat), W.heap.size = g → Ahead W p ao cap L c f r1 → Calls Tryz.prog 36 #[.pointer (some ⟨p, 0, none⟩), .slice (some ⟨g, 0, none⟩) 2 2] (W.alloc (.cells #[.int .i64 8, .int .i64 9] 3)) fun e w' => e = PEnd ec eo ∧ Below W.heap.size W w') := fun W g hg ha => hg ▸ take_lit_fail [8, 9] ha (by decide) hT
      rw [show clauseP c f name R = .bad ec eo from by unfold clauseP; rw [hA]; simp only; rw [hT]]
      clear hA hT
      unfold ClsPost
      go_enter Tryz.func49, Tryz.ntmps49
      go_wp2_with (first
        | (go_at_call 65; refine (HAt.out _ HA0.out).mono ?_; intro e w1 hq; obtain ⟨⟨ap, av, aoff, ats⟩, rfl, hpur, hok, ha1, ho1⟩ := atmPost_ok hq; clear hq; obtain ⟨xa, xc, rfl, -⟩ := (show Lst elTrm _ _ av ats from hok.2.2).shape; have HB1 := hide ((HB.out.move ho1).below (belowA w1 (.cells #[.string ap, .slice xa ats.length xc, .int .i64 aoff, .slice none 0 0] 78))); have HA1 := hide (ha1.kept (belowA w1 (.cells #[.string ap, .slice xa ats.length xc, .int .i64 aoff, .slice none 0 0] 78))); have HPu := hide hpur; have Hs1 := hide (Nat.le_trans (by simp) ho1.size : w.heap.size + 2 ≤ w1.heap.size); have HOk1 := hide (elAtx.move hok fun k hk hF => (⟨⟨by simp at hF; omega, by omega⟩, (belowA w1 (.cells #[.string ap, .slice xa ats.length xc, .int .i64 aoff, .slice none 0 0] 78)).block k hk⟩ : (w.heap.size + 2 ≤ k ∧ k ≠ w1.heap.size) ∧ _)); have HX1 := hide (heap_alloc_new w1 (.cells #[.string ap, .slice xa ats.length xc, .int .i64 aoff, .slice none 0 0] 78)); clear ha1 ho1 hpur hok HAt; unfold Atx.val)
        | (go_at_call 36; refine (HT.out _ _ (by simp) HA1.out).mono ?_; rintro e w2 ⟨rfl, hb2⟩))
      exact ⟨rfl, rfl, only_drop (HB1.out.below hb2).on⟩
    | ok s r2 =>
      have HT : Hid (∀ (W : World) (g : Nat), W.heap.size = g → Ahead W p ao cap L c f r1 → Calls Tryz.prog 36 #[.pointer (some ⟨p, 0, none⟩), .slice (some ⟨g, 0, none⟩) 2 2] (W.alloc (.cells #[.int .i64 8, .int .i64 9] 3)) fun e w' => e = .returned (tokV s) ∧ Ahead w' p ao cap L c f r2 ∧ Only (fun b => b = p) W w') := fun W g hg ha => hg ▸ take_lit_good [8, 9] ha (by decide) hT
      have hfd := tok_kind (.int .i64 s.k) (.string s.t) (.int .i64 s.n) (.int .i64 s.op) (.int .i64 (s.off : Int)) (.int .i64 (s.en : Int))
      unfold tokV at HT
      by_cases h9 : s.k = 9
      · have e9 : (s.k == 9) = true := by simpa using h9
        have HBo0 := fun (W : World) (ha : Ahead W p ao cap L c f r2) => body_any ha
        cases hB : bodyP c f r2 with
        | bad ec eo =>
          rw [hB] at HBo0
          have HBo := hide HBo0
          rw [show clauseP c f name R = .bad ec eo from by unfold clauseP; rw [hA]; simp only; rw [hT]; simp only; rw [if_pos h9, hB]]
          clear hA hT hB HBo0 h9
          unfold ClsPost
          go_enter Tryz.func49, Tryz.ntmps49
          go_wp2_with (first
            | (go_at_call 65; refine (HAt.out _ HA0.out).mono ?_; intro e w1 hq; obtain ⟨⟨ap, av, aoff, ats⟩, rfl, hpur, hok, ha1, ho1⟩ := atmPost_ok hq; clear hq; obtain ⟨xa, xc, rfl, -⟩ := (show Lst elTrm _ _ av ats from hok.2.2).shape; have HB1 := hide ((HB.out.move ho1).below (belowA w1 (.cells #[.string ap, .slice xa ats.length xc, .int .i64 aoff, .slice none 0 0] 78))); have HA1 := hide (ha1.kept (belowA w1 (.cells #[.string ap, .slice xa ats.length xc, .int .i64 aoff, .slice none 0 0] 78))); have HPu := hide hpur; have Hs1 := hide (Nat.le_trans (by simp) ho1.size : w.heap.size + 2 ≤ w1.heap.size); have HOk1 := hide (elAtx.move hok fun k hk hF => (⟨⟨by simp at hF; omega, by omega⟩, (belowA w1 (.cells #[.string ap, .slice xa ats.length xc, .int .i64 aoff, .slice none 0 0] 78)).block k hk⟩ : (w.heap.size + 2 ≤ k ∧ k ≠ w1.heap.size) ∧ _)); have HX1 := hide (heap_alloc_new w1 (.cells #[.string ap, .slice xa ats.length xc, .int .i64 aoff, .slice none 0 0] 78)); clear ha1 ho1 hpur hok HAt; unfold Atx.val)
            | (go_at_call 36; refine (HT.out _ _ (by simp) HA1.out).mono ?_; rintro e w2 ⟨rfl, ha2, ho2⟩; have HA2 := hide ha2; have HB2 := hide (HB1.out.move ho2); have HX2 := hide (box_moved HX1.out (by have := HB1.out.pl; have := Hs1.out; omega) ho2); have HOk2 := hide (elAtx.move HOk1.out fun k hk hF => ⟨hF, ho2.block k hk (by have := HB1.out.pl; omega)⟩); clear ha2 ho2)
            | (go_at_call 46; refine (HBo.out _ HA2.out).mono ?_; intro e w3 hq; obtain ⟨rfl, ho3⟩ := bodyPost_bad hq; clear hq))
          exact ⟨rfl, rfl, only_drop (HB2.out.move ho3).on⟩
        | ok b r3 =>
          rw [hB] at HBo0
          have HBo := hide HBo0
          rw [show clauseP c f name R = .ok ⟨a, b⟩ r3 from by unfold clauseP; rw [hA]; simp only; rw [hT]; simp only; rw [if_pos h9, hB]]
          clear hA hT hB HBo0 h9
          unfold ClsPost
          go_enter Tryz.func49, Tryz.ntmps49
          go_wp2_with (first
            | (go_at_call 65; refine (HAt.out _ HA0.out).mono ?_; intro e w1 hq; obtain ⟨⟨ap, av, aoff, ats⟩, rfl, hpur, hok, ha1, ho1⟩ := atmPost_ok hq; clear hq; obtain ⟨xa, xc, rfl, -⟩ := (show Lst elTrm _ _ av ats from hok.2.2).shape; have HB1 := hide ((HB.out.move ho1).below (belowA w1 (.cells #[.string ap, .slice xa ats.length xc, .int .i64 aoff, .slice none 0 0] 78))); have HA1 := hide (ha1.kept (belowA w1 (.cells #[.string ap, .slice xa ats.length xc, .int .i64 aoff, .slice none 0 0] 78))); have HPu := hide hpur; have Hs1 := hide (Nat.le_trans (by simp) ho1.size : w.heap.size + 2 ≤ w1.heap.size); have HOk1 := hide (elAtx.move hok fun k hk hF => (⟨⟨by simp at hF; omega, by omega⟩, (belowA w1 (.cells #[.string ap, .slice xa ats.length xc, .int .i64 aoff, .slice none 0 0] 78)).block k hk⟩ : (w.heap.size + 2 ≤ k ∧ k ≠ w1.heap.size) ∧ _)); have HX1 := hide (heap_alloc_new w1 (.cells #[.string ap, .slice xa ats.length xc, .int .i64 aoff, .slice none 0 0] 78)); clear ha1 ho1 hpur hok HAt; unfold Atx.val)
            | (go_at_call 36; refine (HT.out _ _ (by simp) HA1.out).mono ?_; rintro e w2 ⟨rfl, ha2, ho2⟩; have HA2 := hide ha2; have HB2 := hide (HB1.out.move ho2); have HX2 := hide (box_moved HX1.out (by have := HB1.out.pl; have := Hs1.out; omega) ho2); have HOk2 := hide (elAtx.move HOk1.out fun k hk hF => ⟨hF, ho2.block k hk (by have := HB1.out.pl; omega)⟩); clear ha2 ho2)
            | (go_at_call 46; refine (HBo.out _ HA2.out).mono ?_; intro e w3 hq; obtain ⟨bv, ls, rfl, hpur3, hl3, hgr3, ha3, ho3⟩ := bodyPost_ok hq; clear hq; obtain ⟨ba, bc, rfl, -⟩ := hgr3.shape; have HLs := hide (hgr3.new (by omega)); have HP3 := hide hpur3; have HA3 := hide ha3; have HB3 := hide (HB2.out.move ho3); have HX3 := hide (box_moved HX2.out (by have := HB1.out.pl; have := Hs1.out; omega) ho3); have HOk3 := hide (elAtx.move HOk2.out fun k hk hF => ⟨hF, ho3.block k hk (by have := HB1.out.pl; omega)⟩); have hs2 := HB2.out.lt; have hs1 := Hs1.out; clear hpur3 hl3 hgr3 ha3 ho3; obtain ⟨⟨k0, k1, k2, k3⟩, ⟨l0, l1, l2, l3⟩⟩ := boxC_cells HX3.out; obtain ⟨⟨m0, m1, m2, m3⟩, ⟨n0, n1, n2, n3⟩⟩ := boxC_cells HB3.out.b1; have q1 : ¬ w1.heap.size = w.heap.size + 1 := (by omega); have q2 : ¬ w.heap.size + 1 = w1.heap.size := (by omega)))
          have hbk : (w3.setCell ⟨w1.heap.size, 3, none⟩ (.slice ba ls.length bc)).heap[w.heap.size + 1]? = some (.cells #[.string ⟨#[]⟩, .slice none 0 0, .int .i64 0, .slice none 0 0] 78 (0, 0)) := by
            rw [((Only.refl (fun k => k = w1.heap.size) w3).setCell (p := ⟨w1.heap.size, 3, none⟩) rfl _).block _ (Array.getElem?_eq_some_iff.1 HB3.out.b1).1 q2]; exact HB3.out.b1
          have hlt := (Array.getElem?_eq_some_iff.1 HX2.out).1
          refine bodyPost_ret (clsRes _ (w.heap.size + 1) _ _ _ _ _ rfl (boxC_put hbk _ _ _ _)) rfl ?_
          exact cls_fin H0.out HA3.out HB3.out hs1 ⟨⟨ap, _, aoff, ats⟩, .slice ba ls.length bc, ls⟩ _ (by unfold Clx.pur; rw [HPu.out, HP3.out]) ⟨HOk3.out, HLs.out.move fun k _ hF => ⟨⟨by omega, by omega⟩, rfl⟩⟩ (boxC_only ((Only.refl _ w3).setCell (p := ⟨w1.heap.size, 3, none⟩) (.inl rfl) _) _ (.inr rfl) _ _ _ _)
      · have e9 : (s.k == 9) = false := by simpa using h9
        rw [show clauseP c f name R = .ok ⟨a, []⟩ r2 from by unfold clauseP; rw [hA]; simp only; rw [hT]; simp only; rw [if_neg h9]]
        clear hA hT h9
        unfold ClsPost
        go_enter Tryz.func49, Tryz.ntmps49
        go_wp2_with (first
          | (go_at_call 65; refine (HAt.out _ HA0.out).mono ?_; intro e w1 hq; obtain ⟨⟨ap, av, aoff, ats⟩, rfl, hpur, hok, ha1, ho1⟩ := atmPost_ok hq; clear hq; obtain ⟨xa, xc, rfl, -⟩ := (show Lst elTrm _ _ av ats from hok.2.2).shape; have HB1 := hide ((HB.out.move ho1).below (belowA w1 (.cells #[.string ap, .slice xa ats.length xc, .int .i64 aoff, .slice none 0 0] 78))); have HA1 := hide (ha1.kept (belowA w1 (.cells #[.string ap, .slice xa ats.length xc, .int .i64 aoff, .slice none 0 0] 78))); have HPu := hide hpur; have Hs1 := hide (Nat.le_trans (by simp) ho1.size : w.heap.size + 2 ≤ w1.heap.size); have HOk1 := hide (elAtx.move hok fun k hk hF => (⟨⟨by simp at hF; omega, by omega⟩, (belowA w1 (.cells #[.string ap, .slice xa ats.length xc, .int .i64 aoff, .slice none 0 0] 78)).block k hk⟩ : (w.heap.size + 2 ≤ k ∧ k ≠ w1.heap.size) ∧ _)); have HX1 := hide (heap_alloc_new w1 (.cells #[.string ap, .slice xa ats.length xc, .int .i64 aoff, .slice none 0 0] 78)); clear ha1 ho1 hpur hok HAt; unfold Atx.val)
          | (go_at_call 36; refine (HT.out _ _ (by simp) HA1.out).mono ?_; rintro e w2 ⟨rfl, ha2, ho2⟩; have HA2 := hide ha2; have HB2 := hide (HB1.out.move ho2); have HX2 := hide (box_moved HX1.out (by have := HB1.out.pl; have := Hs1.out; omega) ho2); have HOk2 := hide (elAtx.move HOk1.out fun k hk hF => ⟨hF, ho2.block k hk (by have := HB1.out.pl; omega)⟩); clear ha2 ho2; have hs1 := Hs1.out; obtain ⟨⟨k0, k1, k2, k3⟩, ⟨l0, l1, l2, l3⟩⟩ := boxC_cells HX2.out; obtain ⟨⟨m0, m1, m2, m3⟩, ⟨n0, n1, n2, n3⟩⟩ := boxC_cells HB2.out.b1; have q1 : ¬ w1.heap.size = w.heap.size + 1 := (by omega); have q2 : ¬ w.heap.size + 1 = w1.heap.size := (by omega)))
        refine bodyPost_ret (clsRes _ (w.heap.size + 1) _ _ _ _ _ rfl (boxC_put HB2.out.b1 _ _ _ _)) rfl ?_
        exact cls_fin H0.out HA2.out HB2.out Hs1.out ⟨⟨ap, _, aoff, ats⟩, .slice none 0 0, []⟩ _ (by unfold Clx.pur; rw [HPu.out]; rfl) ⟨HOk2.out, Lst.nil _ _ _⟩ (boxC_only (Only.refl _ w2) _ (.inr rfl) _ _ _ _)
end Go.Proofs.YtmdhjggijlhhgaaGreatDoor

namespace Go.Proofs.YtmdhjggijlhhgaaGreatDoor
set_option linter.unusedSimpArgs false
set_option linter.unusedVariables false
open Go.RowKit

theorem Tryz.infoCls : (Tryz.prog.info? 78).map (fun i => (i.zero, i.size, i.bytes)) = some (some (.agg #[.string ⟨#[]⟩, .slice none 0 0, .int .i64 0, .slice none 0 0]), 4, 72) := by kernel_rfl

def ProgPost (w : World) (p : Nat) (ao : Option Addr) (cap : Nat) (L : List Tok) (c f : Int) (res : PR (List PCls)) (e : Ending) (w' : World) : Prop :=
  match res with
  | .bad ec eo => e = PEnd ec eo ∧ Only (fun k => k = p) w w'
  | .ok b r => ∃ v cs, e = .returned (.agg #[v]) ∧ cs.map Clx.pur = b ∧ cs.length ≤ 512 ∧ Grow elClx 78 w.heap.size w' v cs ∧ Ahead w' p ao cap L c f r ∧ Only (fun k => k = p) w w'
theorem progPost_bad {w w' : World} {p : Nat} {ao : Option Addr} {cap : Nat} {L : List Tok} {c f ec eo : Int} {e : Ending} (h : ProgPost w p ao cap L c f (.bad ec eo) e w') : e = PEnd ec eo ∧ Only (fun k => k = p) w w' := h
theorem progPost_ok {w w' : World} {p : Nat} {ao : Option Addr} {cap : Nat} {L : List Tok} {c f : Int} {x : List PCls} {r : List Tok} {e : Ending} (h : ProgPost w p ao cap L c f (.ok x r) e w') : ∃ v cs, e = .returned (.agg #[v]) ∧ cs.map Clx.pur = x ∧ cs.length ≤ 512 ∧ Grow elClx 78 w.heap.size w' v cs ∧ Ahead w' p ao cap L c f r ∧ Only (fun k => k = p) w w' := h

/-- What the loop of a program's clauses keeps in memory. -/
structure PrgAt (w wr : World) (p : Nat) (ao : Option Addr) (cap : Nat) (L : List Tok) (c f : Int) (R : List Tok) (v : Value) (cs : List Clx) : Prop where
  col : Coll3 elClx 78 w wr p ao cap L c f R (w.heap.size + 2) v cs
  b0 : wr.heap[w.heap.size]? = some (.cells #[.slice none 0 0] 42 (0, 0))
  b1 : wr.heap[w.heap.size + 1]? = some (.cells #[v] 42 (0, 0))
section
variable {w wr wr' : World} {p : Nat} {ao : Option Addr} {cap : Nat} {L : List Tok} {c f : Int} {R R' : List Tok} {v v' : Value} {cs cs' : List Clx}
theorem PrgAt.move (h : PrgAt w wr p ao cap L c f R v cs) (ho : Only (fun k => k = p) wr wr') (ha : Ahead wr' p ao cap L c f R') : PrgAt w wr' p ao cap L c f R' v cs :=
  ⟨h.col.move ho ha, box_moved h.b0 (by have := h.col.pl; omega) ho, box_moved h.b1 (by have := h.col.pl; omega) ho⟩
theorem PrgAt.below (h : PrgAt w wr p ao cap L c f R v cs) (hb : Below wr.heap.size wr wr') : PrgAt w wr' p ao cap L c f R v cs := h.move (Only.of_below hb _) (h.col.ah.kept hb)
theorem PrgAt.drew (h : PrgAt w wr p ao cap L c f R v cs) : PrgAt w wr.drew p ao cap L c f R v cs := h.below (Below.refl _ _).drew
theorem PrgAt.cells (h : PrgAt w wr p ao cap L c f R v cs) : wr.cell? ⟨w.heap.size, 0, none⟩ = some (.slice none 0 0) ∧ wr.frozen? ⟨w.heap.size, 0, none⟩ = false ∧ wr.cell? ⟨w.heap.size + 1, 0, none⟩ = some v ∧ wr.frozen? ⟨w.heap.size + 1, 0, none⟩ = false := by
  refine ⟨?_, ?_, ?_, ?_⟩ <;> simp [World.cell?, World.frozen?, h.b0, h.b1]
theorem PrgAt.far (h : PrgAt w wr p ao cap L c f R v cs) (hg : wr.grownBy wr' v.ownBlock) : wr'.heap[w.heap.size + 1]? = some (.cells #[v] 42 (0, 0)) := by
  have ho : Only (fun k => w.heap.size + 2 ≤ k) wr wr' := (Only.refl _ wr).grown hg (fun k hk _ => own_new h.col.gr.1 k hk)
  rw [ho.block _ (Array.getElem?_eq_some_iff.1 h.b1).1 (by omega)]; exact h.b1
theorem PrgAt.push (h : PrgAt w wr p ao cap L c f R v cs) (hg : wr.grownBy wr' v.ownBlock) (hG : Grow elClx 78 (w.heap.size + 2) wr' v' cs') : PrgAt w (wr'.setCell ⟨w.heap.size + 1, 0, none⟩ v') p ao cap L c f R v' cs' := by
  have hp := h.col.pl
  have hc := h.col.grown hg hG
  have ho : Only (fun k => w.heap.size + 2 ≤ k) wr wr' := (Only.refl _ wr).grown hg (fun k hk _ => own_new h.col.gr.1 k hk)
  have ho2 : Only (fun k => k = w.heap.size + 1) wr' (wr'.setCell ⟨w.heap.size + 1, 0, none⟩ v') := (Only.refl (fun k => k = w.heap.size + 1) wr').setCell (p := ⟨w.heap.size + 1, 0, none⟩) rfl _
  have hb0 : wr'.heap[w.heap.size]? = some (.cells #[.slice none 0 0] 42 (0, 0)) := by rw [ho.block _ (Array.getElem?_eq_some_iff.1 h.b0).1 (by omega)]; exact h.b0
  refine ⟨⟨?_, hc.gr.above fun b hb hlt => ho2.block b hlt (by omega), hc.on.trans (ho2.mono fun k _ (e : k = w.heap.size + 1) => .inr (by omega)), hp, hc.tk, hc.lo, Nat.le_trans hc.hi ho2.size⟩, ?_, ?_⟩
  · obtain ⟨i, q1, q2⟩ := hc.ah
    exact ⟨i, q1.only ho2 (by omega) (fun g hg hl => by have := hc.tk g hg hl; omega), q2⟩
  · rw [ho2.block _ (Array.getElem?_eq_some_iff.1 hb0).1 (by omega)]; exact hb0
  · have := h.far hg
    simp [World.setCell, Array.getElem?_modify, this]
theorem PrgAt.start (h : Ahead w p ao cap L c f R) : PrgAt w ((w.alloc (.cells #[.slice none 0 0] 42)).alloc (.cells #[.slice none 0 0] 42)) p ao cap L c f R (.slice none 0 0) [] :=
  have hb := TwoBox.start h.lt (.cells #[.slice none 0 0] 42) (.cells #[.slice none 0 0] 42)
  ⟨⟨h.kept (below2a _ _ _), Grow.nil _ _ _ _, hb.on, h.lt, h.tk, by omega, by simp⟩, hb.b0, hb.b1⟩
end
theorem prgRes (W : World) (b : Nat) (u0 : Value) (tmps : Array Value) (ht : tmps[2]? = some (.pointer (some ⟨b, 0, none⟩))) (hb : W.heap[b]? = some (.cells #[u0] 42 (0, 0))) :
    (results Tryz.f31 tmps).run Tryz.prog W = .ok (.agg #[u0]) W := by
  have c0 : W.cell? ⟨b, 0, none⟩ = some u0 := by simp [World.cell?, hb]
  simp [results, Tryz.results31, go_sem, ht, c0]

set_option maxHeartbeats 4000000 in
set_option maxRecDepth 100000 in
theorem program_any {w : World} {p : Nat} {ao : Option Addr} {cap : Nat} {L : List Tok} {c f : Int} {R : List Tok} (h : Ahead w p ao cap L c f R) :
    Calls Tryz.prog 31 #[.pointer (some ⟨p, 0, none⟩)] w (ProgPost w p ao cap L c f (progP c f R)) := by
  obtain ⟨res, hres⟩ : ∃ res, progP c f R = res := ⟨_, rfl⟩
  rw [hres]
  have HRes0 : Hid (progF c f (R.length + 1) [] R = res) := hres
  obtain ⟨Post, hPost⟩ : ∃ Post : Ending → World → Prop, Post = ProgPost w p ao cap L c f res := ⟨_, rfl⟩
  rw [← hPost]
  have PB : Hid (∀ ec eo w', res = .bad ec eo → Only (fun k => k = p) w w' → Post (PEnd ec eo) w') := fun ec eo w' hr ho => by
    rw [hPost, hr]; exact ⟨rfl, ho⟩
  have PG : Hid (∀ b r' v cs w', res = .ok b r' → cs.map Clx.pur = b → cs.length ≤ 512 → Grow elClx 78 w.heap.size w' v cs → Ahead w' p ao cap L c f r' → Only (fun k => k = p) w w' → Post (.returned (.agg #[v])) w') := fun b r' v cs w' hr h1 h2 h3 h4 h5 => by
    rw [hPost, hr]; exact ⟨v, cs, rfl, h1, h2, h3, h4, h5⟩
  have HC0 := hide (PrgAt.start h)
  have H0 := hide h
  clear hPost h hres
  go_enter Tryz.func31, Tryz.ntmps31
  go_wp2
  go_loopw [4] (fun _ wr => ∃ (n : Nat) (cs : List Clx) (R1 : List Tok) (v : Value), cs.length ≤ 512 ∧ R1.length < n ∧ Hid (PrgAt w wr p ao cap L c f R1 v cs) ∧ Hid (progF c f n (cs.map Clx.pur) R1 = res)) (fun _ wr => 70000 - (intOf ((wr.cell? ⟨p, 4, none⟩).getD undef)).toNat)
  case atStart => exact ⟨R.length + 1, [], R, _, by simp, by omega, HC0, HRes0⟩
  case round =>
    clear HC0 HRes0
    obtain ⟨n, cs, R1, v, hcs, hn, HC, HRes⟩ := hrel
    obtain ⟨n, rfl⟩ : ∃ m, n = m + 1 := ⟨n - 1, by omega⟩
    obtain ⟨va, vc, rfl, -⟩ := HC.out.col.gr.shape
    cases hT : takeP c f [1, 0] R1 with
    | bad ec eo =>
      have HT : Hid (∀ (W : World) (g : Nat), W.heap.size = g → Ahead W p ao cap L c f R1 → Calls Tryz.prog 36 #[.pointer (some ⟨p, 0, none⟩), .slice (some ⟨g, 0, none⟩) 2 2] (W.alloc (.cells #[.int .i64 1, .int .i64 0] 3)) fun e w' => e = PEnd ec eo ∧ Below W.heap.size W w') := fun W g hg ha => hg ▸ take_lit_fail [1, 0] ha (by decide) hT
      have HX : Hid (res = .bad ec eo) := by show _ = _; rw [← HRes.out]; exact prog_bad1 hT
      clear hT
      go_wp2_with (go_at_call 36; refine (HT.out _ _ rfl HC.out.col.ah).mono ?_; rintro e w1 ⟨rfl, hb1⟩)
      exact ⟨rfl, PB.out _ _ _ HX.out (HC.out.col.below hb1).end_⟩
    | ok t r1 =>
      have HT : Hid (∀ (W : World) (g : Nat), W.heap.size = g → Ahead W p ao cap L c f R1 → Calls Tryz.prog 36 #[.pointer (some ⟨p, 0, none⟩), .slice (some ⟨g, 0, none⟩) 2 2] (W.alloc (.cells #[.int .i64 1, .int .i64 0] 3)) fun e w' => e = .returned (tokV t) ∧ Ahead w' p ao cap L c f r1 ∧ Only (fun b => b = p) W w') := fun W g hg ha => hg ▸ take_lit_good [1, 0] ha (by decide) hT
      have htg : t.good := HC.out.col.ah.good t (by rw [(take_eq hT).1]; exact List.mem_cons_self)
      have l1 := take_len hT
      unfold tokV at HT
      by_cases h0 : t.k = 0
      · have e0 : (t.k == 0) = true := by simpa using h0
        have HX : Hid (res = .ok (cs.map Clx.pur) r1) := by show _ = _; rw [← HRes.out]; exact prog_end hT h0
        clear hT h0
        go_wp2_with (go_at_call 36; refine (HT.out _ _ rfl HC.out.col.ah).mono ?_; rintro e w1 ⟨rfl, ha1, ho1⟩; have HwR := hide ho1.size; have Hw1 := hide (Nat.le_trans HC.out.col.hi ho1.size); have HC1 := hide ((HC.out.move ho1 ha1).below (belowA w1 (.cells #[.int .i64 t.k, .string t.t, .int .i64 t.n, .int .i64 t.op, .int .i64 (t.off : Int), .int .i64 (t.en : Int)] 85))); clear ha1 ho1 HT; obtain ⟨q0, q1, q2, q3⟩ := HC1.out.cells)
        have hs := HC1.out.col.hi
        have ho2 : Only (fun k => k = w.heap.size) (w1.alloc (.cells #[.int .i64 t.k, .string t.t, .int .i64 t.n, .int .i64 t.op, .int .i64 (t.off : Int), .int .i64 (t.en : Int)] 85)) ((w1.alloc (.cells #[.int .i64 t.k, .string t.t, .int .i64 t.n, .int .i64 t.op, .int .i64 (t.off : Int), .int .i64 (t.en : Int)] 85)).setCell ⟨w.heap.size, 0, none⟩ (.slice va cs.length vc)) := (Only.refl (fun k => k = w.heap.size) _).setCell (p := ⟨w.heap.size, 0, none⟩) rfl _
        obtain ⟨z1, z2⟩ := fin_ahead H0.out HC1.out.col.ah HC1.out.col.on ho2 (Nat.le_refl _)
        refine bodyPost_ret (prgRes _ w.heap.size (.slice va cs.length vc) _ rfl (by have := HC1.out.b0; simp [World.setCell, Array.getElem?_modify, this])) rfl ?_
        exact PG.out _ _ _ _ _ HX.out rfl hcs ((HC1.out.col.gr.above fun b hb hlt => ho2.block b hlt (by omega)).mono (by omega)) z1 z2
      · have e0 : (t.k == 0) = false := by simpa using h0
        by_cases h512 : cs.length = 512
        · have HLm := hide (limit_eq (cs.length : Int) 512 24 (t.off : Int) (h := by omega))
          have HX : Hid (res = .bad 24 (t.off : Int)) := by show _ = _; rw [← HRes.out]; exact prog_lim hT h0 (by rw [List.length_map]; exact h512)
          clear hT h0 h512 hcs
          go_wp2_with (first
            | (go_at_call 36; refine (HT.out _ _ rfl HC.out.col.ah).mono ?_; rintro e w1 ⟨rfl, ha1, ho1⟩; have HwR := hide ho1.size; have Hw1 := hide (Nat.le_trans HC.out.col.hi ho1.size); have HC1 := hide ((HC.out.move ho1 ha1).below (belowA w1 (.cells #[.int .i64 t.k, .string t.t, .int .i64 t.n, .int .i64 t.op, .int .i64 (t.off : Int), .int .i64 (t.en : Int)] 85))); clear ha1 ho1 HT; obtain ⟨q0, q1, q2, q3⟩ := HC1.out.cells)
            | (go_at_call 44; refine (HLm.out _).mono ?_; rintro e w2 ⟨rfl, hw⟩; have hw := hw.symm; subst hw))
          exact ⟨rfl, PB.out _ _ _ HX.out HC1.out.col.end_⟩
        · have HLm := hide (limit_ok (cs.length : Int) 512 24 (t.off : Int) (h := by omega))
          have hcs5 : cs.length < 512 := by omega
          have HCl0 := fun (W : World) (ha : Ahead W p ao cap L c f r1) => clause_any t ha htg
          unfold tokV at HCl0
          cases hC : clauseP c f t r1 with
          | bad ec eo =>
            rw [hC] at HCl0
            have HCl := hide HCl0
            have HX : Hid (res = .bad ec eo) := by show _ = _; rw [← HRes.out]; exact prog_cls hT h0 (by rw [List.length_map]; exact h512) hC
            clear hT h0 h512 hC HCl0
            go_wp2_with (first
              | (go_at_call 36; refine (HT.out _ _ rfl HC.out.col.ah).mono ?_; rintro e w1 ⟨rfl, ha1, ho1⟩; have HwR := hide ho1.size; have Hw1 := hide (Nat.le_trans HC.out.col.hi ho1.size); have HC1 := hide ((HC.out.move ho1 ha1).below (belowA w1 (.cells #[.int .i64 t.k, .string t.t, .int .i64 t.n, .int .i64 t.op, .int .i64 (t.off : Int), .int .i64 (t.en : Int)] 85))); clear ha1 ho1 HT; obtain ⟨q0, q1, q2, q3⟩ := HC1.out.cells)
              | (go_at_call 44; refine (HLm.out _).mono ?_; rintro e w2 ⟨⟨v2, rfl⟩, hw⟩; have hw := hw.symm; subst hw))
            go_region_with (first
              | (go_at_call 49; refine (HCl.out _ (by first | exact HC1.out.col.ah.drew | exact HC1.out.col.ah)).mono ?_; intro e w3 hq; obtain ⟨rfl, ho3⟩ := clsPost_bad hq; clear hq; refine panic_ends (P := Tryz.prog) (w := w3) ⟨rfl, PB.out _ _ _ HX.out (by first | exact HC1.out.drew.col.endM ho3 | exact HC1.out.col.endM ho3)⟩ ?_))
            all_goals trivial
          | ok x r2 =>
            rw [hC] at HCl0
            have HCl := hide HCl0
            have l2 := clause_len hC
            have HX : Hid (progF c f n (cs.map Clx.pur ++ [x]) r2 = res) := by show _ = _; rw [← HRes.out]; exact (prog_more hT h0 (by rw [List.length_map]; exact h512) hC).symm
            have HLn : Hid (r2.length < R1.length ∧ r2.length < n) := ⟨by omega, by omega⟩
            obtain ⟨ix, isz⟩ := HC.out.col.ah.index
            have HIx := hide (And.intro ix isz)
            clear hT h0 h512 hC HCl0 l1 l2 ix isz
            go_wp2_with (first
              | (go_at_call 36; refine (HT.out _ _ rfl HC.out.col.ah).mono ?_; rintro e w1 ⟨rfl, ha1, ho1⟩; have HwR := hide ho1.size; have Hw1 := hide (Nat.le_trans HC.out.col.hi ho1.size); have HC1 := hide ((HC.out.move ho1 ha1).below (belowA w1 (.cells #[.int .i64 t.k, .string t.t, .int .i64 t.n, .int .i64 t.op, .int .i64 (t.off : Int), .int .i64 (t.en : Int)] 85))); clear ha1 ho1 HT; obtain ⟨q0, q1, q2, q3⟩ := HC1.out.cells)
              | (go_at_call 44; refine (HLm.out _).mono ?_; rintro e w2 ⟨⟨v2, rfl⟩, hw⟩; have hw := hw.symm; subst hw))
            obtain ⟨Z, hZ⟩ : ∃ Z, Z = w1.alloc (.cells #[.int .i64 t.k, .string t.t, .int .i64 t.n, .int .i64 t.op, .int .i64 (t.off : Int), .int .i64 (t.en : Int)] 85) := ⟨_, rfl⟩
            rw [← hZ] at HC1 ⊢
            have hTk : Z.heap[w1.heap.size]? = some (.cells #[.int .i64 t.k, .string t.t, .int .i64 t.n, .int .i64 t.op, .int .i64 (t.off : Int), .int .i64 (t.en : Int)] 85 (0, 0)) := by rw [hZ]; exact heap_alloc_new w1 _
            have hw1 : w.heap.size + 2 ≤ w1.heap.size := Hw1.out
            have HSof : Hid (∀ V : World, V.heap[w.heap.size + 1]? = some (.cells #[.slice va cs.length vc] 42 (0, 0)) → V.heap[w1.heap.size]? = some (.cells #[.int .i64 t.k, .string t.t, .int .i64 t.n, .int .i64 t.op, .int .i64 (t.off : Int), .int .i64 (t.en : Int)] 85 (0, 0)) → V.cell? ⟨w.heap.size + 1, 0, none⟩ = some (.slice va cs.length vc) ∧ V.cell? ⟨w1.heap.size, 0, none⟩ = some (.int .i64 t.k) ∧ V.cell? ⟨w1.heap.size, 1, none⟩ = some (.string t.t) ∧ V.cell? ⟨w1.heap.size, 2, none⟩ = some (.int .i64 t.n) ∧ V.cell? ⟨w1.heap.size, 3, none⟩ = some (.int .i64 t.op) ∧ V.cell? ⟨w1.heap.size, 4, none⟩ = some (.int .i64 (t.off : Int)) ∧ V.cell? ⟨w1.heap.size, 5, none⟩ = some (.int .i64 (t.en : Int))) := fun V h1 h2 => ⟨by simp [World.cell?, h1], tok_cells h2⟩
            have HTk := hide hTk
            clear hZ
            clear q0 q1 q2 q3
            refine wp_region_last (by kernel_rfl) (fun V => V.cell? ⟨w.heap.size + 1, 0, none⟩ = some (.slice va cs.length vc) ∧ V.cell? ⟨w1.heap.size, 0, none⟩ = some (.int .i64 t.k) ∧ V.cell? ⟨w1.heap.size, 1, none⟩ = some (.string t.t) ∧ V.cell? ⟨w1.heap.size, 2, none⟩ = some (.int .i64 t.n) ∧ V.cell? ⟨w1.heap.size, 3, none⟩ = some (.int .i64 t.op) ∧ V.cell? ⟨w1.heap.size, 4, none⟩ = some (.int .i64 (t.off : Int)) ∧ V.cell? ⟨w1.heap.size, 5, none⟩ = some (.int .i64 (t.en : Int))) 8 ?_
            have HS1 := HSof.out Z.drew HC1.out.drew.b1 hTk
            refine wpAnyM_take (i := 0) (v := ?_) rfl (by kernel_rfl) (by kernel_rfl) (by kernel_rfl) (by kernel_rfl) (fun _ _ _ h => h) HS1 (Or.inl ⟨by rfl, ?_⟩) ?_
            rotate_left
            · (intro w hSw; (try dsimp only at hSw); go_simp; try with_reducible rfl)
            simp only [Act.put, List.setIfInBounds_toArray, List.set_cons_zero, List.set_cons_succ]
            refine wpAnyM_take (i := 1) (v := ?_) rfl (by kernel_rfl) (by kernel_rfl) (by kernel_rfl) (by kernel_rfl) (fun _ _ _ h => h) HS1 (Or.inl ⟨by rfl, ?_⟩) ?_
            rotate_left
            · (intro w hSw; (try dsimp only at hSw); go_simp; try with_reducible rfl)
            simp only [Act.put, List.setIfInBounds_toArray, List.set_cons_zero, List.set_cons_succ]
            refine wpAnyM_take (i := 2) (v := ?_) rfl (by kernel_rfl) (by kernel_rfl) (by kernel_rfl) (by kernel_rfl) (fun _ _ _ h => h) HS1 (Or.inl ⟨by rfl, ?_⟩) ?_
            rotate_left
            · (intro w hSw; (try dsimp only at hSw); go_simp; try with_reducible rfl)
            simp only [Act.put, List.setIfInBounds_toArray, List.set_cons_zero, List.set_cons_succ]
            refine wpAnyM_take (i := 3) (v := ?_) rfl (by kernel_rfl) (by kernel_rfl) (by kernel_rfl) (by kernel_rfl) (fun _ _ _ h => h) HS1 (Or.inl ⟨by rfl, ?_⟩) ?_
            rotate_left
            · (intro w hSw; (try dsimp only at hSw); go_simp; try with_reducible rfl)
            simp only [Act.put, List.setIfInBounds_toArray, List.set_cons_zero, List.set_cons_succ]
            refine wpAnyM_one (i := 4) (by kernel_rfl) rfl (fun K hK => ?_)
            go_simp
            refine (HCl.out _ HC1.out.drew.col.ah).mono ?_
            intro e w3 hq
            obtain ⟨⟨⟨ap, av, aoff, ats⟩, bv, ls⟩, rfl, hpur, hok, ha3, ho3⟩ := clsPost_ok hq
            clear hq
            obtain ⟨xa, xc, rfl, -⟩ := (show Lst elTrm _ _ av ats from hok.1.2.2).shape
            obtain ⟨ba, bc, rfl, -⟩ := (show Lst elLix _ _ bv ls from hok.2).shape
            have HC3 := hide (HC1.out.drew.move ho3 ha3)
            have HOk3 := HC1.out.drew.col.gr.behind HC1.out.drew.col.hi elClx hok
            have hTk3 : w3.heap[w1.heap.size]? = some (.cells #[.int .i64 t.k, .string t.t, .int .i64 t.n, .int .i64 t.op, .int .i64 (t.off : Int), .int .i64 (t.en : Int)] 85 (0, 0)) := box_moved (W := Z.drew) hTk (by have := HC1.out.col.pl; omega) ho3
            have HPu := hide hpur
            have HOk4 := hide (elClx.move HOk3 fun b hlt hF => ⟨hF, (belowA w3 (.cells #[.string ap, .slice xa ats.length xc, .int .i64 aoff, .slice ba ls.length bc] 78)).block b hlt⟩)
            have HC4 := hide (HC3.out.below (belowA w3 (.cells #[.string ap, .slice xa ats.length xc, .int .i64 aoff, .slice ba ls.length bc] 78)))
            have hlt3 := (Array.getElem?_eq_some_iff.1 hTk3).1
            have hTk4 : (w3.alloc (.cells #[.string ap, .slice xa ats.length xc, .int .i64 aoff, .slice ba ls.length bc] 78)).heap[w1.heap.size]? = some (.cells #[.int .i64 t.k, .string t.t, .int .i64 t.n, .int .i64 t.op, .int .i64 (t.off : Int), .int .i64 (t.en : Int)] 85 (0, 0)) := by rw [(belowA w3 (.cells #[.string ap, .slice xa ats.length xc, .int .i64 aoff, .slice ba ls.length bc] 78)).block _ hlt3]; exact hTk3
            clear hpur hok ha3 ho3 HOk3
            unfold Clx.val
            have HS3 := HSof.out w3 HC3.out.b1 hTk3
            refine hK.out _ _ HS3 (fun _ => ?_)
            clear hK K HS1
            try simp only [Act.put, List.setIfInBounds_toArray, List.set_cons_zero, List.set_cons_succ]
            refine wpAnyM_one (i := 5) (by kernel_rfl) rfl (fun K hK => ?_)
            go_simp
            have HS4 := HSof.out _ HC4.out.b1 hTk4
            refine hK.out _ _ HS4 (fun _ => ?_)
            clear hK K HS3
            refine wpAnyM_one (i := 6) (by kernel_rfl) rfl (fun K hK => ?_)
            obtain ⟨i0, hi0, hz0, hz1, hz2⟩ := info_parts Tryz.infoCls
            refine step_push (w0 := w3.alloc (.cells #[.string ap, .slice xa ats.length xc, .int .i64 aoff, .slice ba ls.length bc] 78)) elClx (by rfl) _ _ _ (by rfl) (w.heap.size + 2) 78 i0 _ 72 Tryz.underlying40 hi0 hz0 hz1 hz2 rfl (by decide) (.slice va cs.length vc) cs cs.length rfl (by rfl) HC4.out.col.gr ⟨⟨ap, .slice xa ats.length xc, aoff, ats⟩, .slice ba ls.length bc, ls⟩ w3.heap.size 1 (by rfl) (fun j u hu => new_cells (cs := #[.string ap, .slice xa ats.length xc, .int .i64 aoff, .slice ba ls.length bc]) j u hu) HOk4.out (by omega) (Below.refl _ _) HC4.out.col.hi ?_
            intro g cap' w5 HG5 HB5 HGr
            clear HB5 hi0 hz0 hz1 hz2 i0
            have hb5 := HC4.out.far HGr.out
            have hTk5 : w5.heap[w1.heap.size]? = some (.cells #[.int .i64 t.k, .string t.t, .int .i64 t.n, .int .i64 t.op, .int .i64 (t.off : Int), .int .i64 (t.en : Int)] 85 (0, 0)) := by rw [HGr.out.block w1.heap.size (by have := (belowA w3 (.cells #[.string ap, .slice xa ats.length xc, .int .i64 aoff, .slice ba ls.length bc] 78)).size; omega) (fun e => by have := own_lt6 HC.out.col.gr.1 _ e.symm; have := HwR.out; omega)]; exact hTk4
            have HS5 := HSof.out w5 hb5 hTk5
            have HC5 := hide (HC4.out.push HGr.out HG5.out)
            refine hK.out _ _ HS5 (fun _ => ?_)
            clear hK K HS4 HSof HOk4 HC4 HC3 HGr HG5
            have c5 : w5.cell? ⟨w.heap.size + 1, 0, none⟩ = some (.slice va cs.length vc) := by simp [World.cell?, hb5]
            have z5 : w5.frozen? ⟨w.heap.size + 1, 0, none⟩ = false := by simp [World.frozen?, hb5]
            clear hb5 hTk5 hTk4 hTk3 hTk hlt3
            try simp only [Act.put, List.setIfInBounds_toArray, List.set_cons_zero, List.set_cons_succ]
            refine wpAnyM_take (i := 7) (v := ?_) rfl (by kernel_rfl) (by kernel_rfl) (by kernel_rfl) (by kernel_rfl) (fun _ _ _ h => h) HS5 (Or.inl ⟨by rfl, ?_⟩) ?_
            rotate_left
            · (intro w hSw; (try dsimp only at hSw); go_simp; try with_reducible rfl)
            simp only [Act.put, List.setIfInBounds_toArray, List.set_cons_zero, List.set_cons_succ]
            clear HS5
            refine wpAnyM_end (by kernel_rfl) rfl (by kernel_rfl) (fun K hK => ?_)
            go_simp
            refine hK.out _ _ ?_
            clear hK K
            go_wp2
            go_roundw
            case rel => exact ⟨n, cs ++ [⟨⟨ap, .slice xa ats.length xc, aoff, ats⟩, .slice ba ls.length bc, ls⟩], r2, _, by simp; omega, HLn.out.2, HC5, by show _ = _; rw [List.map_append, List.map_singleton, HPu.out]; exact HX.out⟩
            case measure =>
              obtain ⟨jx, -⟩ := HC5.out.col.ah.index
              have h1 := HLn.out
              have h2 := HIx.out
              omega
end Go.Proofs.YtmdhjggijlhhgaaGreatDoor

namespace Go.Proofs.YtmdhjggijlhhgaaGreatDoor
set_option linter.unusedSimpArgs false
set_option linter.unusedVariables false
open Go.RowKit

def ReadProg (w : World) (s : ByteArray) (e : Ending) (w' : World) : Prop :=
  match progP (scanX s).2.1 ((scanX s).2.2 : Int) (scanX s).1 with
  | .bad ec eo => e = .returned (.tuple #[.agg #[.slice none 0 0], faultV ec eo]) ∧ Below w.heap.size w w'
  | .ok b _ => ∃ v cs, e = .returned (.tuple #[.agg #[v], faultV 0 0]) ∧ cs.map Clx.pur = b ∧ cs.length ≤ 512 ∧ Lst elClx w' (fun k => w.heap.size ≤ k) v cs ∧ Below w.heap.size w w'

set_option maxRecDepth 100000 in
set_option maxHeartbeats 2000000 in
theorem readProg_any (s : ByteArray) (w : World) (hl : LexLaid w) (hs : s.size ≤ 140737488351232) :
    Calls Tryz.prog 30 #[.string s, .func (.func 31) #[] #[]] w (ReadProg w s) := by
  have hmf : ∀ (fn : Fn) (first cap : Array Value) (w : World), (Instr.makeFunc fn first cap).run Tryz.prog w = .ok (.func fn first cap) w := fun _ _ _ _ => rfl
  have HSc := hide (fun (W : World) (hb : Below w.heap.size w W) => scan_any s W (hl.kept hb) hs)
  clear hl hs
  unfold faultVal at HSc
  obtain ⟨res, hres⟩ : ∃ res, progP (scanX s).2.1 ((scanX s).2.2 : Int) (scanX s).1 = res := ⟨_, rfl⟩
  obtain ⟨Post, hPost⟩ : ∃ Post : Ending → World → Prop, Post = ReadProg w s := ⟨_, rfl⟩
  rw [← hPost]
  have PB : Hid (∀ ec eo w', res = .bad ec eo → Below w.heap.size w w' → Post (.returned (.tuple #[.agg #[.slice none 0 0], .agg #[.int .i64 ec, .int .i64 0, .int .i64 eo]])) w') := fun ec eo w' hr hb => by
    rw [hPost]; unfold ReadProg; rw [hres, hr]; exact ⟨rfl, hb⟩
  have PG : Hid (∀ b r v cs w', res = .ok b r → cs.map Clx.pur = b → cs.length ≤ 512 → Lst elClx w' (fun k => w.heap.size ≤ k) v cs → Below w.heap.size w w' → Post (.returned (.tuple #[.agg #[v], .agg #[.int .i64 0, .int .i64 0, .int .i64 0]])) w') := fun b r v cs w' hr h1 h2 h3 h4 => by
    rw [hPost]; unfold ReadProg; rw [hres, hr]; exact ⟨v, cs, rfl, h1, h2, h3, h4⟩
  have HR := hide hres
  clear hPost hres
  go_enter_defers Tryz.func30, Tryz.ntmps30
  go_wp2_with (go_at_call 34; refine (HSc.out _ (below2a _ _ _)).mono ?_; rintro e w1 ⟨v, rfl, ho1, hb1⟩; obtain ⟨ao, cap, rfl⟩ := own_shape ho1; have HO1 := hide ho1; have HB1 := hide hb1; clear ho1 hb1)
  have hs1 : w.heap.size + 2 ≤ w1.heap.size := by have := HB1.out.size; simp at this; omega
  have HA := hide (scan_ahead HB1.out HO1.out (W2 := (w1.alloc (.cells #[.int .i64 (scanX s).2.1, .int .i64 0, .int .i64 ((scanX s).2.2 : Int)] 27)).alloc (.cells #[.slice ao (scanX s).1.length cap, .int .i64 (scanX s).2.1, .int .i64 0, .int .i64 ((scanX s).2.2 : Int), .int .i64 0] 82)) (below2a w1 _ _) rfl (p := w1.heap.size + 1) (by omega) (by have := heap_alloc_new (w1.alloc (.cells #[.int .i64 (scanX s).2.1, .int .i64 0, .int .i64 ((scanX s).2.2 : Int)] 27)) (.cells #[.slice ao (scanX s).1.length cap, .int .i64 (scanX s).2.1, .int .i64 0, .int .i64 ((scanX s).2.2 : Int), .int .i64 0] 82); simpa using this))
  have HP := program_any HA.out
  rw [HR.out] at HP
  have HK : Hid (∀ w2, Only (fun k => k = w1.heap.size + 1) ((w1.alloc (.cells #[.int .i64 (scanX s).2.1, .int .i64 0, .int .i64 ((scanX s).2.2 : Int)] 27)).alloc (.cells #[.slice ao (scanX s).1.length cap, .int .i64 (scanX s).2.1, .int .i64 0, .int .i64 ((scanX s).2.2 : Int), .int .i64 0] 82)) w2 → w2.heap[w.heap.size]? = some (.cells #[.slice none 0 0] 42 (0, 0)) ∧ w2.heap[w.heap.size + 1]? = some (.cells #[.int .i64 0, .int .i64 0, .int .i64 0] 27 (0, 0)) ∧ Only (fun k => w.heap.size ≤ k) w w2) := fun w2 ho => by
    have q : ∀ k, k < w.heap.size + 2 → w2.heap[k]? = ((w.alloc (.cells #[.slice none 0 0] 42)).alloc (.cells #[.int .i64 0, .int .i64 0, .int .i64 0] 27)).heap[k]? := fun k hk => by
      rw [ho.block k (by simp; omega) (by omega), (below2a w1 _ _).block k (by omega), HB1.out.block k (by simp; omega)]
    refine ⟨?_, ?_, ((Only.of_below (below2a w _ _) _).trans (Only.of_below HB1.out _)).trans ((Only.of_below (below2a w1 _ _) _).trans (ho.mono fun k _ (e : k = w1.heap.size + 1) => by omega))⟩
    · rw [q _ (by omega), (belowA (w.alloc _) _).block _ (by simp)]; exact heap_alloc_new w _
    · rw [q _ (by omega)]
      have := heap_alloc_new (w.alloc (.cells #[.slice none 0 0] 42)) (.cells #[.int .i64 0, .int .i64 0, .int .i64 0] 27)
      simpa using this
  clear HO1 HB1 HSc HR
  cases res with
  | bad ec eo =>
    refine HP.mono ?_
    intro e w2 hq
    obtain ⟨rfl, ho2⟩ := progPost_bad hq
    obtain ⟨k0, k1, k2⟩ := HK.out w2 ho2
    clear hq HP HA
    refine leaves_cons (f := 48) (args := #[.pointer (some ⟨w.heap.size + 1, 0, none⟩)]) (by simp) (by simp [go_sem]) ?_
    refine (caughtProg (w.heap.size + 1) ec eo [] w2 k1).mono ?_
    rintro e u' w3 ⟨rfl, rfl, h3, o3⟩
    have h0 : w3.heap[w.heap.size]? = some (.cells #[.slice none 0 0] 42 (0, 0)) := by rw [o3.block _ (Array.getElem?_eq_some_iff.1 k0).1 (by omega)]; exact k0
    have c0 : w3.cell? ⟨w.heap.size, 0, none⟩ = some (.slice none 0 0) := by simp [World.cell?, h0]
    obtain ⟨⟨d0, d1, d2⟩, -⟩ := fault_cells h3
    have HF := hide (PB.out ec eo w3 rfl ((k2.trans (o3.mono fun k _ (e : k = w.heap.size + 1) => by omega)).below (Nat.le_refl _) (fun k hk e => by omega)))
    clear o3 h3 h0 k0 k1 k2
    simp [Leaves, settle, results, Tryz.results30, go_sem, c0, d0, d1, d2]
    exact HF.out
  | ok b r =>
    refine HP.mono ?_
    intro e w2 hq
    obtain ⟨v, cs, rfl, hpur, hlen, hgr, ha2, ho2⟩ := progPost_ok hq
    obtain ⟨va, vc, rfl, -⟩ := hgr.shape
    obtain ⟨k0, k1, k2⟩ := HK.out w2 ho2
    have HPu := hide hpur
    have HLn := hide hlen
    have HG := hide (hgr.new (by omega))
    have HK2 := hide k2
    clear hq HP HA hpur hlen hgr ha2 ho2
    have c0 : w2.cell? ⟨w.heap.size, 0, none⟩ = some (.slice none 0 0) := by simp [World.cell?, k0]
    have z0 : w2.frozen? ⟨w.heap.size, 0, none⟩ = false := by simp [World.frozen?, k0]
    obtain ⟨⟨d0, d1, d2⟩, ⟨y0, y1, y2⟩⟩ := fault_cells k1
    go_wp2_with fail
    have hO : Only (fun k => k = w.heap.size ∨ k = w.heap.size + 1) w2 ((((w2.setCell ⟨w.heap.size, 0, none⟩ (.slice va cs.length vc)).setCell ⟨w.heap.size + 1, 0, none⟩ (.int .i64 0)).setCell ⟨w.heap.size + 1, 1, none⟩ (.int .i64 0)).setCell ⟨w.heap.size + 1, 2, none⟩ (.int .i64 0)) := ((((Only.refl (fun k => k = w.heap.size ∨ k = w.heap.size + 1) w2).setCell (p := ⟨w.heap.size, 0, none⟩) (.inl rfl) _).setCell (p := ⟨w.heap.size + 1, 0, none⟩) (.inr rfl) _).setCell (p := ⟨w.heap.size + 1, 1, none⟩) (.inr rfl) _).setCell (p := ⟨w.heap.size + 1, 2, none⟩) (.inr rfl) _
    have hV0 : ((((w2.setCell ⟨w.heap.size, 0, none⟩ (.slice va cs.length vc)).setCell ⟨w.heap.size + 1, 0, none⟩ (.int .i64 0)).setCell ⟨w.heap.size + 1, 1, none⟩ (.int .i64 0)).setCell ⟨w.heap.size + 1, 2, none⟩ (.int .i64 0)).heap[w.heap.size]? = some (.cells #[.slice va cs.length vc] 42 (0, 0)) := by simp [World.setCell, Array.getElem?_modify, k0]
    have hV1 : ((((w2.setCell ⟨w.heap.size, 0, none⟩ (.slice va cs.length vc)).setCell ⟨w.heap.size + 1, 0, none⟩ (.int .i64 0)).setCell ⟨w.heap.size + 1, 1, none⟩ (.int .i64 0)).setCell ⟨w.heap.size + 1, 2, none⟩ (.int .i64 0)).heap[w.heap.size + 1]? = some (.cells #[.int .i64 0, .int .i64 0, .int .i64 0] 27 (0, 0)) := by simp [World.setCell, Array.getElem?_modify, k1]
    generalize (((w2.setCell ⟨w.heap.size, 0, none⟩ (.slice va cs.length vc)).setCell ⟨w.heap.size + 1, 0, none⟩ (.int .i64 0)).setCell ⟨w.heap.size + 1, 1, none⟩ (.int .i64 0)).setCell ⟨w.heap.size + 1, 2, none⟩ (.int .i64 0) = V at hO hV0 hV1 ⊢
    clear c0 z0 d0 d1 d2 y0 y1 y2 k0 k1
    refine leaves_cons (f := 48) (args := #[.pointer (some ⟨w.heap.size + 1, 0, none⟩)]) (by simp) (by simp [go_sem]) ?_
    refine (idleProg ⟨w.heap.size + 1, 0, none⟩ V).mono ?_
    rintro e u' w3 ⟨rfl, rfl, hw⟩
    have hw := hw.symm
    subst hw
    have c0 : V.cell? ⟨w.heap.size, 0, none⟩ = some (.slice va cs.length vc) := by simp [World.cell?, hV0]
    obtain ⟨⟨d0, d1, d2⟩, -⟩ := fault_cells hV1
    have HF := hide (PG.out b r (.slice va cs.length vc) cs V rfl HPu.out HLn.out (HG.out.move fun k hk hF => ⟨by simp at hF; omega, hO.block k hk (by simp at hF; omega)⟩) ((HK2.out.trans (hO.mono fun k _ (e : k = w.heap.size ∨ k = w.heap.size + 1) => by omega)).below (Nat.le_refl _) (fun k hk e => by omega)))
    clear hO hV0 hV1
    simp [Leaves, settle, results, Tryz.results30, go_sem, c0, d0, d1, d2]
    exact HF.out
end Go.Proofs.YtmdhjggijlhhgaaGreatDoor
