/- The law's own sameAtom at equal atoms. The law's own sameAtoms at equal lists of atoms. The law's own sameBody at equal lists of literals. ParseMakesQuery: a body that the maker puts is read as just that body. -/
import Derived.Test.YtilckhdaijfddaaDoorProg
import Derived.Test.YtilckhdaijfddaaDoorForms
import Derived.Test.YtilckhdaijfddaaDoorOver
import Derived.Test.YtilckhdaijfddaaDoorParseLit
import Derived.Test.YtilckhdaijfddaaDoorParseAtom
import Derived.Test.YtilckhdaijfddaaDoorParseLiteral
import Derived.Deep.RegionHeld3
import Derived.Deep.DeepCutAuto
import Derived.Test.YtilckhdaijfddaaDoorPkM6

namespace Go.Proofs.YtilckhdaijfddaaDoor
set_option linter.unusedSimpArgs false
set_option linter.unusedVariables false
open Go.RowKit

theorem neqTrmSame (a : Trm) (w : World) : (binOp .neq 73 (.agg #[.int .i64 a.k, .int .i64 a.n, .string a.s, .int .i64 a.off]) (.agg #[.int .i64 a.k, .int .i64 a.n, .string a.s, .int .i64 a.off])).run Tryd.prog w = .ok (.bool false) w := by
  have h1 := run_equalIn_struct (P := Tryd.prog) w 9999 73 #[.int .i64 a.k, .int .i64 a.n, .string a.s, .int .i64 a.off] #[.int .i64 a.k, .int .i64 a.n, .string a.s, .int .i64 a.off] (by kernel_rfl) (by kernel_rfl)
  simp only [binOp]
  simp only [Op.equal, Op.maxDepth, Sem.run_bind]
  go_simp

set_option maxRecDepth 100000 in
set_option maxHeartbeats 1000000 in
theorem sameAtom_any {w : World} {F G : Nat → Prop} (pr : ByteArray) (off : Int) (ts : List Trm) (v1 v2 : Value) (h1 : Lst elTrm w F v1 ts) (h2 : Lst elTrm w G v2 ts) :
    Calls Tryd.prog 26 #[.agg #[.string pr, v1, .int .i64 off], .agg #[.string pr, v2, .int .i64 off]] w fun e w' => e = .returned (.bool true) ∧ Below w.heap.size w w' := by
  obtain ⟨a1, c1, rfl, -, -, hlen⟩ := h1.shape
  obtain ⟨a2, c2, rfl, -⟩ := h2.shape
  have HH1 := hide h1
  have HH2 := hide h2
  clear h1 h2
  have hq : (off != off) = false := by simp
  have hps : (pr.toList != pr.toList) = false := by simp
  go_enter Tryd.func26, Tryd.ntmps26
  go_wp2
  obtain ⟨Y, hY⟩ : ∃ Y, Y = (w.alloc (.cells #[.string pr, .slice a1 ts.length c1, .int .i64 off] 32)).alloc (.cells #[.string pr, .slice a2 ts.length c2, .int .i64 off] 32) := ⟨_, rfl⟩
  have HB0 : Hid (Below w.heap.size w Y) := by rw [hY]; exact below2a _ _ _
  have HP : Hid (Y.cell? ⟨w.heap.size, 1, none⟩ = some (.slice a1 ts.length c1) ∧ Y.cell? ⟨w.heap.size + 1, 1, none⟩ = some (.slice a2 ts.length c2)) := by
    show _ ∧ _
    rw [hY]
    constructor <;> simp
  rw [← hY]
  clear hY
  go_loopw [30] (fun i wl => ∃ k : Nat, k ≤ ts.length ∧ i = .int .i64 k ∧ Hid (Below Y.heap.size Y wl)) (fun i _ => ts.length - (intOf i).toNat)
  case atStart => exact ⟨0, by omega, rfl, Below.refl _ _⟩
  case round =>
    obtain ⟨k, hk, rfl, HB⟩ := hrel
    have HBw := hide (HB0.out.trans (HB.out.mono HB0.out.size))
    have p1 := kept_cell HB.out HP.out.1
    have p2 := kept_cell HB.out HP.out.2
    by_cases hlt : k < ts.length
    · have hi : (k : Int) < (ts.length : Int) := by omega
      have hi0 : (0 : Int) ≤ (k : Int) := by omega
      obtain ⟨b1, o1, rfl, -, -, hr1⟩ := HH1.out.row (by omega)
      obtain ⟨b2, o2, rfl, -, -, hr2⟩ := HH2.out.row (by omega)
      obtain ⟨x, hx⟩ : ∃ x, ts[k]? = some x := ⟨_, List.getElem?_eq_getElem hlt⟩
      have x0 := over_cell (kept_cell HBw.out (hr1 k x hx 0 _ rfl))
      have x1 := over_cell (kept_cell HBw.out (hr1 k x hx 1 _ rfl))
      have x2 := over_cell (kept_cell HBw.out (hr1 k x hx 2 _ rfl))
      have x3 := over_cell (kept_cell HBw.out (hr1 k x hx 3 _ rfl))
      have y0 := over_cell (kept_cell HBw.out (hr2 k x hx 0 _ rfl))
      have y1 := over_cell (kept_cell HBw.out (hr2 k x hx 1 _ rfl))
      have y2 := over_cell (kept_cell HBw.out (hr2 k x hx 2 _ rfl))
      have y3 := over_cell (kept_cell HBw.out (hr2 k x hx 3 _ rfl))
      simp only [elTrm, Nat.add_zero] at x0 x1 x2 x3 y0 y1 y2 y3
      have hs := neqTrmSame x
      clear hr1 hr2 hx
      go_wp2
      refine wp_region_over (fun W => W = wr) (by kernel_rfl) (by kernel_rfl) rfl ?_
      rintro W rfl
      have p1' := over_cell p1
      have p2' := over_cell p2
      clear p1 p2
      repeat (go_big_quiet_step (first | fail))
      refine wpQuiet_nil ?_
      rintro _ ⟨z, rfl⟩
      have HB3 := hide (HB.out.trans ((over_below W z).mono HB.out.size))
      clear x0 x1 x2 x3 y0 y1 y2 y3 p1' p2'
      go_wp2
      go_roundw
      case rel => exact ⟨k + 1, by omega, by go_num, HB3⟩
      case measure => simp [intOf]; omega
    · obtain rfl : k = ts.length := by omega
      have hi : ¬ (ts.length : Int) < (ts.length : Int) := by omega
      go_wp2
      go_ret
      exact ⟨rfl, HBw.out⟩

end Go.Proofs.YtilckhdaijfddaaDoor

namespace Go.Proofs.YtilckhdaijfddaaDoor
set_option linter.unusedSimpArgs false
set_option linter.unusedVariables false
open Go.RowKit

theorem pur_at {α β : Type} {f : α → β} {l m : List α} (h : l.map f = m.map f) {k : Nat} {x y : α} (hx : l[k]? = some x) (hy : m[k]? = some y) : f x = f y := by
  have e := congrArg (fun z => z[k]?) h
  simp only [List.getElem?_map, hx, hy, Option.map_some, Option.some.injEq] at e
  exact e
set_option maxRecDepth 100000 in
set_option maxHeartbeats 2000000 in
theorem sameAtoms_any {w : World} {F G : Nat → Prop} {v1 v2 : Value} {l m : List Atx} (h1 : Lst elAtx w F v1 l) (h2 : Lst elAtx w G v2 m) (hp : l.map Atx.pur = m.map Atx.pur) :
    Calls Tryd.prog 12 #[v1, v2] w fun e w' => e = .returned (.bool true) ∧ Below w.heap.size w w' := by
  obtain ⟨a1, c1, rfl, -, -, hl1⟩ := h1.shape
  obtain ⟨a2, c2, rfl, -, -, hl2⟩ := h2.shape
  have hl : l.length = m.length := by have := congrArg List.length hp; simpa using this
  have H1 := hide h1.all
  have H2 := hide h2.all
  have HP := hide hp
  have HE := hide hl
  obtain ⟨n, hn⟩ : ∃ n, n = l.length := ⟨_, rfl⟩
  rw [← hl, ← hn]
  rw [← hn] at hl1
  rw [← hl] at H2
  rw [← hn] at H1 H2
  have HN := hide hn
  clear h1 h2 hp hl hl2 hn
  have hnn : ((n : Int) != (n : Int)) = false := by simp
  go_enter Tryd.func12, Tryd.ntmps12
  go_wp2
  go_loopw [13] (fun i wl => ∃ k : Nat, k ≤ n ∧ i = .int .i64 k ∧ Hid (Below w.heap.size w wl)) (fun i _ => n - (intOf i).toNat)
  case atStart => exact ⟨0, by omega, rfl, Below.refl _ _⟩
  case round =>
    obtain ⟨k, hk, rfl, HB⟩ := hrel
    by_cases hlt : k < n
    · have hi : (k : Int) < (n : Int) := by omega
      have hi0 : (0 : Int) ≤ (k : Int) := by omega
      obtain ⟨b, bo, rfl, -, -, hrow⟩ := H1.out.row (by have := HN.out; omega)
      obtain ⟨c, co, rfl, -, -, krow⟩ := H2.out.row (by have := HN.out; have := HE.out; omega)
      obtain ⟨x, hx⟩ : ∃ x, l[k]? = some x := ⟨_, List.getElem?_eq_getElem (by have := HN.out; omega)⟩
      obtain ⟨y, hy⟩ : ∃ y, m[k]? = some y := ⟨_, List.getElem?_eq_getElem (by have := HN.out; have := HE.out; omega)⟩
      have hpq := pur_at HP.out hx hy
      have x0 := over_cell (kept_cell HB.out (hrow k _ hx 0 _ rfl))
      have x1 := over_cell (kept_cell HB.out (hrow k _ hx 1 _ rfl))
      have x2 := over_cell (kept_cell HB.out (hrow k _ hx 2 _ rfl))
      have y0 := over_cell (kept_cell HB.out (krow k _ hy 0 _ rfl))
      have y1 := over_cell (kept_cell HB.out (krow k _ hy 1 _ rfl))
      have y2 := over_cell (kept_cell HB.out (krow k _ hy 2 _ rfl))
      have hxo := H1.out.ok (List.mem_of_getElem? hx)
      have hyo := H2.out.ok (List.mem_of_getElem? hy)
      obtain ⟨xp, xv, xoff, xts⟩ := x
      obtain ⟨yp, yv, yoff, yts⟩ := y
      simp only [elAtx, Nat.add_zero] at x0 x1 x2 y0 y1 y2
      simp only [Atx.pur, PAtom.mk.injEq] at hpq
      obtain ⟨rfl, rfl, rfl⟩ := hpq
      have HS := hide (fun x => sameAtom_any xp xoff xts xv yv (((show Lst elTrm w (fun _ => True) xv xts from hxo.2.2).kept HB.out).kept (over_below _ x)) (((show Lst elTrm w (fun _ => True) yv xts from hyo.2.2).kept HB.out).kept (over_below _ x)))
      obtain ⟨xa, xc, rfl, -⟩ := (show Lst elTrm w (fun _ => True) xv xts from hxo.2.2).shape
      obtain ⟨ya, yc, rfl, -⟩ := (show Lst elTrm w (fun _ => True) yv xts from hyo.2.2).shape
      clear hrow hx krow hy hxo hyo
      go_wp2
      refine wp_region_over (fun W => W = wr) (by kernel_rfl) (by kernel_rfl) rfl ?_
      rintro W rfl
      repeat (go_big_quiet_step (first | (go_at_call 26; exact calls_over (HS.out _))))
      refine wpQuiet_nil ?_
      rintro _ ⟨z, rfl⟩
      have HB3 := hide (HB.out.trans ((over_below W z).mono HB.out.size))
      clear x0 x1 x2 y0 y1 y2 HS
      go_wp2
      go_roundw
      case rel => exact ⟨k + 1, by omega, by go_num, HB3⟩
      case measure => simp [intOf]; omega
    · obtain rfl : k = n := by omega
      have hi : ¬ (k : Int) < (k : Int) := by omega
      go_wp2
      go_ret
      exact ⟨rfl, HB.out⟩
end Go.Proofs.YtilckhdaijfddaaDoor

namespace Go.Proofs.YtilckhdaijfddaaDoor
set_option linter.unusedSimpArgs false
set_option linter.unusedVariables false
open Go.RowKit

theorem bx_first (w : World) (x y : Obj) : ((w.alloc x).alloc y).drew.heap[w.heap.size]? = some x := by
  show ((w.alloc x).alloc y).heap[w.heap.size]? = some x
  rw [(belowA (w.alloc x) y).block _ (by simp)]; exact heap_alloc_new w _
theorem bx_second (w : World) (x y : Obj) : ((w.alloc x).alloc y).drew.heap[w.heap.size + 1]? = some y := by
  have := heap_alloc_new (w.alloc x) y
  show ((w.alloc x).alloc y).heap[w.heap.size + 1]? = some y
  simpa using this
set_option maxRecDepth 100000 in
set_option maxHeartbeats 8000000 in
theorem sameBody_any {w : World} {F G : Nat → Prop} {v1 v2 : Value} {l m : List Lix} (h1 : Lst elLix w F v1 l) (h2 : Lst elLix w G v2 m) (hp : l.map Lix.pur = m.map Lix.pur) :
    Calls Tryd.prog 17 #[v1, v2] w fun e w' => e = .returned (.bool true) ∧ Below w.heap.size w w' := by
  obtain ⟨a1, c1, rfl, -, -, hl1⟩ := h1.shape
  obtain ⟨a2, c2, rfl, -, -, hl2⟩ := h2.shape
  have hl : l.length = m.length := by have := congrArg List.length hp; simpa using this
  have H1 := hide h1.all
  have H2 := hide h2.all
  have HP := hide hp
  have HE := hide hl
  obtain ⟨n, hn⟩ : ∃ n, n = l.length := ⟨_, rfl⟩
  rw [← hl, ← hn]
  rw [← hn] at hl1
  rw [← hl] at H2
  rw [← hn] at H1 H2
  have HN := hide hn
  clear h1 h2 hp hl hl2 hn
  have hnn : ((n : Int) != (n : Int)) = false := by simp
  go_enter Tryd.func17, Tryd.ntmps17
  go_wp2
  go_loopw [15] (fun i wl => ∃ k : Nat, k ≤ n ∧ i = .int .i64 k ∧ Hid (Below w.heap.size w wl)) (fun i _ => n - (intOf i).toNat)
  case atStart => exact ⟨0, by omega, rfl, Below.refl _ _⟩
  case round =>
    obtain ⟨k, hk, rfl, HB⟩ := hrel
    by_cases hlt : k < n
    · have hi : (k : Int) < (n : Int) := by omega
      have hi0 : (0 : Int) ≤ (k : Int) := by omega
      obtain ⟨b, bo, rfl, -, -, hrow⟩ := (H1.out.kept HB.out).row (by have := HN.out; omega)
      obtain ⟨c, co, rfl, -, -, krow⟩ := (H2.out.kept HB.out).row (by have := HN.out; have := HE.out; omega)
      obtain ⟨x, hx⟩ : ∃ x, l[k]? = some x := ⟨_, List.getElem?_eq_getElem (by have := HN.out; omega)⟩
      obtain ⟨y, hy⟩ : ∃ y, m[k]? = some y := ⟨_, List.getElem?_eq_getElem (by have := HN.out; have := HE.out; omega)⟩
      have hpq := pur_at HP.out hx hy
      have x0 := hrow k _ hx 0 _ rfl
      have x1 := hrow k _ hx 1 _ rfl
      have x2 := hrow k _ hx 2 _ rfl
      have x3 := hrow k _ hx 3 _ rfl
      have x4 := hrow k _ hx 4 _ rfl
      have x5 := hrow k _ hx 5 _ rfl
      have x6 := hrow k _ hx 6 _ rfl
      have x7 := hrow k _ hx 7 _ rfl
      have x8 := hrow k _ hx 8 _ rfl
      have x9 := hrow k _ hx 9 _ rfl
      have x10 := hrow k _ hx 10 _ rfl
      have x11 := hrow k _ hx 11 _ rfl
      have x12 := hrow k _ hx 12 _ rfl
      have x13 := hrow k _ hx 13 _ rfl
      have y0 := krow k _ hy 0 _ rfl
      have y1 := krow k _ hy 1 _ rfl
      have y2 := krow k _ hy 2 _ rfl
      have y3 := krow k _ hy 3 _ rfl
      have y4 := krow k _ hy 4 _ rfl
      have y5 := krow k _ hy 5 _ rfl
      have y6 := krow k _ hy 6 _ rfl
      have y7 := krow k _ hy 7 _ rfl
      have y8 := krow k _ hy 8 _ rfl
      have y9 := krow k _ hy 9 _ rfl
      have y10 := krow k _ hy 10 _ rfl
      have y11 := krow k _ hy 11 _ rfl
      have y12 := krow k _ hy 12 _ rfl
      have y13 := krow k _ hy 13 _ rfl
      have hxo := H1.out.ok (List.mem_of_getElem? hx)
      have hyo := H2.out.ok (List.mem_of_getElem? hy)
      obtain ⟨lk, ⟨ap, av, aoff, ats⟩, lop, ll, lr, loff⟩ := x
      obtain ⟨yk, ⟨yp, yv, yoff, yts⟩, yop, yl, yr, yof⟩ := y
      simp only [elLix, Nat.add_zero] at x0 x1 x2 x3 x4 x5 x6 x7 x8 x9 x10 x11 x12 x13 y0 y1 y2 y3 y4 y5 y6 y7 y8 y9 y10 y11 y12 y13
      simp only [Lix.pur, Atx.pur, PLit.mk.injEq, PAtom.mk.injEq] at hpq
      obtain ⟨rfl, ⟨rfl, rfl, rfl⟩, rfl, rfl, rfl, rfl⟩ := hpq
      have HS := hide (fun W (hb : Below wr.heap.size wr W) => sameAtom_any ap aoff ats av yv (((show Lst elTrm w (fun _ => True) av ats from hxo.2.1.2.2).kept HB.out).kept hb) (((show Lst elTrm w (fun _ => True) yv ats from hyo.2.1.2.2).kept HB.out).kept hb))
      obtain ⟨xa, xc, rfl, -⟩ := (show Lst elTrm w (fun _ => True) av ats from hxo.2.1.2.2).shape
      obtain ⟨ya, yc, rfl, -⟩ := (show Lst elTrm w (fun _ => True) yv ats from hyo.2.1.2.2).shape
      have HSc : Hid (∀ V : World, Below wr.heap.size wr V → V.cell? ⟨b, bo + k * 14, none⟩ = some (.int .i64 lk) ∧ V.cell? ⟨b, bo + k * 14 + 1, none⟩ = some (.string ap) ∧ V.cell? ⟨b, bo + k * 14 + 2, none⟩ = some (.slice xa ats.length xc) ∧ V.cell? ⟨b, bo + k * 14 + 3, none⟩ = some (.int .i64 aoff) ∧ V.cell? ⟨b, bo + k * 14 + 4, none⟩ = some (.int .i64 lop) ∧ V.cell? ⟨b, bo + k * 14 + 5, none⟩ = some (.int .i64 ll.k) ∧ V.cell? ⟨b, bo + k * 14 + 6, none⟩ = some (.int .i64 ll.n) ∧ V.cell? ⟨b, bo + k * 14 + 7, none⟩ = some (.string ll.s) ∧ V.cell? ⟨b, bo + k * 14 + 8, none⟩ = some (.int .i64 ll.off) ∧ V.cell? ⟨b, bo + k * 14 + 9, none⟩ = some (.int .i64 lr.k) ∧ V.cell? ⟨b, bo + k * 14 + 10, none⟩ = some (.int .i64 lr.n) ∧ V.cell? ⟨b, bo + k * 14 + 11, none⟩ = some (.string lr.s) ∧ V.cell? ⟨b, bo + k * 14 + 12, none⟩ = some (.int .i64 lr.off) ∧ V.cell? ⟨b, bo + k * 14 + 13, none⟩ = some (.int .i64 loff) ∧ V.cell? ⟨c, co + k * 14, none⟩ = some (.int .i64 lk) ∧ V.cell? ⟨c, co + k * 14 + 1, none⟩ = some (.string ap) ∧ V.cell? ⟨c, co + k * 14 + 2, none⟩ = some (.slice ya ats.length yc) ∧ V.cell? ⟨c, co + k * 14 + 3, none⟩ = some (.int .i64 aoff) ∧ V.cell? ⟨c, co + k * 14 + 4, none⟩ = some (.int .i64 lop) ∧ V.cell? ⟨c, co + k * 14 + 5, none⟩ = some (.int .i64 ll.k) ∧ V.cell? ⟨c, co + k * 14 + 6, none⟩ = some (.int .i64 ll.n) ∧ V.cell? ⟨c, co + k * 14 + 7, none⟩ = some (.string ll.s) ∧ V.cell? ⟨c, co + k * 14 + 8, none⟩ = some (.int .i64 ll.off) ∧ V.cell? ⟨c, co + k * 14 + 9, none⟩ = some (.int .i64 lr.k) ∧ V.cell? ⟨c, co + k * 14 + 10, none⟩ = some (.int .i64 lr.n) ∧ V.cell? ⟨c, co + k * 14 + 11, none⟩ = some (.string lr.s) ∧ V.cell? ⟨c, co + k * 14 + 12, none⟩ = some (.int .i64 lr.off) ∧ V.cell? ⟨c, co + k * 14 + 13, none⟩ = some (.int .i64 loff)) := fun V hV => ⟨kept_cell hV x0, kept_cell hV x1, kept_cell hV x2, kept_cell hV x3, kept_cell hV x4, kept_cell hV x5, kept_cell hV x6, kept_cell hV x7, kept_cell hV x8, kept_cell hV x9, kept_cell hV x10, kept_cell hV x11, kept_cell hV x12, kept_cell hV x13, kept_cell hV y0, kept_cell hV y1, kept_cell hV y2, kept_cell hV y3, kept_cell hV y4, kept_cell hV y5, kept_cell hV y6, kept_cell hV y7, kept_cell hV y8, kept_cell hV y9, kept_cell hV y10, kept_cell hV y11, kept_cell hV y12, kept_cell hV y13⟩
      clear hrow hx krow hy hxo hyo x0 x1 x2 x3 x4 x5 x6 x7 x8 x9 x10 x11 x12 x13 y0 y1 y2 y3 y4 y5 y6 y7 y8 y9 y10 y11 y12 y13
      go_upto_region 6 with fail
      go_cut [6, 7] (fun t6 t7 wx => ∃ X Y, t6 = .pointer (some ⟨X, 0, none⟩) ∧ t7 = .pointer (some ⟨Y, 0, none⟩) ∧ Hid (wx.heap[X]? = some (.cells #[.int .i64 lk, .string ap, .slice xa ats.length xc, .int .i64 aoff, .int .i64 lop, .int .i64 ll.k, .int .i64 ll.n, .string ll.s, .int .i64 ll.off, .int .i64 lr.k, .int .i64 lr.n, .string lr.s, .int .i64 lr.off, .int .i64 loff] 86 (0, 0))) ∧ Hid (wx.heap[Y]? = some (.cells #[.int .i64 lk, .string ap, .slice ya ats.length yc, .int .i64 aoff, .int .i64 lop, .int .i64 ll.k, .int .i64 ll.n, .string ll.s, .int .i64 ll.off, .int .i64 lr.k, .int .i64 lr.n, .string lr.s, .int .i64 lr.off, .int .i64 loff] 86 (0, 0))) ∧ Hid (Below wr.heap.size wr wx))
      case first =>
        go_region_held3 (fun V => V.cell? ⟨b, bo + k * 14, none⟩ = some (.int .i64 lk) ∧ V.cell? ⟨b, bo + k * 14 + 1, none⟩ = some (.string ap) ∧ V.cell? ⟨b, bo + k * 14 + 2, none⟩ = some (.slice xa ats.length xc) ∧ V.cell? ⟨b, bo + k * 14 + 3, none⟩ = some (.int .i64 aoff) ∧ V.cell? ⟨b, bo + k * 14 + 4, none⟩ = some (.int .i64 lop) ∧ V.cell? ⟨b, bo + k * 14 + 5, none⟩ = some (.int .i64 ll.k) ∧ V.cell? ⟨b, bo + k * 14 + 6, none⟩ = some (.int .i64 ll.n) ∧ V.cell? ⟨b, bo + k * 14 + 7, none⟩ = some (.string ll.s) ∧ V.cell? ⟨b, bo + k * 14 + 8, none⟩ = some (.int .i64 ll.off) ∧ V.cell? ⟨b, bo + k * 14 + 9, none⟩ = some (.int .i64 lr.k) ∧ V.cell? ⟨b, bo + k * 14 + 10, none⟩ = some (.int .i64 lr.n) ∧ V.cell? ⟨b, bo + k * 14 + 11, none⟩ = some (.string lr.s) ∧ V.cell? ⟨b, bo + k * 14 + 12, none⟩ = some (.int .i64 lr.off) ∧ V.cell? ⟨b, bo + k * 14 + 13, none⟩ = some (.int .i64 loff) ∧ V.cell? ⟨c, co + k * 14, none⟩ = some (.int .i64 lk) ∧ V.cell? ⟨c, co + k * 14 + 1, none⟩ = some (.string ap) ∧ V.cell? ⟨c, co + k * 14 + 2, none⟩ = some (.slice ya ats.length yc) ∧ V.cell? ⟨c, co + k * 14 + 3, none⟩ = some (.int .i64 aoff) ∧ V.cell? ⟨c, co + k * 14 + 4, none⟩ = some (.int .i64 lop) ∧ V.cell? ⟨c, co + k * 14 + 5, none⟩ = some (.int .i64 ll.k) ∧ V.cell? ⟨c, co + k * 14 + 6, none⟩ = some (.int .i64 ll.n) ∧ V.cell? ⟨c, co + k * 14 + 7, none⟩ = some (.string ll.s) ∧ V.cell? ⟨c, co + k * 14 + 8, none⟩ = some (.int .i64 ll.off) ∧ V.cell? ⟨c, co + k * 14 + 9, none⟩ = some (.int .i64 lr.k) ∧ V.cell? ⟨c, co + k * 14 + 10, none⟩ = some (.int .i64 lr.n) ∧ V.cell? ⟨c, co + k * 14 + 11, none⟩ = some (.string lr.s) ∧ V.cell? ⟨c, co + k * 14 + 12, none⟩ = some (.int .i64 lr.off) ∧ V.cell? ⟨c, co + k * 14 + 13, none⟩ = some (.int .i64 loff))
          (first
            | (with_reducible exact HSc.out _ (Below.refl _ _))
            | (with_reducible exact HSc.out _ (Below.refl _ _).drew)
            | (with_reducible exact HSc.out _ (belowA _ _).drew)
            | (with_reducible exact HSc.out _ (belowA _ _))
            | (with_reducible exact HSc.out _ (below2a _ _ _).drew)
            | (with_reducible exact HSc.out _ (below2a _ _ _)))
          (fail)
        all_goals (go_wp2; go_meet)
        · exact ⟨wr.heap.size, wr.heap.size + 1, rfl, rfl, bx_first _ _ _, bx_second _ _ _, (below2a _ _ _).drew⟩
        · exact ⟨wr.heap.size + 1, wr.heap.size, rfl, rfl, bx_second _ _ _, bx_first _ _ _, (below2a _ _ _).drew⟩
      case rest =>
        obtain ⟨X, Y, rfl, rfl, HX, HY, HBx⟩ := hcut
        obtain ⟨⟨x0, x1, x2, x3, x4, x5, x6, x7, x8, x9, x10, x11, x12, x13⟩, -⟩ := boxL_cells HX.out
        obtain ⟨⟨y0, y1, y2, y3, y4, y5, y6, y7, y8, y9, y10, y11, y12, y13⟩, -⟩ := boxL_cells HY.out
        have q1 : (lk != lk) = false := by simp
        have q2 : (lop != lop) = false := by simp
        have q3 : (loff != loff) = false := by simp
        have q4 := neqTrmSame ll
        have q5 := neqTrmSame lr
        go_wp2_with (go_at_call 26; refine (HS.out _ HBx.out).mono ?_; rintro e w7 ⟨rfl, hb7⟩; have HB7 := hide (belowt2 (belowt2 HB.out HBx.out) hb7); clear hb7)
        go_roundw
        case rel => exact ⟨k + 1, by omega, by go_num, HB7⟩
        case measure => simp [intOf]; omega
    · obtain rfl : k = n := by omega
      have hi : ¬ (k : Int) < (k : Int) := by omega
      go_wp2
      go_ret
      exact ⟨rfl, HB.out⟩
end Go.Proofs.YtilckhdaijfddaaDoor

namespace Go.Proofs.YtilckhdaijfddaaDoor
set_option linter.unusedSimpArgs false
set_option linter.unusedVariables false
open Go.RowKit

theorem fn_zeroQ (w : World) : (binOp .neq 45 (.agg #[.int .i64 0, .int .i64 0, .int .i64 0]) (.agg #[.int .i64 0, .int .i64 0, .int .i64 0])).run Tryd.prog w = .ok (.bool false) w := by
  have h1 := run_equalIn_struct (P := Tryd.prog) w 9999 45 #[.int .i64 0, .int .i64 0, .int .i64 0] #[.int .i64 0, .int .i64 0, .int .i64 0] (by kernel_rfl) (by kernel_rfl)
  simp only [binOp]
  simp only [Op.equal, Op.maxDepth, Sem.run_bind]
  go_simp
theorem in_cells {V : World} {b : Nat} {u0 u1 : Value} (h : V.heap[b]? = some (.cells #[u0, u1] 25 (0, 0))) : V.cell? ⟨b, 0, none⟩ = some u0 ∧ V.cell? ⟨b, 1, none⟩ = some u1 := by
  refine ⟨?_, ?_⟩ <;> simp [World.cell?, h]

set_option maxRecDepth 100000 in
set_option maxHeartbeats 8000000 in
theorem parseMakesQuery_walk (ca : Option Addr) (cn cc : Nat) (ga : Option Addr) (gn gc : Nat) (cs : List DC) (g : Nat → Int) (w : World) (hin : MkIn w ca cn ga gn cs g) (hlaid : LexLaid w ∧ ItoaOk w) :
    Calls Tryd.prog 5 #[.agg #[.slice ca cn cc, .slice ga gn gc]] w fun e w' => e = .returned (.bool true) ∧ Below w.heap.size w w' := by
  have HIn := hide hin
  have HLd := hide hlaid
  have HTk := hide (fun (W : World) (hb : Below w.heap.size w W) => taken_any W (hlaid.1.kept hb))
  clear hin hlaid
  go_enter Tryd.func5, Tryd.ntmps5
  go_wp2
  obtain ⟨W1, hW1⟩ : ∃ W1, W1 = w.alloc (.cells #[.slice ca cn cc, .slice ga gn gc] 25) := ⟨_, rfl⟩
  have HB1 : Hid (Below w.heap.size w W1) := by rw [hW1]; exact belowA _ _
  have HX1 : Hid (W1.heap[w.heap.size]? = some (.cells #[.slice ca cn cc, .slice ga gn gc] 25 (0, 0))) := by rw [hW1]; exact heap_alloc_new w _
  rw [← hW1]
  clear hW1
  go_loopw [3] (fun i wl => ∃ j : Nat, j ≤ cs.length ∧ i = .int .i64 j ∧ Hid (Below W1.heap.size W1 wl)) (fun i _ => cs.length - (intOf i).toNat)
  case atStart => exact ⟨0, by omega, rfl, Below.refl _ _⟩
  case round =>
    obtain ⟨j, hj, rfl, HBl⟩ := hrel
    have hn := HIn.out.n
    have HXl := hide (bx_kept HX1.out HBl.out)
    have HBw := hide (belowt2 HB1.out HBl.out)
    obtain ⟨k0, k1⟩ := in_cells HXl.out
    by_cases hlt : j < cs.length
    · have hi : (j : Int) < (cn : Int) := by omega
      have hi8 : (j : Int) < 40 := by omega
      have hi0 : (0 : Int) ≤ (j : Int) := by omega
      obtain ⟨c, ht⟩ : ∃ c, cs[j]? = some c := ⟨_, List.getElem?_eq_getElem hlt⟩
      obtain ⟨b3, o3, hca, hr3⟩ := HIn.out.row (by omega)
      have hct := hr3 j c ht
      have hdk := DC_ok hct
      obtain ⟨a1, l1, c1, a2, l2, c2, hh, hbd, x0, x1, x2⟩ := hct
      have y2 := kept_cell HBw.out x2
      have HBd := hide (hbd.kept HBw.out)
      have hbn := hbd.n
      clear hn hr3 ht x0 x1 x2 hh
      rw [hca] at k0
      by_cases h0 : c.b = []
      · have e2 : l2 = 0 := by rw [h0, List.length_nil] at hbn; omega
        have el : ((l2 : Int) == 0) = true := by rw [e2]; rfl
        clear e2 hbn h0 hbd hdk hca
        go_wp2
        go_roundw
        case rel => exact ⟨j + 1, by omega, by go_num, HBl⟩
        case measure => simp [intOf]; omega
      · have el : ((l2 : Int) == 0) = false := by
          have h1 := List.length_pos_iff.2 h0
          simp; omega
        have HOk := hide hdk
        have H0 := hide h0
        clear hbn h0 hbd hdk hca
        obtain ⟨E, hE⟩ : ∃ E : MkEnv, E = ⟨wr, ga, gn, gc, g⟩ := ⟨_, rfl⟩
        have HE : Hid E.ok := by rw [hE]; exact HIn.out.env HLd.out.2 HBw.out
        have HEw : Hid (E.w0 = wr) := by rw [hE]; rfl
        have HS0 : Hid (MkS E (wr.alloc (.cells #[.string ⟨#[]⟩, .slice ga gn gc, .int .i64 0] 28)) wr.heap.size ⟨[], 0⟩) := by rw [hE]; exact mk_start wr ga gn gc g wr (Below.refl _ _)
        have HRb : Hid (RowL E.w0 a2 l2 c.b) := by rw [hE]; exact HBd.out
        clear hE HBd
        have m0 := kept_cell (belowA wr (.cells #[.string ⟨#[]⟩, .slice ga gn gc, .int .i64 0] 28)) k0
        have m2 := kept_cell (belowA wr (.cells #[.string ⟨#[]⟩, .slice ga gn gc, .int .i64 0] 28)) y2
        have HBy := hide (fun (W : World) (hW : MkS E W wr.heap.size ⟨[], 0⟩) => bodyM_any HE.out hW (by show 0 < _; omega) c.b c2 HRb.out)
        obtain ⟨s1, hs1⟩ : ∃ s1, s1 = (bodyS E.G ⟨[], 0⟩ c.b).1 := ⟨_, rfl⟩
        have hk1 : s1.k ≤ 320 := by
          rw [hs1]
          have h1 := bodyS_k (G := E.G) ⟨[], 0⟩ c.b HOk.out.2.1
          have h2 := HOk.out.2.2.1
          have h3 : (⟨[], 0⟩ : St).k = 0 := rfl
          omega
        rw [← hs1] at HBy
        obtain ⟨T, hT⟩ : ∃ T : ByteArray, T = ⟨(((s1.put E.G [46]).put E.G []).b).toArray⟩ := ⟨_, rfl⟩
        have HT := hide hT
        have HQt : Hid (T.size ≤ 65536 → queryP (scanX T).2.1 ((scanX T).2.2 : Int) (scanX T).1 = .ok (bodyS E.G ⟨[], 0⟩ c.b).2 []) := fun hs => query_text H0.out HOk.out.2.1 HOk.out.2.2.2.2 HOk.out.2.2.1 (by rw [hT, hs1]) hs
        have HPa : Hid (∀ W : World, MkS E W wr.heap.size s1 → Calls Tryd.prog 9 #[.pointer (some ⟨wr.heap.size, 0, none⟩), .string ⟨#[46]⟩] W fun e w' => e = .returned (.int .i64 (s1.off E.G : Int)) ∧ MkS E w' wr.heap.size (s1.put E.G [46]) ∧ Only (fun j => j = wr.heap.size) W w') := fun W hW => put_any HE.out hW (by omega) [46] (by decide)
        have HPb : Hid (∀ W : World, MkS E W wr.heap.size (s1.put E.G [46]) → Calls Tryd.prog 9 #[.pointer (some ⟨wr.heap.size, 0, none⟩), .string ⟨#[]⟩] W fun e w' => e = .returned (.int .i64 ((s1.put E.G [46]).off E.G : Int)) ∧ MkS E w' wr.heap.size ((s1.put E.G [46]).put E.G []) ∧ Only (fun j => j = wr.heap.size) W w') := fun W hW => put_any HE.out hW (by show s1.k + 1 < _; omega) [] (by decide)
        have hzq := fn_zeroQ
        clear hT hs1
        by_cases hs : T.size ≤ 65536
        · have HQ := hide (HQt.out hs)
          have hle : decide ((T.size : Int) ≤ 65536) = true := decide_eq_true (by omega)
          have hle2 : (T.size : Int) ≤ 65536 := by omega
          clear HQt hs
          go_wp2_with (first
            | (go_at_call 13; refine (HBy.out _ HS0.out).mono ?_; intro e w2 hq; obtain ⟨bv, rfl, xs, hpu, hxl, hgr, hms, hon⟩ := hq; obtain ⟨ba, bc, rfl, -⟩ := hgr.shape; have HM2 := hide hms; have HPu := hide hpu; have HLb : Hid (Lst elLix w2 (fun b => wr.heap.size + 1 ≤ b) (.slice ba xs.length bc) xs) := (hgr.new (by omega)).move fun b _ hF => ⟨by simpa using hF, rfl⟩; clear hpu hgr hms hon)
            | (go_at_call 9; (with_reducible refine (HPa.out _ HM2.out).mono ?_); rintro e w3 ⟨rfl, hm3, ho3⟩; have HM3 := hide hm3; have HLb3 : Hid (Lst elLix w3 (fun b => wr.heap.size + 1 ≤ b) (.slice ba xs.length bc) xs) := HLb.out.move fun b hb hF => ⟨hF, ho3.block b hb (by have h9 : wr.heap.size + 1 ≤ b := hF; omega)⟩; clear hm3 ho3)
            | (go_at_call 9; (with_reducible refine (HPb.out _ HM3.out).mono ?_); rintro e w4 ⟨rfl, hm4, ho4⟩; have HM4 := hide hm4; have HLb4 : Hid (Lst elLix w4 (fun b => wr.heap.size + 1 ≤ b) (.slice ba xs.length bc) xs) := HLb3.out.move fun b hb hF => ⟨hF, ho4.block b hb (by have h9 : wr.heap.size + 1 ≤ b := hF; omega)⟩; have HBr : Hid (Below wr.heap.size wr w4) := (by have h9 := hm4.1.bel; rw [HEw.out] at h9; exact h9); have HBq := hide (belowt2 HBw.out HBr.out); clear hm4 ho4; have d0 : w4.cell? ⟨wr.heap.size, 0, none⟩ = some (.string T) := (by rw [HT.out]; exact (mk_cells HM4.out.1.blk).1.1))
            | (go_at_call 16; refine (parseQuery_any T _ (HLd.out.1.kept (HBq.out)) (by have h9 := HM4.out.2; have h8 : ((s1.put E.G [46]).put E.G []).k = s1.k + 2 := rfl; rw [HT.out, arr_size]; omega)).mono ?_; intro e w5 hq; obtain ⟨qv, qs, rfl, hpq, hlq, hlst, hb5⟩ := readQuery_ok hq HQ.out; clear hq; obtain ⟨qa, qc, rfl, -⟩ := hlst.shape; have HB5 := hide (belowt2 hb5 (belowA w5 (.cells #[.int .i64 0, .int .i64 0, .int .i64 0] 45))); have d1 := kept_cell HB5.out d0; have HLq := hide (Lst.move hlst (G := fun _ => True) fun b hb _ => ⟨trivial, (belowA w5 (.cells #[.int .i64 0, .int .i64 0, .int .i64 0] 45)).block b hb⟩); have HPq := hide hpq; unfold faultV; clear hb5 hlst hpq)
            | (go_at_call 17; refine (sameBody_any HLq.out (Lst.move HLb4.out (G := fun _ => True) fun b hb _ => ⟨trivial, HB5.out.block b hb⟩) (by rw [HPq.out, HPu.out])).mono ?_; rintro e w6 ⟨rfl, hb6⟩; have HB6 := hide hb6; clear hb6))
          go_roundw
          case rel => exact ⟨j + 1, by omega, by go_num, HBl.out.trans ((HBr.out.trans ((belowt2 HB5.out HB6.out).mono HBr.out.size)).mono HBl.out.size)⟩
          case measure => simp [intOf]; omega
        · have HQ := hide (query_long hs)
          have hle : decide ((T.size : Int) ≤ 65536) = false := decide_eq_false (by omega)
          have hle2 : ¬ (T.size : Int) ≤ 65536 := by omega
          clear HQt hs
          go_wp2_with (first
            | (go_at_call 13; refine (HBy.out _ HS0.out).mono ?_; intro e w2 hq; obtain ⟨bv, rfl, xs, hpu, hxl, hgr, hms, hon⟩ := hq; obtain ⟨ba, bc, rfl, -⟩ := hgr.shape; have HM2 := hide hms; have HPu := hide hpu; have HLb : Hid (Lst elLix w2 (fun b => wr.heap.size + 1 ≤ b) (.slice ba xs.length bc) xs) := (hgr.new (by omega)).move fun b _ hF => ⟨by simpa using hF, rfl⟩; clear hpu hgr hms hon)
            | (go_at_call 9; (with_reducible refine (HPa.out _ HM2.out).mono ?_); rintro e w3 ⟨rfl, hm3, ho3⟩; have HM3 := hide hm3; have HLb3 : Hid (Lst elLix w3 (fun b => wr.heap.size + 1 ≤ b) (.slice ba xs.length bc) xs) := HLb.out.move fun b hb hF => ⟨hF, ho3.block b hb (by have h9 : wr.heap.size + 1 ≤ b := hF; omega)⟩; clear hm3 ho3)
            | (go_at_call 9; (with_reducible refine (HPb.out _ HM3.out).mono ?_); rintro e w4 ⟨rfl, hm4, ho4⟩; have HM4 := hide hm4; have HLb4 : Hid (Lst elLix w4 (fun b => wr.heap.size + 1 ≤ b) (.slice ba xs.length bc) xs) := HLb3.out.move fun b hb hF => ⟨hF, ho4.block b hb (by have h9 : wr.heap.size + 1 ≤ b := hF; omega)⟩; have HBr : Hid (Below wr.heap.size wr w4) := (by have h9 := hm4.1.bel; rw [HEw.out] at h9; exact h9); have HBq := hide (belowt2 HBw.out HBr.out); clear hm4 ho4; have d0 : w4.cell? ⟨wr.heap.size, 0, none⟩ = some (.string T) := (by rw [HT.out]; exact (mk_cells HM4.out.1.blk).1.1))
            | (go_at_call 16; refine (parseQuery_any T _ (HLd.out.1.kept (HBq.out)) (by have h9 := HM4.out.2; have h8 : ((s1.put E.G [46]).put E.G []).k = s1.k + 2 := rfl; rw [HT.out, arr_size]; omega)).mono ?_; intro e w5 hq; obtain ⟨rfl, hb5⟩ := readQuery_bad hq HQ.out; clear hq; have HB5 := hide (belowt2 hb5 (belowA w5 (.cells #[.int .i64 1, .int .i64 0, .int .i64 0] 45))); have d1 := kept_cell HB5.out d0; unfold faultV; clear hb5))
          go_roundw
          case rel => exact ⟨j + 1, by omega, by go_num, HBl.out.trans ((HBr.out.trans (HB5.out.mono HBr.out.size)).mono HBl.out.size)⟩
          case measure => simp [intOf]; omega
    · obtain rfl : j = cs.length := by omega
      have hend : ¬ ((cs.length : Int) < (cn : Int)) ∨ ((cs.length : Int) < (cn : Int) ∧ ¬ (cs.length : Int) < 40) := by omega
      clear hn
      rcases hend with hi | ⟨hi, hi8⟩ <;>
      · go_wp2_with (go_at_call 11; refine (HTk.out _ HBw.out).mono ?_; rintro e w6 ⟨rfl, hb6⟩; have HB6 := hide hb6; clear hb6)
        go_ret
        exact ⟨rfl, belowt2 HBw.out HB6.out⟩
end Go.Proofs.YtilckhdaijfddaaDoor
