/- The law's own sameAtom at equal atoms. The law's own sameAtoms at equal lists of atoms. The law's own sameBody at equal lists of literals. The law's own sameClauses at equal lists of clauses. ParseMakes: clauses that the maker puts are read as just these clauses. -/
import Derived.Test.YtilckhdaijfddaaDoorProg
import Derived.Test.YtilckhdaijfddaaDoorForms
import Derived.Test.YtilckhdaijfddaaDoorOver
import Derived.Test.YtilckhdaijfddaaDoorParseLit
import Derived.Test.YtilckhdaijfddaaDoorParseAtom
import Derived.Test.YtilckhdaijfddaaDoorParseLiteral
import Derived.Deep.RegionHeld3
import Derived.Deep.DeepCutAuto
import Derived.Test.YtilckhdaijfddaaDoorPkM5
import Derived.Test.YtilckhdaijfddaaDoorPkM6

namespace Go.Proofs.YtilckhdaijfddaaDoor
set_option linter.unusedSimpArgs false
set_option linter.unusedVariables false
open Go.RowKit

theorem neqTrmSame (a : Trm) (w : World) : (binOp .neq 73 (.agg #[.int .i64 a.k, .int .i64 a.n, .string a.s, .int .i64 a.off]) (.agg #[.int .i64 a.k, .int .i64 a.n, .string a.s, .int .i64 a.off])).run Tryd.prog w = .ok (.bool false) w := by
  have h1 := run_equalIn_struct (P := Tryd.prog) w 9999 73 #[.int .i64 a.k, .int .i64 a.n, .string a.s, .int .i64 a.off] #[.int .i64 a.k, .int .i64 a.n, .string a.s, .int .i64 a.off] (by kernel_rfl) (by kernel_rfl)
  simp only [binOp]
  simp only [Op.equal, Op.maxDepth, Sem.run_bind]
  go_simp

set_option maxRecDepth 100000 in
set_option maxHeartbeats 1000000 in
theorem sameAtom_any {w : World} {F G : Nat → Prop} (pr : ByteArray) (off : Int) (ts : List Trm) (v1 v2 : Value) (h1 : Lst elTrm w F v1 ts) (h2 : Lst elTrm w G v2 ts) :
    Calls Tryd.prog 26 #[.agg #[.string pr, v1, .int .i64 off], .agg #[.string pr, v2, .int .i64 off]] w fun e w' => e = .returned (.bool true) ∧ Below w.heap.size w w' := by
  obtain ⟨a1, c1, rfl, -, -, hlen⟩ := h1.shape
  obtain ⟨a2, c2, rfl, -⟩ := h2.shape
  have HH1 := hide h1
  have HH2 := hide h2
  clear h1 h2
  have hq : (off != off) = false := by simp
  have hps : (pr.toList != pr.toList) = false := by simp
  go_enter Tryd.func26, Tryd.ntmps26
  go_wp2
  obtain ⟨Y, hY⟩ : ∃ Y, Y = (w.alloc (.cells #[.string pr, .slice a1 ts.length c1, .int .i64 off] 32)).alloc (.cells #[.string pr, .slice a2 ts.length c2, .int .i64 off] 32) := ⟨_, rfl⟩
  have HB0 : Hid (Below w.heap.size w Y) := by rw [hY]; exact below2a _ _ _
  have HP : Hid (Y.cell? ⟨w.heap.size, 1, none⟩ = some (.slice a1 ts.length c1) ∧ Y.cell? ⟨w.heap.size + 1, 1, none⟩ = some (.slice a2 ts.length c2)) := by
    show _ ∧ _
    rw [hY]
    constructor <;> simp
  rw [← hY]
  clear hY
  go_loopw [30] (fun i wl => ∃ k : Nat, k ≤ ts.length ∧ i = .int .i64 k ∧ Hid (Below Y.heap.size Y wl)) (fun i _ => ts.length - (intOf i).toNat)
  case atStart => exact ⟨0, by omega, rfl, Below.refl _ _⟩
  case round =>
    obtain ⟨k, hk, rfl, HB⟩ := hrel
    have HBw := hide (HB0.out.trans (HB.out.mono HB0.out.size))
    have p1 := kept_cell HB.out HP.out.1
    have p2 := kept_cell HB.out HP.out.2
    by_cases hlt : k < ts.length
    · have hi : (k : Int) < (ts.length : Int) := by omega
      have hi0 : (0 : Int) ≤ (k : Int) := by omega
      obtain ⟨b1, o1, rfl, -, -, hr1⟩ := HH1.out.row (by omega)
      obtain ⟨b2, o2, rfl, -, -, hr2⟩ := HH2.out.row (by omega)
      obtain ⟨x, hx⟩ : ∃ x, ts[k]? = some x := ⟨_, List.getElem?_eq_getElem hlt⟩
      have x0 := over_cell (kept_cell HBw.out (hr1 k x hx 0 _ rfl))
      have x1 := over_cell (kept_cell HBw.out (hr1 k x hx 1 _ rfl))
      have x2 := over_cell (kept_cell HBw.out (hr1 k x hx 2 _ rfl))
      have x3 := over_cell (kept_cell HBw.out (hr1 k x hx 3 _ rfl))
      have y0 := over_cell (kept_cell HBw.out (hr2 k x hx 0 _ rfl))
      have y1 := over_cell (kept_cell HBw.out (hr2 k x hx 1 _ rfl))
      have y2 := over_cell (kept_cell HBw.out (hr2 k x hx 2 _ rfl))
      have y3 := over_cell (kept_cell HBw.out (hr2 k x hx 3 _ rfl))
      simp only [elTrm, Nat.add_zero] at x0 x1 x2 x3 y0 y1 y2 y3
      have hs := neqTrmSame x
      clear hr1 hr2 hx
      go_wp2
      refine wp_region_over (fun W => W = wr) (by kernel_rfl) (by kernel_rfl) rfl ?_
      rintro W rfl
      have p1' := over_cell p1
      have p2' := over_cell p2
      clear p1 p2
      repeat (go_big_quiet_step (first | fail))
      refine wpQuiet_nil ?_
      rintro _ ⟨z, rfl⟩
      have HB3 := hide (HB.out.trans ((over_below W z).mono HB.out.size))
      clear x0 x1 x2 x3 y0 y1 y2 y3 p1' p2'
      go_wp2
      go_roundw
      case rel => exact ⟨k + 1, by omega, by go_num, HB3⟩
      case measure => simp [intOf]; omega
    · obtain rfl : k = ts.length := by omega
      have hi : ¬ (ts.length : Int) < (ts.length : Int) := by omega
      go_wp2
      go_ret
      exact ⟨rfl, HBw.out⟩

end Go.Proofs.YtilckhdaijfddaaDoor

namespace Go.Proofs.YtilckhdaijfddaaDoor
set_option linter.unusedSimpArgs false
set_option linter.unusedVariables false
open Go.RowKit

theorem pur_at {α β : Type} {f : α → β} {l m : List α} (h : l.map f = m.map f) {k : Nat} {x y : α} (hx : l[k]? = some x) (hy : m[k]? = some y) : f x = f y := by
  have e := congrArg (fun z => z[k]?) h
  simp only [List.getElem?_map, hx, hy, Option.map_some, Option.some.injEq] at e
  exact e
set_option maxRecDepth 100000 in
set_option maxHeartbeats 2000000 in
theorem sameAtoms_any {w : World} {F G : Nat → Prop} {v1 v2 : Value} {l m : List Atx} (h1 : Lst elAtx w F v1 l) (h2 : Lst elAtx w G v2 m) (hp : l.map Atx.pur = m.map Atx.pur) :
    Calls Tryd.prog 12 #[v1, v2] w fun e w' => e = .returned (.bool true) ∧ Below w.heap.size w w' := by
  obtain ⟨a1, c1, rfl, -, -, hl1⟩ := h1.shape
  obtain ⟨a2, c2, rfl, -, -, hl2⟩ := h2.shape
  have hl : l.length = m.length := by have := congrArg List.length hp; simpa using this
  have H1 := hide h1.all
  have H2 := hide h2.all
  have HP := hide hp
  have HE := hide hl
  obtain ⟨n, hn⟩ : ∃ n, n = l.length := ⟨_, rfl⟩
  rw [← hl, ← hn]
  rw [← hn] at hl1
  rw [← hl] at H2
  rw [← hn] at H1 H2
  have HN := hide hn
  clear h1 h2 hp hl hl2 hn
  have hnn : ((n : Int) != (n : Int)) = false := by simp
  go_enter Tryd.func12, Tryd.ntmps12
  go_wp2
  go_loopw [13] (fun i wl => ∃ k : Nat, k ≤ n ∧ i = .int .i64 k ∧ Hid (Below w.heap.size w wl)) (fun i _ => n - (intOf i).toNat)
  case atStart => exact ⟨0, by omega, rfl, Below.refl _ _⟩
  case round =>
    obtain ⟨k, hk, rfl, HB⟩ := hrel
    by_cases hlt : k < n
    · have hi : (k : Int) < (n : Int) := by omega
      have hi0 : (0 : Int) ≤ (k : Int) := by omega
      obtain ⟨b, bo, rfl, -, -, hrow⟩ := H1.out.row (by have := HN.out; omega)
      obtain ⟨c, co, rfl, -, -, krow⟩ := H2.out.row (by have := HN.out; have := HE.out; omega)
      obtain ⟨x, hx⟩ : ∃ x, l[k]? = some x := ⟨_, List.getElem?_eq_getElem (by have := HN.out; omega)⟩
      obtain ⟨y, hy⟩ : ∃ y, m[k]? = some y := ⟨_, List.getElem?_eq_getElem (by have := HN.out; have := HE.out; omega)⟩
      have hpq := pur_at HP.out hx hy
      have x0 := over_cell (kept_cell HB.out (hrow k _ hx 0 _ rfl))
      have x1 := over_cell (kept_cell HB.out (hrow k _ hx 1 _ rfl))
      have x2 := over_cell (kept_cell HB.out (hrow k _ hx 2 _ rfl))
      have y0 := over_cell (kept_cell HB.out (krow k _ hy 0 _ rfl))
      have y1 := over_cell (kept_cell HB.out (krow k _ hy 1 _ rfl))
      have y2 := over_cell (kept_cell HB.out (krow k _ hy 2 _ rfl))
      have hxo := H1.out.ok (List.mem_of_getElem? hx)
      have hyo := H2.out.ok (List.mem_of_getElem? hy)
      obtain ⟨xp, xv, xoff, xts⟩ := x
      obtain ⟨yp, yv, yoff, yts⟩ := y
      simp only [elAtx, Nat.add_zero] at x0 x1 x2 y0 y1 y2
      simp only [Atx.pur, PAtom.mk.injEq] at hpq
      obtain ⟨rfl, rfl, rfl⟩ := hpq
      have HS := hide (fun x => sameAtom_any xp xoff xts xv yv (((show Lst elTrm w (fun _ => True) xv xts from hxo.2.2).kept HB.out).kept (over_below _ x)) (((show Lst elTrm w (fun _ => True) yv xts from hyo.2.2).kept HB.out).kept (over_below _ x)))
      obtain ⟨xa, xc, rfl, -⟩ := (show Lst elTrm w (fun _ => True) xv xts from hxo.2.2).shape
      obtain ⟨ya, yc, rfl, -⟩ := (show Lst elTrm w (fun _ => True) yv xts from hyo.2.2).shape
      clear hrow hx krow hy hxo hyo
      go_wp2
      refine wp_region_over (fun W => W = wr) (by kernel_rfl) (by kernel_rfl) rfl ?_
      rintro W rfl
      repeat (go_big_quiet_step (first | (go_at_call 26; exact calls_over (HS.out _))))
      refine wpQuiet_nil ?_
      rintro _ ⟨z, rfl⟩
      have HB3 := hide (HB.out.trans ((over_below W z).mono HB.out.size))
      clear x0 x1 x2 y0 y1 y2 HS
      go_wp2
      go_roundw
      case rel => exact ⟨k + 1, by omega, by go_num, HB3⟩
      case measure => simp [intOf]; omega
    · obtain rfl : k = n := by omega
      have hi : ¬ (k : Int) < (k : Int) := by omega
      go_wp2
      go_ret
      exact ⟨rfl, HB.out⟩
end Go.Proofs.YtilckhdaijfddaaDoor

namespace Go.Proofs.YtilckhdaijfddaaDoor
set_option linter.unusedSimpArgs false
set_option linter.unusedVariables false
open Go.RowKit

theorem bx_first (w : World) (x y : Obj) : ((w.alloc x).alloc y).drew.heap[w.heap.size]? = some x := by
  show ((w.alloc x).alloc y).heap[w.heap.size]? = some x
  rw [(belowA (w.alloc x) y).block _ (by simp)]; exact heap_alloc_new w _
theorem bx_second (w : World) (x y : Obj) : ((w.alloc x).alloc y).drew.heap[w.heap.size + 1]? = some y := by
  have := heap_alloc_new (w.alloc x) y
  show ((w.alloc x).alloc y).heap[w.heap.size + 1]? = some y
  simpa using this
set_option maxRecDepth 100000 in
set_option maxHeartbeats 8000000 in
theorem sameBody_any {w : World} {F G : Nat → Prop} {v1 v2 : Value} {l m : List Lix} (h1 : Lst elLix w F v1 l) (h2 : Lst elLix w G v2 m) (hp : l.map Lix.pur = m.map Lix.pur) :
    Calls Tryd.prog 17 #[v1, v2] w fun e w' => e = .returned (.bool true) ∧ Below w.heap.size w w' := by
  obtain ⟨a1, c1, rfl, -, -, hl1⟩ := h1.shape
  obtain ⟨a2, c2, rfl, -, -, hl2⟩ := h2.shape
  have hl : l.length = m.length := by have := congrArg List.length hp; simpa using this
  have H1 := hide h1.all
  have H2 := hide h2.all
  have HP := hide hp
  have HE := hide hl
  obtain ⟨n, hn⟩ : ∃ n, n = l.length := ⟨_, rfl⟩
  rw [← hl, ← hn]
  rw [← hn] at hl1
  rw [← hl] at H2
  rw [← hn] at H1 H2
  have HN := hide hn
  clear h1 h2 hp hl hl2 hn
  have hnn : ((n : Int) != (n : Int)) = false := by simp
  go_enter Tryd.func17, Tryd.ntmps17
  go_wp2
  go_loopw [15] (fun i wl => ∃ k : Nat, k ≤ n ∧ i = .int .i64 k ∧ Hid (Below w.heap.size w wl)) (fun i _ => n - (intOf i).toNat)
  case atStart => exact ⟨0, by omega, rfl, Below.refl _ _⟩
  case round =>
    obtain ⟨k, hk, rfl, HB⟩ := hrel
    by_cases hlt : k < n
    · have hi : (k : Int) < (n : Int) := by omega
      have hi0 : (0 : Int) ≤ (k : Int) := by omega
      obtain ⟨b, bo, rfl, -, -, hrow⟩ := (H1.out.kept HB.out).row (by have := HN.out; omega)
      obtain ⟨c, co, rfl, -, -, krow⟩ := (H2.out.kept HB.out).row (by have := HN.out; have := HE.out; omega)
      obtain ⟨x, hx⟩ : ∃ x, l[k]? = some x := ⟨_, List.getElem?_eq_getElem (by have := HN.out; omega)⟩
      obtain ⟨y, hy⟩ : ∃ y, m[k]? = some y := ⟨_, List.getElem?_eq_getElem (by have := HN.out; have := HE.out; omega)⟩
      have hpq := pur_at HP.out hx hy
      have x0 := hrow k _ hx 0 _ rfl
      have x1 := hrow k _ hx 1 _ rfl
      have x2 := hrow k _ hx 2 _ rfl
      have x3 := hrow k _ hx 3 _ rfl
      have x4 := hrow k _ hx 4 _ rfl
      have x5 := hrow k _ hx 5 _ rfl
      have x6 := hrow k _ hx 6 _ rfl
      have x7 := hrow k _ hx 7 _ rfl
      have x8 := hrow k _ hx 8 _ rfl
      have x9 := hrow k _ hx 9 _ rfl
      have x10 := hrow k _ hx 10 _ rfl
      have x11 := hrow k _ hx 11 _ rfl
      have x12 := hrow k _ hx 12 _ rfl
      have x13 := hrow k _ hx 13 _ rfl
      have y0 := krow k _ hy 0 _ rfl
      have y1 := krow k _ hy 1 _ rfl
      have y2 := krow k _ hy 2 _ rfl
      have y3 := krow k _ hy 3 _ rfl
      have y4 := krow k _ hy 4 _ rfl
      have y5 := krow k _ hy 5 _ rfl
      have y6 := krow k _ hy 6 _ rfl
      have y7 := krow k _ hy 7 _ rfl
      have y8 := krow k _ hy 8 _ rfl
      have y9 := krow k _ hy 9 _ rfl
      have y10 := krow k _ hy 10 _ rfl
      have y11 := krow k _ hy 11 _ rfl
      have y12 := krow k _ hy 12 _ rfl
      have y13 := krow k _ hy 13 _ rfl
      have hxo := H1.out.ok (List.mem_of_getElem? hx)
      have hyo := H2.out.ok (List.mem_of_getElem? hy)
      obtain ⟨lk, ⟨ap, av, aoff, ats⟩, lop, ll, lr, loff⟩ := x
      obtain ⟨yk, ⟨yp, yv, yoff, yts⟩, yop, yl, yr, yof⟩ := y
      simp only [elLix, Nat.add_zero] at x0 x1 x2 x3 x4 x5 x6 x7 x8 x9 x10 x11 x12 x13 y0 y1 y2 y3 y4 y5 y6 y7 y8 y9 y10 y11 y12 y13
      simp only [Lix.pur, Atx.pur, PLit.mk.injEq, PAtom.mk.injEq] at hpq
      obtain ⟨rfl, ⟨rfl, rfl, rfl⟩, rfl, rfl, rfl, rfl⟩ := hpq
      have HS := hide (fun W (hb : Below wr.heap.size wr W) => sameAtom_any ap aoff ats av yv (((show Lst elTrm w (fun _ => True) av ats from hxo.2.1.2.2).kept HB.out).kept hb) (((show Lst elTrm w (fun _ => True) yv ats from hyo.2.1.2.2).kept HB.out).kept hb))
      obtain ⟨xa, xc, rfl, -⟩ := (show Lst elTrm w (fun _ => True) av ats from hxo.2.1.2.2).shape
      obtain ⟨ya, yc, rfl, -⟩ := (show Lst elTrm w (fun _ => True) yv ats from hyo.2.1.2.2).shape
      have HSc : Hid (∀ V : World, Below wr.heap.size wr V → V.cell? ⟨b, bo + k * 14, none⟩ = some (.int .i64 lk) ∧ V.cell? ⟨b, bo + k * 14 + 1, none⟩ = some (.string ap) ∧ V.cell? ⟨b, bo + k * 14 + 2, none⟩ = some (.slice xa ats.length xc) ∧ V.cell? ⟨b, bo + k * 14 + 3, none⟩ = some (.int .i64 aoff) ∧ V.cell? ⟨b, bo + k * 14 + 4, none⟩ = some (.int .i64 lop) ∧ V.cell? ⟨b, bo + k * 14 + 5, none⟩ = some (.int .i64 ll.k) ∧ V.cell? ⟨b, bo + k * 14 + 6, none⟩ = some (.int .i64 ll.n) ∧ V.cell? ⟨b, bo + k * 14 + 7, none⟩ = some (.string ll.s) ∧ V.cell? ⟨b, bo + k * 14 + 8, none⟩ = some (.int .i64 ll.off) ∧ V.cell? ⟨b, bo + k * 14 + 9, none⟩ = some (.int .i64 lr.k) ∧ V.cell? ⟨b, bo + k * 14 + 10, none⟩ = some (.int .i64 lr.n) ∧ V.cell? ⟨b, bo + k * 14 + 11, none⟩ = some (.string lr.s) ∧ V.cell? ⟨b, bo + k * 14 + 12, none⟩ = some (.int .i64 lr.off) ∧ V.cell? ⟨b, bo + k * 14 + 13, none⟩ = some (.int .i64 loff) ∧ V.cell? ⟨c, co + k * 14, none⟩ = some (.int .i64 lk) ∧ V.cell? ⟨c, co + k * 14 + 1, none⟩ = some (.string ap) ∧ V.cell? ⟨c, co + k * 14 + 2, none⟩ = some (.slice ya ats.length yc) ∧ V.cell? ⟨c, co + k * 14 + 3, none⟩ = some (.int .i64 aoff) ∧ V.cell? ⟨c, co + k * 14 + 4, none⟩ = some (.int .i64 lop) ∧ V.cell? ⟨c, co + k * 14 + 5, none⟩ = some (.int .i64 ll.k) ∧ V.cell? ⟨c, co + k * 14 + 6, none⟩ = some (.int .i64 ll.n) ∧ V.cell? ⟨c, co + k * 14 + 7, none⟩ = some (.string ll.s) ∧ V.cell? ⟨c, co + k * 14 + 8, none⟩ = some (.int .i64 ll.off) ∧ V.cell? ⟨c, co + k * 14 + 9, none⟩ = some (.int .i64 lr.k) ∧ V.cell? ⟨c, co + k * 14 + 10, none⟩ = some (.int .i64 lr.n) ∧ V.cell? ⟨c, co + k * 14 + 11, none⟩ = some (.string lr.s) ∧ V.cell? ⟨c, co + k * 14 + 12, none⟩ = some (.int .i64 lr.off) ∧ V.cell? ⟨c, co + k * 14 + 13, none⟩ = some (.int .i64 loff)) := fun V hV => ⟨kept_cell hV x0, kept_cell hV x1, kept_cell hV x2, kept_cell hV x3, kept_cell hV x4, kept_cell hV x5, kept_cell hV x6, kept_cell hV x7, kept_cell hV x8, kept_cell hV x9, kept_cell hV x10, kept_cell hV x11, kept_cell hV x12, kept_cell hV x13, kept_cell hV y0, kept_cell hV y1, kept_cell hV y2, kept_cell hV y3, kept_cell hV y4, kept_cell hV y5, kept_cell hV y6, kept_cell hV y7, kept_cell hV y8, kept_cell hV y9, kept_cell hV y10, kept_cell hV y11, kept_cell hV y12, kept_cell hV y13⟩
      clear hrow hx krow hy hxo hyo x0 x1 x2 x3 x4 x5 x6 x7 x8 x9 x10 x11 x12 x13 y0 y1 y2 y3 y4 y5 y6 y7 y8 y9 y10 y11 y12 y13
      go_upto_region 6 with fail
      go_cut [6, 7] (fun t6 t7 wx => ∃ X Y, t6 = .pointer (some ⟨X, 0, none⟩) ∧ t7 = .pointer (some ⟨Y, 0, none⟩) ∧ Hid (wx.heap[X]? = some (.cells #[.int .i64 lk, .string ap, .slice xa ats.length xc, .int .i64 aoff, .int .i64 lop, .int .i64 ll.k, .int .i64 ll.n, .string ll.s, .int .i64 ll.off, .int .i64 lr.k, .int .i64 lr.n, .string lr.s, .int .i64 lr.off, .int .i64 loff] 86 (0, 0))) ∧ Hid (wx.heap[Y]? = some (.cells #[.int .i64 lk, .string ap, .slice ya ats.length yc, .int .i64 aoff, .int .i64 lop, .int .i64 ll.k, .int .i64 ll.n, .string ll.s, .int .i64 ll.off, .int .i64 lr.k, .int .i64 lr.n, .string lr.s, .int .i64 lr.off, .int .i64 loff] 86 (0, 0))) ∧ Hid (Below wr.heap.size wr wx))
      case first =>
        go_region_held3 (fun V => V.cell? ⟨b, bo + k * 14, none⟩ = some (.int .i64 lk) ∧ V.cell? ⟨b, bo + k * 14 + 1, none⟩ = some (.string ap) ∧ V.cell? ⟨b, bo + k * 14 + 2, none⟩ = some (.slice xa ats.length xc) ∧ V.cell? ⟨b, bo + k * 14 + 3, none⟩ = some (.int .i64 aoff) ∧ V.cell? ⟨b, bo + k * 14 + 4, none⟩ = some (.int .i64 lop) ∧ V.cell? ⟨b, bo + k * 14 + 5, none⟩ = some (.int .i64 ll.k) ∧ V.cell? ⟨b, bo + k * 14 + 6, none⟩ = some (.int .i64 ll.n) ∧ V.cell? ⟨b, bo + k * 14 + 7, none⟩ = some (.string ll.s) ∧ V.cell? ⟨b, bo + k * 14 + 8, none⟩ = some (.int .i64 ll.off) ∧ V.cell? ⟨b, bo + k * 14 + 9, none⟩ = some (.int .i64 lr.k) ∧ V.cell? ⟨b, bo + k * 14 + 10, none⟩ = some (.int .i64 lr.n) ∧ V.cell? ⟨b, bo + k * 14 + 11, none⟩ = some (.string lr.s) ∧ V.cell? ⟨b, bo + k * 14 + 12, none⟩ = some (.int .i64 lr.off) ∧ V.cell? ⟨b, bo + k * 14 + 13, none⟩ = some (.int .i64 loff) ∧ V.cell? ⟨c, co + k * 14, none⟩ = some (.int .i64 lk) ∧ V.cell? ⟨c, co + k * 14 + 1, none⟩ = some (.string ap) ∧ V.cell? ⟨c, co + k * 14 + 2, none⟩ = some (.slice ya ats.length yc) ∧ V.cell? ⟨c, co + k * 14 + 3, none⟩ = some (.int .i64 aoff) ∧ V.cell? ⟨c, co + k * 14 + 4, none⟩ = some (.int .i64 lop) ∧ V.cell? ⟨c, co + k * 14 + 5, none⟩ = some (.int .i64 ll.k) ∧ V.cell? ⟨c, co + k * 14 + 6, none⟩ = some (.int .i64 ll.n) ∧ V.cell? ⟨c, co + k * 14 + 7, none⟩ = some (.string ll.s) ∧ V.cell? ⟨c, co + k * 14 + 8, none⟩ = some (.int .i64 ll.off) ∧ V.cell? ⟨c, co + k * 14 + 9, none⟩ = some (.int .i64 lr.k) ∧ V.cell? ⟨c, co + k * 14 + 10, none⟩ = some (.int .i64 lr.n) ∧ V.cell? ⟨c, co + k * 14 + 11, none⟩ = some (.string lr.s) ∧ V.cell? ⟨c, co + k * 14 + 12, none⟩ = some (.int .i64 lr.off) ∧ V.cell? ⟨c, co + k * 14 + 13, none⟩ = some (.int .i64 loff))
          (first
            | (with_reducible exact HSc.out _ (Below.refl _ _))
            | (with_reducible exact HSc.out _ (Below.refl _ _).drew)
            | (with_reducible exact HSc.out _ (belowA _ _).drew)
            | (with_reducible exact HSc.out _ (belowA _ _))
            | (with_reducible exact HSc.out _ (below2a _ _ _).drew)
            | (with_reducible exact HSc.out _ (below2a _ _ _)))
          (fail)
        all_goals (go_wp2; go_meet)
        · exact ⟨wr.heap.size, wr.heap.size + 1, rfl, rfl, bx_first _ _ _, bx_second _ _ _, (below2a _ _ _).drew⟩
        · exact ⟨wr.heap.size + 1, wr.heap.size, rfl, rfl, bx_second _ _ _, bx_first _ _ _, (below2a _ _ _).drew⟩
      case rest =>
        obtain ⟨X, Y, rfl, rfl, HX, HY, HBx⟩ := hcut
        obtain ⟨⟨x0, x1, x2, x3, x4, x5, x6, x7, x8, x9, x10, x11, x12, x13⟩, -⟩ := boxL_cells HX.out
        obtain ⟨⟨y0, y1, y2, y3, y4, y5, y6, y7, y8, y9, y10, y11, y12, y13⟩, -⟩ := boxL_cells HY.out
        have q1 : (lk != lk) = false := by simp
        have q2 : (lop != lop) = false := by simp
        have q3 : (loff != loff) = false := by simp
        have q4 := neqTrmSame ll
        have q5 := neqTrmSame lr
        go_wp2_with (go_at_call 26; refine (HS.out _ HBx.out).mono ?_; rintro e w7 ⟨rfl, hb7⟩; have HB7 := hide (belowt2 (belowt2 HB.out HBx.out) hb7); clear hb7)
        go_roundw
        case rel => exact ⟨k + 1, by omega, by go_num, HB7⟩
        case measure => simp [intOf]; omega
    · obtain rfl : k = n := by omega
      have hi : ¬ (k : Int) < (k : Int) := by omega
      go_wp2
      go_ret
      exact ⟨rfl, HB.out⟩
end Go.Proofs.YtilckhdaijfddaaDoor

namespace Go.Proofs.YtilckhdaijfddaaDoor
set_option linter.unusedSimpArgs false
set_option linter.unusedVariables false
open Go.RowKit

set_option maxRecDepth 100000 in
set_option maxHeartbeats 4000000 in
theorem sameClauses_any {w : World} {F G : Nat → Prop} {v1 v2 : Value} {l m : List Clx} (h1 : Lst elClx w F v1 l) (h2 : Lst elClx w G v2 m) (hp : l.map Clx.pur = m.map Clx.pur) :
    Calls Tryd.prog 15 #[v1, v2] w fun e w' => e = .returned (.bool true) ∧ Below w.heap.size w w' := by
  obtain ⟨a1, c1, rfl, -, -, hl1⟩ := h1.shape
  obtain ⟨a2, c2, rfl, -, -, hl2⟩ := h2.shape
  have hl : l.length = m.length := by have := congrArg List.length hp; simpa using this
  have H1 := hide h1.all
  have H2 := hide h2.all
  have HP := hide hp
  have HE := hide hl
  obtain ⟨n, hn⟩ : ∃ n, n = l.length := ⟨_, rfl⟩
  rw [← hl, ← hn]
  rw [← hn] at hl1
  rw [← hl] at H2
  rw [← hn] at H1 H2
  have HN := hide hn
  clear h1 h2 hp hl hl2 hn
  have hnn : ((n : Int) != (n : Int)) = false := by simp
  go_enter Tryd.func15, Tryd.ntmps15
  go_wp2
  go_loopw [13] (fun i wl => ∃ k : Nat, k ≤ n ∧ i = .int .i64 k ∧ Hid (Below w.heap.size w wl)) (fun i _ => n - (intOf i).toNat)
  case atStart => exact ⟨0, by omega, rfl, Below.refl _ _⟩
  case round =>
    obtain ⟨k, hk, rfl, HB⟩ := hrel
    by_cases hlt : k < n
    · have hi : (k : Int) < (n : Int) := by omega
      have hi0 : (0 : Int) ≤ (k : Int) := by omega
      obtain ⟨b, bo, rfl, -, -, hrow⟩ := H1.out.row (by have := HN.out; omega)
      obtain ⟨c, co, rfl, -, -, krow⟩ := H2.out.row (by have := HN.out; have := HE.out; omega)
      obtain ⟨x, hx⟩ : ∃ x, l[k]? = some x := ⟨_, List.getElem?_eq_getElem (by have := HN.out; omega)⟩
      obtain ⟨y, hy⟩ : ∃ y, m[k]? = some y := ⟨_, List.getElem?_eq_getElem (by have := HN.out; have := HE.out; omega)⟩
      have hpq := pur_at HP.out hx hy
      have x0 := over_cell (kept_cell HB.out (hrow k _ hx 0 _ rfl))
      have x1 := over_cell (kept_cell HB.out (hrow k _ hx 1 _ rfl))
      have x2 := over_cell (kept_cell HB.out (hrow k _ hx 2 _ rfl))
      have x3 := over_cell (kept_cell HB.out (hrow k _ hx 3 _ rfl))
      have y0 := over_cell (kept_cell HB.out (krow k _ hy 0 _ rfl))
      have y1 := over_cell (kept_cell HB.out (krow k _ hy 1 _ rfl))
      have y2 := over_cell (kept_cell HB.out (krow k _ hy 2 _ rfl))
      have y3 := over_cell (kept_cell HB.out (krow k _ hy 3 _ rfl))
      have hxo := H1.out.ok (List.mem_of_getElem? hx)
      have hyo := H2.out.ok (List.mem_of_getElem? hy)
      obtain ⟨⟨xp, xv, xoff, xts⟩, xb, xls⟩ := x
      obtain ⟨⟨yp, yv, yoff, yts⟩, yb, yls⟩ := y
      simp only [elClx, Nat.add_zero] at x0 x1 x2 x3 y0 y1 y2 y3
      simp only [Clx.pur, Atx.pur, PCls.mk.injEq, PAtom.mk.injEq] at hpq
      obtain ⟨⟨rfl, rfl, rfl⟩, hpb⟩ := hpq
      have HS := hide (fun x => sameAtom_any xp xoff xts xv yv (((show Lst elTrm w (fun _ => True) xv xts from hxo.1.2.2).kept HB.out).kept (over_below _ x)) (((show Lst elTrm w (fun _ => True) yv xts from hyo.1.2.2).kept HB.out).kept (over_below _ x)))
      have HT := hide (fun x => sameBody_any (((show Lst elLix w (fun _ => True) xb xls from hxo.2).kept HB.out).kept (over_below _ x)) (((show Lst elLix w (fun _ => True) yb yls from hyo.2).kept HB.out).kept (over_below _ x)) hpb)
      obtain ⟨xa, xc, rfl, -⟩ := (show Lst elTrm w (fun _ => True) xv xts from hxo.1.2.2).shape
      obtain ⟨ya, yc, rfl, -⟩ := (show Lst elTrm w (fun _ => True) yv xts from hyo.1.2.2).shape
      obtain ⟨xd, xe, rfl, -⟩ := (show Lst elLix w (fun _ => True) xb xls from hxo.2).shape
      obtain ⟨yd, ye, rfl, -⟩ := (show Lst elLix w (fun _ => True) yb yls from hyo.2).shape
      have hll : yls.length = xls.length := by have := congrArg List.length hpb; simp only [List.length_map] at this; exact this.symm
      rw [hll] at HT y3
      clear hrow hx krow hy hxo hyo hpb hll
      go_wp2
      refine wp_region_over (fun W => W = wr) (by kernel_rfl) (by kernel_rfl) rfl ?_
      rintro W rfl
      repeat (go_big_quiet_step (first | (go_at_call 26; exact calls_over (HS.out _)) | (go_at_call 17; exact calls_over (HT.out _))))
      refine wpQuiet_nil ?_
      rintro _ ⟨z, rfl⟩
      have HB3 := hide (HB.out.trans ((over_below W z).mono HB.out.size))
      clear x0 x1 x2 x3 y0 y1 y2 y3 HS HT
      go_wp2
      go_roundw
      case rel => exact ⟨k + 1, by omega, by go_num, HB3⟩
      case measure => simp [intOf]; omega
    · obtain rfl : k = n := by omega
      have hi : ¬ (k : Int) < (k : Int) := by omega
      go_wp2
      go_ret
      exact ⟨rfl, HB.out⟩
end Go.Proofs.YtilckhdaijfddaaDoor

namespace Go.Proofs.YtilckhdaijfddaaDoor
set_option linter.unusedSimpArgs false
set_option linter.unusedVariables false
open Go.RowKit

theorem fq_oneM (w : World) : (binOp .eql 45 (.agg #[.int .i64 1, .int .i64 0, .int .i64 0]) (.agg #[.int .i64 1, .int .i64 0, .int .i64 0])).run Tryd.prog w = .ok (.bool true) w := by
  have h1 := run_equalIn_struct (P := Tryd.prog) w 9999 45 #[.int .i64 1, .int .i64 0, .int .i64 0] #[.int .i64 1, .int .i64 0, .int .i64 0] (by kernel_rfl) (by kernel_rfl)
  simp only [binOp]
  simp only [Op.equal, Op.maxDepth, Sem.run_bind]
  go_simp
theorem in_cellsM {V : World} {b : Nat} {u0 u1 : Value} (h : V.heap[b]? = some (.cells #[u0, u1] 25 (0, 0))) : V.cell? ⟨b, 0, none⟩ = some u0 ∧ V.cell? ⟨b, 1, none⟩ = some u1 := by
  refine ⟨?_, ?_⟩ <;> simp [World.cell?, h]
theorem c3_cells {V : World} {b : Nat} {u0 u1 u2 : Value} (h : V.heap[b]? = some (.cells #[u0, u1, u2] 39 (0, 0))) : V.cell? ⟨b, 0, none⟩ = some u0 ∧ V.cell? ⟨b, 1, none⟩ = some u1 ∧ V.cell? ⟨b, 2, none⟩ = some u2 := by
  refine ⟨?_, ?_, ?_⟩ <;> simp [World.cell?, h]
theorem x4_cells {V : World} {b : Nat} {u0 u1 u2 u3 : Value} (h : V.heap[b]? = some (.cells #[u0, u1, u2, u3] 58 (0, 0))) : V.cell? ⟨b, 0, none⟩ = some u0 ∧ V.cell? ⟨b, 1, none⟩ = some u1 ∧ V.cell? ⟨b, 2, none⟩ = some u2 ∧ V.cell? ⟨b, 3, none⟩ = some u3 ∧ V.frozen? ⟨b, 3, none⟩ = false := by
  refine ⟨?_, ?_, ?_, ?_, ?_⟩ <;> simp [World.cell?, World.frozen?, h]
theorem CollM.jump {α : Type} {El0 : El α} {e : TypeId} {E : MkEnv} {w W W' : World} {p base : Nat} {st st' : St} {v : Value} {l : List α} (h : CollM El0 e E w W p st base v l) (ho : Only (fun k => k = p ∨ W.heap.size ≤ k) W W') (hm : MkS E W' p st') : CollM El0 e E w W' p st' base v l := by
  have hp := h.pl
  have hl := h.lo
  have hs := h.on.size
  exact ⟨hm, h.gr.above fun b hb hlt => ho.block b hlt (fun e => by rcases e with e | e <;> omega), h.on.trans (ho.mono fun k _ e => e.elim .inl fun e => .inr (by omega)), h.pl, h.lo, Nat.le_trans h.hi ho.size⟩
theorem cls_hereM {V : World} {c : Obj} {U base : Nat} {v : Value} {x : Clx} (ha : elAtx.ok V (fun k => U ≤ k) x.h) (hb : Lst elLix V (fun k => U ≤ k) x.v x.ls) (hB : base ≤ U) (hv : ∀ k, v.ownBlock = some k → k < U) : elClx.ok (V.alloc c) (fun k => base ≤ k ∧ v.ownBlock ≠ some k) x :=
  ⟨elAtx.move ha fun k hk hF => ⟨⟨Nat.le_trans hB hF, fun e => by have := hv k e; omega⟩, (belowA V c).block k hk⟩, hb.move fun k hk hF => ⟨⟨Nat.le_trans hB hF, fun e => by have := hv k e; omega⟩, (belowA V c).block k hk⟩⟩
/-- A clause as it is put: the law's own copy of the data, the clause in its box. -/
structure ClM (E : MkEnv) (wr W : World) (p b7 : Nat) (st : St) (cb : Obj) (x : Atx) (bv : Value) : Prop where
  ms : MkS E W p st
  on : Only (fun k => k = p ∨ wr.heap.size ≤ k) wr W
  d6 : W.heap[wr.heap.size]? = some cb
  d7 : W.heap[b7]? = some (.cells #[.string x.p, x.v, .int .i64 x.off, bv] 58 (0, 0))
  ok : elAtx.ok W (fun b => wr.heap.size ≤ b ∧ b ≠ b7) x
  lo : wr.heap.size < b7
  pl : p < wr.heap.size
section
variable {E : MkEnv} {wr W W' : World} {p b7 : Nat} {st st' : St} {cb : Obj} {x : Atx} {bv bv' : Value}
theorem ClM.move (h : ClM E wr W p b7 st cb x bv) (ho : Only (fun k => k = p) W W') (hm : MkS E W' p st') : ClM E wr W' p b7 st' cb x bv :=
  have hp := h.pl
  have hl := h.lo
  ⟨hm, h.on.trans (ho.mono fun k _ e => .inl e), by rw [ho.block _ (Array.getElem?_eq_some_iff.1 h.d6).1 (by omega)]; exact h.d6, by rw [ho.block _ (Array.getElem?_eq_some_iff.1 h.d7).1 (by omega)]; exact h.d7,
    elAtx.move h.ok fun b hb hF => ⟨hF, ho.block b hb (by omega)⟩, h.lo, h.pl⟩
theorem ClM.body (h : ClM E wr W p b7 st cb x bv) : ClM E wr (W.setCell ⟨b7, 3, none⟩ bv') p b7 st cb x bv' := by
  have hp := h.pl
  have hl := h.lo
  have hE := h.ms.1.lo
  have ho : Only (fun k => k = b7) W (W.setCell ⟨b7, 3, none⟩ bv') := (Only.refl (fun k => k = b7) W).setCell (p := ⟨b7, 3, none⟩) rfl _
  refine ⟨h.ms.other ho (by omega) (fun j hj e => by omega), h.on.trans (ho.mono fun k _ (e : k = b7) => .inr (by omega)), ?_, ?_, elAtx.move h.ok fun b hb hF => ⟨hF, ho.block b hb hF.2⟩, h.lo, h.pl⟩
  · rw [ho.block _ (Array.getElem?_eq_some_iff.1 h.d6).1 (by omega)]; exact h.d6
  · simp [World.setCell, Array.getElem?_modify, h.d7]
theorem ClM.start {w3 : World} {k6 : Obj} (hp : p < wr.heap.size) (hm : MkS E w3 p st) (ho : Only (fun k => k = p) (wr.alloc cb) w3) (hok : elAtx.ok w3 (fun b => (wr.alloc cb).heap.size ≤ b) x) : ClM E wr (w3.alloc (.cells #[.string x.p, x.v, .int .i64 x.off, .slice none 0 0] 58)) p w3.heap.size st cb x (.slice none 0 0) := by
  have hs : wr.heap.size + 1 ≤ w3.heap.size := by have := ho.size; simpa using this
  refine ⟨hm.kept (belowA _ _), ((Only.of_below (belowA wr cb) _).trans (ho.mono fun k _ e => .inl e)).alloc _, ?_, heap_alloc_new w3 _, elAtx.move hok fun b hb hF => ⟨⟨by have h1 : (wr.alloc cb).heap.size ≤ b := hF; simp at h1; omega, by omega⟩, (belowA w3 _).block b hb⟩, by omega, hp⟩
  rw [(belowA w3 _).block _ (by omega), ho.block _ (by simp) (by omega)]
  exact heap_alloc_new wr cb
end
theorem progS_snoc {G : Nat → Int} (s : St) (l : List DC) (t : DC) : progS G s (l ++ [t]) = clsS1 G (progS G s l) t := by unfold progS; rw [List.foldl_append]; rfl
theorem atom_k {G : Nat → Int} (s : St) (a : DA) (h : a.ts.length ≤ 8) : (atomS G s a).1.k ≤ s.k + 18 := by
  rw [(atom_run (G := G) (e := []) a [] s).2.1]
  unfold atomN
  split <;> omega

set_option maxRecDepth 100000 in
set_option maxHeartbeats 8000000 in
theorem parseMakes_walk (ca : Option Addr) (cn cc : Nat) (ga : Option Addr) (gn gc : Nat) (cs : List DC) (g : Nat → Int) (w : World) (hin : MkIn w ca cn ga gn cs g) (hlaid : LexLaid w ∧ ItoaOk w) :
    Calls Tryd.prog 4 #[.agg #[.slice ca cn cc, .slice ga gn gc]] w fun e w' => e = .returned (.bool true) ∧ Below w.heap.size w w' := by
  have HIn := hide hin
  have HLd := hide hlaid
  have HTk := hide (fun (W : World) (hb : Below w.heap.size w W) => taken_any W (hlaid.1.kept hb))
  clear hin hlaid
  go_enter Tryd.func4, Tryd.ntmps4
  go_wp2
  obtain ⟨W1, hW1⟩ : ∃ W1, W1 = (w.alloc (.cells #[.slice ca cn cc, .slice ga gn gc] 25)).alloc (.cells #[.string ⟨#[]⟩, .slice ga gn gc, .int .i64 0] 28) := ⟨_, rfl⟩
  obtain ⟨E, hE⟩ : ∃ E : MkEnv, E = ⟨w, ga, gn, gc, g⟩ := ⟨_, rfl⟩
  have HE : Hid E.ok := by rw [hE]; exact HIn.out.env HLd.out.2 (Below.refl _ _)
  have HEw : Hid (E.w0 = w) := by rw [hE]; rfl
  have HX1 : Hid (W1.heap[w.heap.size]? = some (.cells #[.slice ca cn cc, .slice ga gn gc] 25 (0, 0))) := by
    rw [hW1]
    show _ = _
    rw [(belowA (w.alloc _) _).block _ (by simp)]
    exact heap_alloc_new w _
  have hz : W1.heap.size = w.heap.size + 2 := by rw [hW1]; simp
  have HS0 : Hid (MkS E W1 (w.heap.size + 1) ⟨[], 0⟩) := by
    rw [hE, hW1]
    have h1 := mk_start w ga gn gc g (w.alloc (.cells #[.slice ca cn cc, .slice ga gn gc] 25)) (belowA _ _)
    rw [show (w.alloc (.cells #[.slice ca cn cc, .slice ga gn gc] 25)).heap.size = w.heap.size + 1 by simp] at h1
    exact h1
  rw [← hW1]
  have HZ := hide hz
  have HC0 := hide (CollM.start (El0 := elClx) (e := 58) HS0.out)
  clear hW1 hE HS0 hz
  go_loopw [4, 5] (fun ov i wl => ∃ (j : Nat) (st : St) (ps : List PCls) (xs : List Clx), j ≤ cs.length ∧ i = .int .i64 j ∧ st.k ≤ 400 * j ∧ Hid (xs.length = j) ∧ Hid (xs.map Clx.pur = ps) ∧ Hid (progS E.G ⟨[], 0⟩ (cs.take j) = (st, ps)) ∧ Hid (CollM elClx 58 E W1 wl (w.heap.size + 1) st W1.heap.size ov xs)) (fun _ i _ => cs.length - (intOf i).toNat)
  case atStart => exact ⟨0, ⟨[], 0⟩, [], [], by omega, rfl, by show 0 ≤ _; omega, rfl, rfl, rfl, HC0⟩
  case round =>
    clear HC0
    obtain ⟨j, st, ps, xs, hj, rfl, hsk, HLn, HPs, HQ, HC⟩ := hrel
    have hn := HIn.out.n
    have hcl40 : cs.length ≤ 40 := by omega
    have HXl : Hid (wr.heap[w.heap.size]? = some (.cells #[.slice ca cn cc, .slice ga gn gc] 25 (0, 0))) := by
      show _ = _
      rw [HC.out.on.block _ (Array.getElem?_eq_some_iff.1 HX1.out).1 (fun e => by have := HZ.out; rcases e with e | e <;> omega)]
      exact HX1.out
    have HBw : Hid (Below w.heap.size w wr) := by have h9 := HC.out.ms.1.bel; rw [HEw.out] at h9; exact h9
    obtain ⟨k0, k1⟩ := in_cellsM HXl.out
    obtain ⟨oa, oc, rfl, -⟩ := HC.out.gr.shape
    rw [HLn.out]
    rw [HLn.out] at HC
    by_cases hlt : j < cs.length
    · have hi : (j : Int) < (cn : Int) := by omega
      have hi8 : (j : Int) < 40 := by omega
      have hi0 : (0 : Int) ≤ (j : Int) := by omega
      have hj40 : j < 40 := by omega
      obtain ⟨c, ht⟩ : ∃ c, cs[j]? = some c := ⟨_, List.getElem?_eq_getElem hlt⟩
      obtain ⟨b3, o3, hca, hr3⟩ := HIn.out.row (by omega)
      have hct := hr3 j c ht
      have hdk := DC_ok hct
      obtain ⟨a1, l1, c1, a2, l2, c2, hh, hbd, x0, x1, x2⟩ := hct
      have y0 := kept_cell HBw.out x0
      have y1 := kept_cell HBw.out x1
      have y2 := kept_cell HBw.out x2
      have hbn := hbd.n
      have HSn : Hid (cs.take (j + 1) = cs.take j ++ [c]) := by show _ = _; rw [List.take_add_one, ht]; rfl
      have HRh : Hid (RowT E.w0 a1 l1 c.h.ts) := by rw [HEw.out]; exact hh
      have HRb : Hid (RowL E.w0 a2 l2 c.b) := by rw [HEw.out]; exact hbd
      have HAt : Hid (∀ W : World, MkS E W (w.heap.size + 1) st → Calls Tryd.prog 6 #[.pointer (some ⟨w.heap.size + 1, 0, none⟩), .agg #[.int .i64 c.h.p, .slice a1 l1 c1], .bool false] W fun e w' => ∃ x : Atx, e = .returned x.val ∧ x.pur = (atomS E.G st c.h).2 ∧ elAtx.ok w' (fun b => W.heap.size ≤ b) x ∧ MkS E w' (w.heap.size + 1) (atomS E.G st c.h).1 ∧ Only (fun j => j = w.heap.size + 1) W w') := fun W hW => by
        have h9 := atomM_any HE.out hW (by omega) c.h c1 HRh.out false
        rw [gA_false] at h9
        exact h9
      obtain ⟨s1, hs1⟩ : ∃ s1, s1 = (atomS E.G st c.h).1 := ⟨_, rfl⟩
      have hk1 : s1.k ≤ st.k + 18 := by rw [hs1]; exact atom_k st c.h hdk.1
      have HS1 := hide hs1
      have HCm := hide (HC.out.below (belowA wr (.cells #[.int .i64 c.h.p, .slice a1 l1 c1, .slice a2 l2 c2] 39)))
      rw [← hs1] at HAt
      rw [hca] at k0
      have HPdot : ∀ q : St, q.k < 100000 → Hid (∀ W : World, MkS E W (w.heap.size + 1) q → Calls Tryd.prog 9 #[.pointer (some ⟨w.heap.size + 1, 0, none⟩), .string ⟨#[46]⟩] W fun e w' => e = .returned (.int .i64 (q.off E.G : Int)) ∧ MkS E w' (w.heap.size + 1) (q.put E.G [46]) ∧ Only (fun j => j = w.heap.size + 1) W w') := fun q hq W hW => put_any HE.out hW (by omega) [46] (by decide)
      have HParr : Hid (∀ W : World, MkS E W (w.heap.size + 1) s1 → Calls Tryd.prog 9 #[.pointer (some ⟨w.heap.size + 1, 0, none⟩), .string ⟨#[58, 45]⟩] W fun e w' => e = .returned (.int .i64 (s1.off E.G : Int)) ∧ MkS E w' (w.heap.size + 1) (s1.put E.G [58, 45]) ∧ Only (fun j => j = w.heap.size + 1) W w') := fun W hW => put_any HE.out hW (by omega) [58, 45] (by decide)
      have HBy := hide (fun (W : World) (hW : MkS E W (w.heap.size + 1) (s1.put E.G [58, 45])) => bodyM_any HE.out hW (by show s1.k + 1 < _; omega) c.b c2 HRb.out)
      obtain ⟨s2, hs2⟩ : ∃ s2, s2 = (bodyS E.G (s1.put E.G [58, 45]) c.b).1 := ⟨_, rfl⟩
      have hk2 : s2.k ≤ s1.k + 1 + 320 := by
        rw [hs2]
        have h1 := bodyS_k (G := E.G) (s1.put E.G [58, 45]) c.b hdk.2.1
        have h2 := hdk.2.2.1
        have h3 : (s1.put E.G [58, 45]).k = s1.k + 1 := rfl
        omega
      have HS2 := hide hs2
      rw [← hs2] at HBy
      have HPd1 := HPdot s1 (by omega)
      have HPd2 := HPdot s2 (by omega)
      have HStep : Hid (progS E.G ⟨[], 0⟩ (cs.take (j + 1)) = clsS1 E.G (st, ps) c) := by show _ = _; rw [HSn.out, progS_snoc, HQ.out]
      have hob : ∀ k, (Value.slice oa j oc).ownBlock = some k → k < wr.heap.size := own_lt6 HC.out.gr.1
      have HOb := hide hob
      by_cases h0 : c.b = []
      · have e2 : l2 = 0 := by rw [h0, List.length_nil] at hbn; omega
        have el : ¬ (0 : Int) < (l2 : Int) := by omega
        have HEnd : Hid (clsS1 E.G (st, ps) c = (s1.put E.G [46], ps ++ [⟨(atomS E.G st c.h).2, []⟩])) := by
          show _ = _
          unfold clsS1
          simp only
          rw [if_pos h0, if_pos h0, HS1.out]
        clear e2 hbn h0 hbd hdk hca hn hr3 ht x0 x1 x2 hh hs1 hs2 HPdot hob HParr HBy HPd2
        go_wp2_with (first
          | (go_at_call 6; refine (HAt.out _ HCm.out.ms).mono ?_; intro e w3 hqq; obtain ⟨⟨ap, av, aoff, ats⟩, rfl, hpur, hok, hm3, ho3⟩ := hqq; obtain ⟨va, vc, rfl, -⟩ := (show Lst elTrm _ _ av ats from hok.2.2).shape; have HM3 := hide (ClM.start (k6 := (.cells #[.int .i64 c.h.p, .slice a1 l1 c1, .slice a2 l2 c2] 39)) (by have h8 := HC.out.pl; have h9 := HC.out.on.size; omega) hm3 ho3 hok); have HPu := hide hpur; clear hm3 ho3 hpur hok; unfold Atx.val; obtain ⟨g0, g1, g2⟩ := c3_cells HM3.out.d6)
          | (go_at_call 9; (with_reducible refine (HPd1.out _ HM3.out.ms).mono ?_); rintro e w8 ⟨rfl, hm8, ho8⟩; have HM8 := hide (HM3.out.move ho8 hm8); have HLb8 : Hid (Lst elLix w8 (fun b => wr.heap.size ≤ b) (.slice none 0 0) []) := Lst.nil _ _ _; clear hm8 ho8; obtain ⟨f0, f1, f2, f3, -⟩ := x4_cells HM8.out.d7)
          | (at_builtin; obtain ⟨i0, hi0', hz0, hz1, hz2⟩ := info_parts Tryd.infoCls; have HC8 := hide ((HC.out.jump HM8.out.on HM8.out.ms).below (belowA w8 (.cells #[.string ap, .slice va ats.length vc, .int .i64 aoff, .slice none 0 0] 58))); have HOk8 : Hid (elClx.ok (w8.alloc (.cells #[.string ap, .slice va ats.length vc, .int .i64 aoff, .slice none 0 0] 58)) (fun k => W1.heap.size ≤ k ∧ (Value.slice oa j oc).ownBlock ≠ some k) ⟨⟨ap, .slice va ats.length vc, aoff, ats⟩, .slice none 0 0, []⟩) := cls_hereM (elAtx.move HM8.out.ok fun b hb hF => ⟨hF.1, rfl⟩) HLb8.out HC.out.hi HOb.out; refine wpList_push (w0 := w8.alloc (.cells #[.string ap, .slice va ats.length vc, .int .i64 aoff, .slice none 0 0] 58)) elClx rfl _ _ 55 rfl W1.heap.size 58 i0 _ 72 Tryd.underlying55 hi0' hz0 hz1 hz2 rfl (by decide) _ xs j HLn.out rfl HC8.out.gr ⟨⟨ap, .slice va ats.length vc, aoff, ats⟩, .slice none 0 0, []⟩ w8.heap.size 1 rfl (fun j u hu => new_cells (cs := #[.string ap, .slice va ats.length vc, .int .i64 aoff, .slice none 0 0]) j u hu) HOk8.out (by omega) (Below.refl _ _) HC8.out.hi ?_; intro g9 cap9 w9 HG9 HB9 HGr; clear HB9 hi0' hz0 hz1 hz2; have HC9 := hide (HC8.out.grown HGr.out HG9.out); clear HG9 HGr HC8 HOk8))
        go_roundw
        case rel => exact ⟨j + 1, s1.put E.G [46], ps ++ [⟨(atomS E.G st c.h).2, []⟩], xs ++ [⟨⟨ap, .slice va ats.length vc, aoff, ats⟩, .slice none 0 0, []⟩], by omega, by go_num, by show s1.k + 1 ≤ _; omega, by show List.length _ = _; rw [List.length_append, HLn.out]; rfl, by show List.map _ _ = _; rw [List.map_append, HPs.out]; rw [← HPu.out]; rfl, by show _ = _; rw [HStep.out, HEnd.out], HC9⟩
        case measure => simp [intOf]; omega
      · have el : (0 : Int) < (l2 : Int) := by
          have h1 := List.length_pos_iff.2 h0
          omega
        have HEnd : Hid (clsS1 E.G (st, ps) c = (s2.put E.G [46], ps ++ [⟨(atomS E.G st c.h).2, (bodyS E.G (s1.put E.G [58, 45]) c.b).2⟩])) := by
          show _ = _
          unfold clsS1
          simp only
          rw [if_neg h0, if_neg h0, HS2.out, HS1.out]
        clear hbn h0 hbd hdk hca hn hr3 ht x0 x1 x2 hh hs1 hs2 HPdot hob HPd1
        go_wp2_with (first
          | (go_at_call 6; refine (HAt.out _ HCm.out.ms).mono ?_; intro e w3 hqq; obtain ⟨⟨ap, av, aoff, ats⟩, rfl, hpur, hok, hm3, ho3⟩ := hqq; obtain ⟨va, vc, rfl, -⟩ := (show Lst elTrm _ _ av ats from hok.2.2).shape; have HM3 := hide (ClM.start (k6 := (.cells #[.int .i64 c.h.p, .slice a1 l1 c1, .slice a2 l2 c2] 39)) (by have h8 := HC.out.pl; have h9 := HC.out.on.size; omega) hm3 ho3 hok); have HPu := hide hpur; clear hm3 ho3 hpur hok; unfold Atx.val; obtain ⟨g0, g1, g2⟩ := c3_cells HM3.out.d6)
          | (go_at_call 9; (with_reducible refine (HParr.out _ HM3.out.ms).mono ?_); rintro e w5 ⟨rfl, hm5, ho5⟩; have HM5 := hide (HM3.out.move ho5 hm5); clear hm5 ho5; obtain ⟨g0, g1, g2⟩ := c3_cells HM5.out.d6)
          | (go_at_call 13; refine (HBy.out _ HM5.out.ms).mono ?_; intro e w6 hqq; obtain ⟨bv, rfl, ys, hpu, hxl, hgr, hms, hon⟩ := hqq; obtain ⟨ba, bc, rfl, -⟩ := hgr.shape; have hm6 := HM5.out.move hon hms; have HM6 := hide hm6; have HM7 : Hid (ClM E wr (w6.setCell ⟨w3.heap.size, 3, none⟩ (.slice ba ys.length bc)) (w.heap.size + 1) w3.heap.size s2 (.cells #[.int .i64 c.h.p, .slice a1 l1 c1, .slice a2 l2 c2] 39) ⟨ap, .slice va ats.length vc, aoff, ats⟩ (.slice ba ys.length bc)) := hm6.body; have HPuB := hide hpu; have hlo5 := (Array.getElem?_eq_some_iff.1 HM5.out.d7).1; have HLb7 : Hid (Lst elLix (w6.setCell ⟨w3.heap.size, 3, none⟩ (.slice ba ys.length bc)) (fun b => w3.heap.size < b) (.slice ba ys.length bc) ys) := (hgr.new (by omega)).move fun b hb hF => ⟨Nat.lt_of_lt_of_le hlo5 hF, (((Only.refl (fun k => k = w3.heap.size) w6).setCell (p := ⟨w3.heap.size, 3, none⟩) rfl (.slice ba ys.length bc)).block b hb (fun e => by have h9 : _ ≤ b := hF; omega))⟩; clear hpu hgr hms hon hm6 hlo5; obtain ⟨f0, f1, f2, f3, z3⟩ := x4_cells HM6.out.d7)
          | (go_at_call 9; (with_reducible refine (HPd2.out _ HM7.out.ms).mono ?_); rintro e w8 ⟨rfl, hm8, ho8⟩; have HM8 := hide (HM7.out.move ho8 hm8); have HLb8 : Hid (Lst elLix w8 (fun b => wr.heap.size ≤ b) (.slice ba ys.length bc) ys) := HLb7.out.move fun b hb hF => ⟨by have h9 : w3.heap.size < b := hF; have h8 := HM7.out.lo; omega, ho8.block b hb (by have h9 : w3.heap.size < b := hF; have h8 := HM7.out.lo; have h7 := HM7.out.pl; omega)⟩; clear hm8 ho8; obtain ⟨f0, f1, f2, f3, -⟩ := x4_cells HM8.out.d7)
          | (at_builtin; obtain ⟨i0, hi0', hz0, hz1, hz2⟩ := info_parts Tryd.infoCls; have HC8 := hide ((HC.out.jump HM8.out.on HM8.out.ms).below (belowA w8 (.cells #[.string ap, .slice va ats.length vc, .int .i64 aoff, .slice ba ys.length bc] 58))); have HOk8 : Hid (elClx.ok (w8.alloc (.cells #[.string ap, .slice va ats.length vc, .int .i64 aoff, .slice ba ys.length bc] 58)) (fun k => W1.heap.size ≤ k ∧ (Value.slice oa j oc).ownBlock ≠ some k) ⟨⟨ap, .slice va ats.length vc, aoff, ats⟩, .slice ba ys.length bc, ys⟩) := cls_hereM (elAtx.move HM8.out.ok fun b hb hF => ⟨hF.1, rfl⟩) HLb8.out HC.out.hi HOb.out; refine wpList_push (w0 := w8.alloc (.cells #[.string ap, .slice va ats.length vc, .int .i64 aoff, .slice ba ys.length bc] 58)) elClx rfl _ _ 55 rfl W1.heap.size 58 i0 _ 72 Tryd.underlying55 hi0' hz0 hz1 hz2 rfl (by decide) _ xs j HLn.out rfl HC8.out.gr ⟨⟨ap, .slice va ats.length vc, aoff, ats⟩, .slice ba ys.length bc, ys⟩ w8.heap.size 1 rfl (fun j u hu => new_cells (cs := #[.string ap, .slice va ats.length vc, .int .i64 aoff, .slice ba ys.length bc]) j u hu) HOk8.out (by omega) (Below.refl _ _) HC8.out.hi ?_; intro g9 cap9 w9 HG9 HB9 HGr; clear HB9 hi0' hz0 hz1 hz2; have HC9 := hide (HC8.out.grown HGr.out HG9.out); clear HG9 HGr HC8 HOk8))
        go_roundw
        case rel => exact ⟨j + 1, s2.put E.G [46], ps ++ [⟨(atomS E.G st c.h).2, (bodyS E.G (s1.put E.G [58, 45]) c.b).2⟩], xs ++ [⟨⟨ap, .slice va ats.length vc, aoff, ats⟩, .slice ba ys.length bc, ys⟩], by omega, by go_num, by show s2.k + 1 ≤ _; omega, by show List.length _ = _; rw [List.length_append, HLn.out]; rfl, by show List.map _ _ = _; rw [List.map_append, HPs.out]; rw [← HPu.out, ← HPuB.out]; rfl, by show _ = _; rw [HStep.out, HEnd.out], HC9⟩
        case measure => simp [intOf]; omega
    · obtain rfl : j = cs.length := by omega
      rw [List.take_of_length_le (Nat.le_refl _)] at HQ
      have hend : ¬ ((cs.length : Int) < (cn : Int)) ∨ ((cs.length : Int) < (cn : Int) ∧ ¬ (cs.length : Int) < 40) := by omega
      obtain ⟨T, hT⟩ : ∃ T : ByteArray, T = ⟨((st.put E.G []).b).toArray⟩ := ⟨_, rfl⟩
      have HT := hide hT
      have HOk : Hid (∀ c ∈ cs, DOk c) := fun c hc => by
        obtain ⟨i, hi⟩ := List.getElem?_of_mem hc
        obtain ⟨b3, o3, hca, hr3⟩ := HIn.out.row (by have := (List.getElem?_eq_some_iff.1 hi).1; omega)
        exact DC_ok (hr3 i c hi)
      have HQt : Hid (T.size ≤ 65536 → progP (scanX T).2.1 ((scanX T).2.2 : Int) (scanX T).1 = .ok ps []) := fun hs => by
        have h9 := prog_text (G := E.G) HOk.out hcl40 (T := T) (by rw [HQ.out]; exact hT) hs
        rw [HQ.out] at h9
        exact h9
      have HPe : Hid (∀ W : World, MkS E W (w.heap.size + 1) st → Calls Tryd.prog 9 #[.pointer (some ⟨w.heap.size + 1, 0, none⟩), .string ⟨#[]⟩] W fun e w' => e = .returned (.int .i64 (st.off E.G : Int)) ∧ MkS E w' (w.heap.size + 1) (st.put E.G []) ∧ Only (fun j => j = w.heap.size + 1) W w') := fun W hW => put_any HE.out hW (by omega) [] (by decide)
      have HKs : Hid (st.k ≤ 100000) := by show _ ≤ _; omega
      clear hn hT
      by_cases hs : T.size ≤ 65536
      · have HQ2 := hide (HQt.out hs)
        have hle : decide ((65536 : Int) < (T.size : Int)) = false := decide_eq_false (by omega)
        have hle2 : ¬ (65536 : Int) < (T.size : Int) := by omega
        have hq := fq_zero
        clear HQt hs
        rcases hend with hi | ⟨hi, hi8⟩ <;>
        · go_wp2_with (first
            | (go_at_call 9; (with_reducible refine (HPe.out _ HC.out.ms).mono ?_); rintro e w4 ⟨rfl, hm4, ho4⟩; have HM4 := hide hm4; have HLw4 : Hid (Lst elClx w4 (fun b => W1.heap.size ≤ b) (.slice oa cs.length oc) xs) := (HC.out.gr.new (by rw [HLn.out]; omega)).move fun b hb hF => ⟨hF, ho4.block b hb (by have h9 : W1.heap.size ≤ b := hF; have h8 := HZ.out; omega)⟩; have HBq : Hid (Below w.heap.size w w4) := (by have h9 := hm4.1.bel; rw [HEw.out] at h9; exact h9); clear hm4 ho4; have d0 : w4.cell? ⟨w.heap.size + 1, 0, none⟩ = some (.string T) := (by rw [HT.out]; exact (mk_cells HM4.out.1.blk).1.1))
            | (go_at_call 14; refine (parseProgram_any T _ (HLd.out.1.kept (HBq.out)) (by have h9 := HM4.out.2; have h8 : (st.put E.G []).k = st.k + 1 := rfl; have h7 := HKs.out; rw [HT.out, arr_size]; omega)).mono ?_; intro e w5 hqq; obtain ⟨qv, qs, rfl, hpq, hlq, hlst, hb5⟩ := readProg_ok hqq HQ2.out; clear hqq; obtain ⟨qa, qc, rfl, -⟩ := hlst.shape; have HB5 := hide (belowt2 hb5 (below2a w5 (.cells #[.slice qa qs.length qc] 61) (.cells #[.int .i64 0, .int .i64 0, .int .i64 0] 45))); have d1 := kept_cell HB5.out d0; have HLq := hide (Lst.move hlst (G := fun _ => True) fun b hb _ => ⟨trivial, (below2a w5 (.cells #[.slice qa qs.length qc] 61) (.cells #[.int .i64 0, .int .i64 0, .int .i64 0] 45)).block b hb⟩); have HPq := hide hpq; unfold faultV; clear hb5 hlst hpq)
            | (go_at_call 15; refine (sameClauses_any HLq.out (Lst.move HLw4.out (G := fun _ => True) fun b hb _ => ⟨trivial, HB5.out.block b hb⟩) (by rw [HPq.out, HPs.out])).mono ?_; rintro e w6 ⟨rfl, hb6⟩; have HB6 := hide (belowt2 (belowt2 HBq.out HB5.out) hb6); clear hb6)
            | (go_at_call 11; refine (HTk.out _ HB6.out).mono ?_; rintro e w7 ⟨rfl, hb7⟩; have HB7 := hide (belowt2 HB6.out hb7); clear hb7))
          go_ret
          exact ⟨rfl, HB7.out⟩
      · have HQ2 := hide (prog_long hs)
        have hle : decide ((65536 : Int) < (T.size : Int)) = true := decide_eq_true (by omega)
        have hle2 : (65536 : Int) < (T.size : Int) := by omega
        have hq := fq_oneM
        clear HQt hs
        rcases hend with hi | ⟨hi, hi8⟩ <;>
        · go_wp2_with (first
            | (go_at_call 9; (with_reducible refine (HPe.out _ HC.out.ms).mono ?_); rintro e w4 ⟨rfl, hm4, ho4⟩; have HM4 := hide hm4; have HLw4 : Hid (Lst elClx w4 (fun b => W1.heap.size ≤ b) (.slice oa cs.length oc) xs) := (HC.out.gr.new (by rw [HLn.out]; omega)).move fun b hb hF => ⟨hF, ho4.block b hb (by have h9 : W1.heap.size ≤ b := hF; have h8 := HZ.out; omega)⟩; have HBq : Hid (Below w.heap.size w w4) := (by have h9 := hm4.1.bel; rw [HEw.out] at h9; exact h9); clear hm4 ho4; have d0 : w4.cell? ⟨w.heap.size + 1, 0, none⟩ = some (.string T) := (by rw [HT.out]; exact (mk_cells HM4.out.1.blk).1.1))
            | (go_at_call 14; refine (parseProgram_any T _ (HLd.out.1.kept (HBq.out)) (by have h9 := HM4.out.2; have h8 : (st.put E.G []).k = st.k + 1 := rfl; have h7 := HKs.out; rw [HT.out, arr_size]; omega)).mono ?_; intro e w5 hqq; obtain ⟨rfl, hb5⟩ := readProg_bad hqq HQ2.out; clear hqq; have HB5 := hide (belowt2 hb5 (below2a w5 (.cells #[.slice none 0 0] 61) (.cells #[.int .i64 1, .int .i64 0, .int .i64 0] 45))); have HB6 := hide (belowt2 HBq.out HB5.out); have d1 := kept_cell HB5.out d0; unfold faultV; clear hb5)
            | (go_at_call 11; refine (HTk.out _ HB6.out).mono ?_; rintro e w7 ⟨rfl, hb7⟩; have HB7 := hide (belowt2 HB6.out hb7); clear hb7))
          go_ret
          exact ⟨rfl, HB7.out⟩
end Go.Proofs.YtilckhdaijfddaaDoor
