/- The law's own sameClauses at equal lists of clauses. parse.read: a text's tokens, taken by a rule; where it gives up, the fault. parse.read: a text's tokens, taken by a rule; where it gives up, the fault. parse.read: a text's tokens, taken by a rule; where it gives up, the fault. parse.Program, parse.Facts, parse.Query. ParsePrograms: every answer of Program is the document's. -/
import Derived.Test.YtmdhjggijlhhgaaGreatDoorProg
import Derived.Test.YtmdhjggijlhhgaaGreatDoorPkF
import Derived.Test.YtmdhjggijlhhgaaGreatDoorPkE
import Derived.Test.YtmdhjggijlhhgaaGreatDoorParseCatch
import Derived.Test.YtmdhjggijlhhgaaGreatDoorPkD

namespace Go.Proofs.YtmdhjggijlhhgaaGreatDoor
set_option linter.unusedSimpArgs false
set_option linter.unusedVariables false
open Go.RowKit

set_option maxRecDepth 100000 in
set_option maxHeartbeats 4000000 in
theorem sameClauses_any {w : World} {F G : Nat → Prop} {v1 v2 : Value} {l m : List Clx} (h1 : Lst elClx w F v1 l) (h2 : Lst elClx w G v2 m) (hp : l.map Clx.pur = m.map Clx.pur) :
    Calls Tryz.prog 18 #[v1, v2] w fun e w' => e = .returned (.bool true) ∧ Below w.heap.size w w' := by
  obtain ⟨a1, c1, rfl, -, -, hl1⟩ := h1.shape
  obtain ⟨a2, c2, rfl, -, -, hl2⟩ := h2.shape
  have hl : l.length = m.length := by have := congrArg List.length hp; simpa using this
  have H1 := hide h1.all
  have H2 := hide h2.all
  have HP := hide hp
  have HE := hide hl
  obtain ⟨n, hn⟩ : ∃ n, n = l.length := ⟨_, rfl⟩
  rw [← hl, ← hn]
  rw [← hn] at hl1
  rw [← hl] at H2
  rw [← hn] at H1 H2
  have HN := hide hn
  clear h1 h2 hp hl hl2 hn
  have hnn : ((n : Int) != (n : Int)) = false := by simp
  go_enter Tryz.func18, Tryz.ntmps18
  go_wp2
  go_loopw [13] (fun i wl => ∃ k : Nat, k ≤ n ∧ i = .int .i64 k ∧ Hid (Below w.heap.size w wl)) (fun i _ => n - (intOf i).toNat)
  case atStart => exact ⟨0, by omega, rfl, Below.refl _ _⟩
  case round =>
    obtain ⟨k, hk, rfl, HB⟩ := hrel
    by_cases hlt : k < n
    · have hi : (k : Int) < (n : Int) := by omega
      have hi0 : (0 : Int) ≤ (k : Int) := by omega
      obtain ⟨b, bo, rfl, -, -, hrow⟩ := H1.out.row (by have := HN.out; omega)
      obtain ⟨c, co, rfl, -, -, krow⟩ := H2.out.row (by have := HN.out; have := HE.out; omega)
      obtain ⟨x, hx⟩ : ∃ x, l[k]? = some x := ⟨_, List.getElem?_eq_getElem (by have := HN.out; omega)⟩
      obtain ⟨y, hy⟩ : ∃ y, m[k]? = some y := ⟨_, List.getElem?_eq_getElem (by have := HN.out; have := HE.out; omega)⟩
      have hpq := pur_at HP.out hx hy
      have x0 := over_cell (kept_cell HB.out (hrow k _ hx 0 _ rfl))
      have x1 := over_cell (kept_cell HB.out (hrow k _ hx 1 _ rfl))
      have x2 := over_cell (kept_cell HB.out (hrow k _ hx 2 _ rfl))
      have x3 := over_cell (kept_cell HB.out (hrow k _ hx 3 _ rfl))
      have y0 := over_cell (kept_cell HB.out (krow k _ hy 0 _ rfl))
      have y1 := over_cell (kept_cell HB.out (krow k _ hy 1 _ rfl))
      have y2 := over_cell (kept_cell HB.out (krow k _ hy 2 _ rfl))
      have y3 := over_cell (kept_cell HB.out (krow k _ hy 3 _ rfl))
      have hxo := H1.out.ok (List.mem_of_getElem? hx)
      have hyo := H2.out.ok (List.mem_of_getElem? hy)
      obtain ⟨⟨xp, xv, xoff, xts⟩, xb, xls⟩ := x
      obtain ⟨⟨yp, yv, yoff, yts⟩, yb, yls⟩ := y
      simp only [elClx, Nat.add_zero] at x0 x1 x2 x3 y0 y1 y2 y3
      simp only [Clx.pur, Atx.pur, PCls.mk.injEq, PAtom.mk.injEq] at hpq
      obtain ⟨⟨rfl, rfl, rfl⟩, hpb⟩ := hpq
      have HS := hide (fun x => sameAtom_any xp xoff xts xv yv (((show Lst elTrm w (fun _ => True) xv xts from hxo.1.2.2).kept HB.out).kept (over_below _ x)) (((show Lst elTrm w (fun _ => True) yv xts from hyo.1.2.2).kept HB.out).kept (over_below _ x)))
      have HT := hide (fun x => sameBody_any (((show Lst elLix w (fun _ => True) xb xls from hxo.2).kept HB.out).kept (over_below _ x)) (((show Lst elLix w (fun _ => True) yb yls from hyo.2).kept HB.out).kept (over_below _ x)) hpb)
      obtain ⟨xa, xc, rfl, -⟩ := (show Lst elTrm w (fun _ => True) xv xts from hxo.1.2.2).shape
      obtain ⟨ya, yc, rfl, -⟩ := (show Lst elTrm w (fun _ => True) yv xts from hyo.1.2.2).shape
      obtain ⟨xd, xe, rfl, -⟩ := (show Lst elLix w (fun _ => True) xb xls from hxo.2).shape
      obtain ⟨yd, ye, rfl, -⟩ := (show Lst elLix w (fun _ => True) yb yls from hyo.2).shape
      have hll : yls.length = xls.length := by have := congrArg List.length hpb; simp only [List.length_map] at this; exact this.symm
      rw [hll] at HT y3
      clear hrow hx krow hy hxo hyo hpb hll
      go_wp2
      refine wp_region_over (fun W => W = wr) (by kernel_rfl) (by kernel_rfl) rfl ?_
      rintro W rfl
      repeat (go_big_quiet_step (first | (go_at_call 26; exact calls_over (HS.out _)) | (go_at_call 15; exact calls_over (HT.out _))))
      refine wpQuiet_nil ?_
      rintro _ ⟨z, rfl⟩
      have HB3 := hide (HB.out.trans ((over_below W z).mono HB.out.size))
      clear x0 x1 x2 x3 y0 y1 y2 y3 HS HT
      go_wp2
      go_roundw
      case rel => exact ⟨k + 1, by omega, by go_num, HB3⟩
      case measure => simp [intOf]; omega
    · obtain rfl : k = n := by omega
      have hi : ¬ (k : Int) < (k : Int) := by omega
      go_wp2
      go_ret
      exact ⟨rfl, HB.out⟩
end Go.Proofs.YtmdhjggijlhhgaaGreatDoor

namespace Go.Proofs.YtmdhjggijlhhgaaGreatDoor
set_option linter.unusedSimpArgs false
set_option linter.unusedVariables false
open Go.RowKit

def ReadProg (w : World) (s : ByteArray) (e : Ending) (w' : World) : Prop :=
  match progP (scanX s).2.1 ((scanX s).2.2 : Int) (scanX s).1 with
  | .bad ec eo => e = .returned (.tuple #[.agg #[.slice none 0 0], faultV ec eo]) ∧ Below w.heap.size w w'
  | .ok b _ => ∃ v cs, e = .returned (.tuple #[.agg #[v], faultV 0 0]) ∧ cs.map Clx.pur = b ∧ cs.length ≤ 512 ∧ Lst elClx w' (fun k => w.heap.size ≤ k) v cs ∧ Below w.heap.size w w'

set_option maxRecDepth 100000 in
set_option maxHeartbeats 2000000 in
theorem readProg_any (s : ByteArray) (w : World) (hl : LexLaid w) (hs : s.size ≤ 140737488351232) :
    Calls Tryz.prog 30 #[.string s, .func (.func 31) #[] #[]] w (ReadProg w s) := by
  have hmf : ∀ (fn : Fn) (first cap : Array Value) (w : World), (Instr.makeFunc fn first cap).run Tryz.prog w = .ok (.func fn first cap) w := fun _ _ _ _ => rfl
  have HSc := hide (fun (W : World) (hb : Below w.heap.size w W) => scan_any s W (hl.kept hb) hs)
  clear hl hs
  unfold faultVal at HSc
  obtain ⟨res, hres⟩ : ∃ res, progP (scanX s).2.1 ((scanX s).2.2 : Int) (scanX s).1 = res := ⟨_, rfl⟩
  obtain ⟨Post, hPost⟩ : ∃ Post : Ending → World → Prop, Post = ReadProg w s := ⟨_, rfl⟩
  rw [← hPost]
  have PB : Hid (∀ ec eo w', res = .bad ec eo → Below w.heap.size w w' → Post (.returned (.tuple #[.agg #[.slice none 0 0], .agg #[.int .i64 ec, .int .i64 0, .int .i64 eo]])) w') := fun ec eo w' hr hb => by
    rw [hPost]; unfold ReadProg; rw [hres, hr]; exact ⟨rfl, hb⟩
  have PG : Hid (∀ b r v cs w', res = .ok b r → cs.map Clx.pur = b → cs.length ≤ 512 → Lst elClx w' (fun k => w.heap.size ≤ k) v cs → Below w.heap.size w w' → Post (.returned (.tuple #[.agg #[v], .agg #[.int .i64 0, .int .i64 0, .int .i64 0]])) w') := fun b r v cs w' hr h1 h2 h3 h4 => by
    rw [hPost]; unfold ReadProg; rw [hres, hr]; exact ⟨v, cs, rfl, h1, h2, h3, h4⟩
  have HR := hide hres
  clear hPost hres
  go_enter_defers Tryz.func30, Tryz.ntmps30
  go_wp2_with (go_at_call 34; refine (HSc.out _ (below2a _ _ _)).mono ?_; rintro e w1 ⟨v, rfl, ho1, hb1⟩; obtain ⟨ao, cap, rfl⟩ := own_shape ho1; have HO1 := hide ho1; have HB1 := hide hb1; clear ho1 hb1)
  have hs1 : w.heap.size + 2 ≤ w1.heap.size := by have := HB1.out.size; simp at this; omega
  have HA := hide (scan_ahead HB1.out HO1.out (W2 := (w1.alloc (.cells #[.int .i64 (scanX s).2.1, .int .i64 0, .int .i64 ((scanX s).2.2 : Int)] 27)).alloc (.cells #[.slice ao (scanX s).1.length cap, .int .i64 (scanX s).2.1, .int .i64 0, .int .i64 ((scanX s).2.2 : Int), .int .i64 0] 82)) (below2a w1 _ _) rfl (p := w1.heap.size + 1) (by omega) (by have := heap_alloc_new (w1.alloc (.cells #[.int .i64 (scanX s).2.1, .int .i64 0, .int .i64 ((scanX s).2.2 : Int)] 27)) (.cells #[.slice ao (scanX s).1.length cap, .int .i64 (scanX s).2.1, .int .i64 0, .int .i64 ((scanX s).2.2 : Int), .int .i64 0] 82); simpa using this))
  have HP := program_any HA.out
  rw [HR.out] at HP
  have HK : Hid (∀ w2, Only (fun k => k = w1.heap.size + 1) ((w1.alloc (.cells #[.int .i64 (scanX s).2.1, .int .i64 0, .int .i64 ((scanX s).2.2 : Int)] 27)).alloc (.cells #[.slice ao (scanX s).1.length cap, .int .i64 (scanX s).2.1, .int .i64 0, .int .i64 ((scanX s).2.2 : Int), .int .i64 0] 82)) w2 → w2.heap[w.heap.size]? = some (.cells #[.slice none 0 0] 42 (0, 0)) ∧ w2.heap[w.heap.size + 1]? = some (.cells #[.int .i64 0, .int .i64 0, .int .i64 0] 27 (0, 0)) ∧ Only (fun k => w.heap.size ≤ k) w w2) := fun w2 ho => by
    have q : ∀ k, k < w.heap.size + 2 → w2.heap[k]? = ((w.alloc (.cells #[.slice none 0 0] 42)).alloc (.cells #[.int .i64 0, .int .i64 0, .int .i64 0] 27)).heap[k]? := fun k hk => by
      rw [ho.block k (by simp; omega) (by omega), (below2a w1 _ _).block k (by omega), HB1.out.block k (by simp; omega)]
    refine ⟨?_, ?_, ((Only.of_below (below2a w _ _) _).trans (Only.of_below HB1.out _)).trans ((Only.of_below (below2a w1 _ _) _).trans (ho.mono fun k _ (e : k = w1.heap.size + 1) => by omega))⟩
    · rw [q _ (by omega), (belowA (w.alloc _) _).block _ (by simp)]; exact heap_alloc_new w _
    · rw [q _ (by omega)]
      have := heap_alloc_new (w.alloc (.cells #[.slice none 0 0] 42)) (.cells #[.int .i64 0, .int .i64 0, .int .i64 0] 27)
      simpa using this
  clear HO1 HB1 HSc HR
  cases res with
  | bad ec eo =>
    refine HP.mono ?_
    intro e w2 hq
    obtain ⟨rfl, ho2⟩ := progPost_bad hq
    obtain ⟨k0, k1, k2⟩ := HK.out w2 ho2
    clear hq HP HA
    refine leaves_cons (f := 48) (args := #[.pointer (some ⟨w.heap.size + 1, 0, none⟩)]) (by simp) (by simp [go_sem]) ?_
    refine (caughtProg (w.heap.size + 1) ec eo [] w2 k1).mono ?_
    rintro e u' w3 ⟨rfl, rfl, h3, o3⟩
    have h0 : w3.heap[w.heap.size]? = some (.cells #[.slice none 0 0] 42 (0, 0)) := by rw [o3.block _ (Array.getElem?_eq_some_iff.1 k0).1 (by omega)]; exact k0
    have c0 : w3.cell? ⟨w.heap.size, 0, none⟩ = some (.slice none 0 0) := by simp [World.cell?, h0]
    obtain ⟨⟨d0, d1, d2⟩, -⟩ := fault_cells h3
    have HF := hide (PB.out ec eo w3 rfl ((k2.trans (o3.mono fun k _ (e : k = w.heap.size + 1) => by omega)).below (Nat.le_refl _) (fun k hk e => by omega)))
    clear o3 h3 h0 k0 k1 k2
    simp [Leaves, settle, results, Tryz.results30, go_sem, c0, d0, d1, d2]
    exact HF.out
  | ok b r =>
    refine HP.mono ?_
    intro e w2 hq
    obtain ⟨v, cs, rfl, hpur, hlen, hgr, ha2, ho2⟩ := progPost_ok hq
    obtain ⟨va, vc, rfl, -⟩ := hgr.shape
    obtain ⟨k0, k1, k2⟩ := HK.out w2 ho2
    have HPu := hide hpur
    have HLn := hide hlen
    have HG := hide (hgr.new (by omega))
    have HK2 := hide k2
    clear hq HP HA hpur hlen hgr ha2 ho2
    have c0 : w2.cell? ⟨w.heap.size, 0, none⟩ = some (.slice none 0 0) := by simp [World.cell?, k0]
    have z0 : w2.frozen? ⟨w.heap.size, 0, none⟩ = false := by simp [World.frozen?, k0]
    obtain ⟨⟨d0, d1, d2⟩, ⟨y0, y1, y2⟩⟩ := fault_cells k1
    go_wp2_with fail
    have hO : Only (fun k => k = w.heap.size ∨ k = w.heap.size + 1) w2 ((((w2.setCell ⟨w.heap.size, 0, none⟩ (.slice va cs.length vc)).setCell ⟨w.heap.size + 1, 0, none⟩ (.int .i64 0)).setCell ⟨w.heap.size + 1, 1, none⟩ (.int .i64 0)).setCell ⟨w.heap.size + 1, 2, none⟩ (.int .i64 0)) := ((((Only.refl (fun k => k = w.heap.size ∨ k = w.heap.size + 1) w2).setCell (p := ⟨w.heap.size, 0, none⟩) (.inl rfl) _).setCell (p := ⟨w.heap.size + 1, 0, none⟩) (.inr rfl) _).setCell (p := ⟨w.heap.size + 1, 1, none⟩) (.inr rfl) _).setCell (p := ⟨w.heap.size + 1, 2, none⟩) (.inr rfl) _
    have hV0 : ((((w2.setCell ⟨w.heap.size, 0, none⟩ (.slice va cs.length vc)).setCell ⟨w.heap.size + 1, 0, none⟩ (.int .i64 0)).setCell ⟨w.heap.size + 1, 1, none⟩ (.int .i64 0)).setCell ⟨w.heap.size + 1, 2, none⟩ (.int .i64 0)).heap[w.heap.size]? = some (.cells #[.slice va cs.length vc] 42 (0, 0)) := by simp [World.setCell, Array.getElem?_modify, k0]
    have hV1 : ((((w2.setCell ⟨w.heap.size, 0, none⟩ (.slice va cs.length vc)).setCell ⟨w.heap.size + 1, 0, none⟩ (.int .i64 0)).setCell ⟨w.heap.size + 1, 1, none⟩ (.int .i64 0)).setCell ⟨w.heap.size + 1, 2, none⟩ (.int .i64 0)).heap[w.heap.size + 1]? = some (.cells #[.int .i64 0, .int .i64 0, .int .i64 0] 27 (0, 0)) := by simp [World.setCell, Array.getElem?_modify, k1]
    generalize (((w2.setCell ⟨w.heap.size, 0, none⟩ (.slice va cs.length vc)).setCell ⟨w.heap.size + 1, 0, none⟩ (.int .i64 0)).setCell ⟨w.heap.size + 1, 1, none⟩ (.int .i64 0)).setCell ⟨w.heap.size + 1, 2, none⟩ (.int .i64 0) = V at hO hV0 hV1 ⊢
    clear c0 z0 d0 d1 d2 y0 y1 y2 k0 k1
    refine leaves_cons (f := 48) (args := #[.pointer (some ⟨w.heap.size + 1, 0, none⟩)]) (by simp) (by simp [go_sem]) ?_
    refine (idleProg ⟨w.heap.size + 1, 0, none⟩ V).mono ?_
    rintro e u' w3 ⟨rfl, rfl, hw⟩
    have hw := hw.symm
    subst hw
    have c0 : V.cell? ⟨w.heap.size, 0, none⟩ = some (.slice va cs.length vc) := by simp [World.cell?, hV0]
    obtain ⟨⟨d0, d1, d2⟩, -⟩ := fault_cells hV1
    have HF := hide (PG.out b r (.slice va cs.length vc) cs V rfl HPu.out HLn.out (HG.out.move fun k hk hF => ⟨by simp at hF; omega, hO.block k hk (by simp at hF; omega)⟩) ((HK2.out.trans (hO.mono fun k _ (e : k = w.heap.size ∨ k = w.heap.size + 1) => by omega)).below (Nat.le_refl _) (fun k hk e => by omega)))
    clear hO hV0 hV1
    simp [Leaves, settle, results, Tryz.results30, go_sem, c0, d0, d1, d2]
    exact HF.out
end Go.Proofs.YtmdhjggijlhhgaaGreatDoor

namespace Go.Proofs.YtmdhjggijlhhgaaGreatDoor
set_option linter.unusedSimpArgs false
set_option linter.unusedVariables false
open Go.RowKit

def ReadFacts (w : World) (s : ByteArray) (e : Ending) (w' : World) : Prop :=
  match factsP (scanX s).2.1 ((scanX s).2.2 : Int) (scanX s).1 with
  | .bad ec eo => e = .returned (.tuple #[.slice none 0 0, faultV ec eo]) ∧ Below w.heap.size w w'
  | .ok b _ => ∃ v cs, e = .returned (.tuple #[v, faultV 0 0]) ∧ cs.map Atx.pur = b ∧ cs.length ≤ 4096 ∧ Lst elAtx w' (fun k => w.heap.size ≤ k) v cs ∧ Below w.heap.size w w'

set_option maxRecDepth 100000 in
set_option maxHeartbeats 2000000 in
theorem readFacts_any (s : ByteArray) (w : World) (hl : LexLaid w) (hs : s.size ≤ 140737488351232) :
    Calls Tryz.prog 23 #[.string s, .func (.func 24) #[] #[]] w (ReadFacts w s) := by
  have hmf : ∀ (fn : Fn) (first cap : Array Value) (w : World), (Instr.makeFunc fn first cap).run Tryz.prog w = .ok (.func fn first cap) w := fun _ _ _ _ => rfl
  have HSc := hide (fun (W : World) (hb : Below w.heap.size w W) => scan_any s W (hl.kept hb) hs)
  clear hl hs
  unfold faultVal at HSc
  obtain ⟨res, hres⟩ : ∃ res, factsP (scanX s).2.1 ((scanX s).2.2 : Int) (scanX s).1 = res := ⟨_, rfl⟩
  obtain ⟨Post, hPost⟩ : ∃ Post : Ending → World → Prop, Post = ReadFacts w s := ⟨_, rfl⟩
  rw [← hPost]
  have PB : Hid (∀ ec eo w', res = .bad ec eo → Below w.heap.size w w' → Post (.returned (.tuple #[.slice none 0 0, .agg #[.int .i64 ec, .int .i64 0, .int .i64 eo]])) w') := fun ec eo w' hr hb => by
    rw [hPost]; unfold ReadFacts; rw [hres, hr]; exact ⟨rfl, hb⟩
  have PG : Hid (∀ b r v cs w', res = .ok b r → cs.map Atx.pur = b → cs.length ≤ 4096 → Lst elAtx w' (fun k => w.heap.size ≤ k) v cs → Below w.heap.size w w' → Post (.returned (.tuple #[v, .agg #[.int .i64 0, .int .i64 0, .int .i64 0]])) w') := fun b r v cs w' hr h1 h2 h3 h4 => by
    rw [hPost]; unfold ReadFacts; rw [hres, hr]; exact ⟨v, cs, rfl, h1, h2, h3, h4⟩
  have HR := hide hres
  clear hPost hres
  go_enter_defers Tryz.func23, Tryz.ntmps23
  go_wp2_with (go_at_call 34; refine (HSc.out _ (belowA _ _)).mono ?_; rintro e w1 ⟨v, rfl, ho1, hb1⟩; obtain ⟨ao, cap, rfl⟩ := own_shape ho1; have HO1 := hide ho1; have HB1 := hide hb1; clear ho1 hb1)
  have hs1 : w.heap.size + 1 ≤ w1.heap.size := by have := HB1.out.size; simp at this; omega
  have HA := hide (scan_ahead HB1.out HO1.out (W2 := (w1.alloc (.cells #[.int .i64 (scanX s).2.1, .int .i64 0, .int .i64 ((scanX s).2.2 : Int)] 27)).alloc (.cells #[.slice ao (scanX s).1.length cap, .int .i64 (scanX s).2.1, .int .i64 0, .int .i64 ((scanX s).2.2 : Int), .int .i64 0] 82)) (below2a w1 _ _) rfl (p := w1.heap.size + 1) (by omega) (by have := heap_alloc_new (w1.alloc (.cells #[.int .i64 (scanX s).2.1, .int .i64 0, .int .i64 ((scanX s).2.2 : Int)] 27)) (.cells #[.slice ao (scanX s).1.length cap, .int .i64 (scanX s).2.1, .int .i64 0, .int .i64 ((scanX s).2.2 : Int), .int .i64 0] 82); simpa using this))
  have HP := facts_any HA.out
  rw [HR.out] at HP
  have HK : Hid (∀ w2, Only (fun k => k = w1.heap.size + 1) ((w1.alloc (.cells #[.int .i64 (scanX s).2.1, .int .i64 0, .int .i64 ((scanX s).2.2 : Int)] 27)).alloc (.cells #[.slice ao (scanX s).1.length cap, .int .i64 (scanX s).2.1, .int .i64 0, .int .i64 ((scanX s).2.2 : Int), .int .i64 0] 82)) w2 → w2.heap[w.heap.size]? = some (.cells #[.int .i64 0, .int .i64 0, .int .i64 0] 27 (0, 0)) ∧ Only (fun k => w.heap.size ≤ k) w w2) := fun w2 ho => by
    have q : ∀ k, k < w.heap.size + 1 → w2.heap[k]? = (w.alloc (.cells #[.int .i64 0, .int .i64 0, .int .i64 0] 27)).heap[k]? := fun k hk => by
      rw [ho.block k (by simp; omega) (by omega), (below2a w1 _ _).block k (by omega), HB1.out.block k (by simp; omega)]
    refine ⟨?_, ((Only.of_below (belowA w _) _).trans (Only.of_below HB1.out _)).trans ((Only.of_below (below2a w1 _ _) _).trans (ho.mono fun k _ (e : k = w1.heap.size + 1) => by omega))⟩
    rw [q _ (by omega)]; exact heap_alloc_new w _
  clear HO1 HB1 HSc HR
  cases res with
  | bad ec eo =>
    refine HP.mono ?_
    intro e w2 hq
    obtain ⟨rfl, ho2⟩ := factsPost_bad hq
    obtain ⟨k1, k2⟩ := HK.out w2 ho2
    clear hq HP HA
    refine leaves_cons (f := 43) (args := #[.pointer (some ⟨w.heap.size, 0, none⟩)]) (by simp) (by simp [go_sem]) ?_
    refine (caughtFacts w.heap.size ec eo [] w2 k1).mono ?_
    rintro e u' w3 ⟨rfl, rfl, h3, o3⟩
    obtain ⟨⟨d0, d1, d2⟩, -⟩ := fault_cells h3
    have HF := hide (PB.out ec eo w3 rfl ((k2.trans (o3.mono fun k _ (e : k = w.heap.size) => by omega)).below (Nat.le_refl _) (fun k hk e => by omega)))
    clear o3 h3 k1 k2
    simp [Leaves, settle, results, Tryz.results23, go_sem, d0, d1, d2]
    exact HF.out
  | ok b r =>
    refine HP.mono ?_
    intro e w2 hq
    obtain ⟨v, cs, rfl, hpur, hlen, hgr, ha2, ho2⟩ := factsPost_ok hq
    obtain ⟨va, vc, rfl, -⟩ := hgr.shape
    obtain ⟨k1, k2⟩ := HK.out w2 ho2
    have HPu := hide hpur
    have HLn := hide hlen
    have HG := hide (hgr.new (by omega))
    have HK2 := hide k2
    clear hq HP HA hpur hlen hgr ha2 ho2
    obtain ⟨⟨d0, d1, d2⟩, ⟨y0, y1, y2⟩⟩ := fault_cells k1
    go_wp2_with fail
    have hO : Only (fun k => k = w.heap.size) w2 (((w2.setCell ⟨w.heap.size, 0, none⟩ (.int .i64 0)).setCell ⟨w.heap.size, 1, none⟩ (.int .i64 0)).setCell ⟨w.heap.size, 2, none⟩ (.int .i64 0)) := (((Only.refl (fun k => k = w.heap.size) w2).setCell (p := ⟨w.heap.size, 0, none⟩) rfl _).setCell (p := ⟨w.heap.size, 1, none⟩) rfl _).setCell (p := ⟨w.heap.size, 2, none⟩) rfl _
    have hV1 : (((w2.setCell ⟨w.heap.size, 0, none⟩ (.int .i64 0)).setCell ⟨w.heap.size, 1, none⟩ (.int .i64 0)).setCell ⟨w.heap.size, 2, none⟩ (.int .i64 0)).heap[w.heap.size]? = some (.cells #[.int .i64 0, .int .i64 0, .int .i64 0] 27 (0, 0)) := by simp [World.setCell, Array.getElem?_modify, k1]
    generalize ((w2.setCell ⟨w.heap.size, 0, none⟩ (.int .i64 0)).setCell ⟨w.heap.size, 1, none⟩ (.int .i64 0)).setCell ⟨w.heap.size, 2, none⟩ (.int .i64 0) = V at hO hV1 ⊢
    clear d0 d1 d2 y0 y1 y2 k1
    refine leaves_cons (f := 43) (args := #[.pointer (some ⟨w.heap.size, 0, none⟩)]) (by simp) (by simp [go_sem]) ?_
    refine (idleFacts ⟨w.heap.size, 0, none⟩ V).mono ?_
    rintro e u' w3 ⟨rfl, rfl, hw⟩
    have hw := hw.symm
    subst hw
    obtain ⟨⟨d0, d1, d2⟩, -⟩ := fault_cells hV1
    have HF := hide (PG.out b r (.slice va cs.length vc) cs V rfl HPu.out HLn.out (HG.out.move fun k hk hF => ⟨by simp at hF; omega, hO.block k hk (by simp at hF; omega)⟩) ((HK2.out.trans (hO.mono fun k _ (e : k = w.heap.size) => by omega)).below (Nat.le_refl _) (fun k hk e => by omega)))
    clear hO hV1
    simp [Leaves, settle, results, Tryz.results23, go_sem, d0, d1, d2]
    exact HF.out
end Go.Proofs.YtmdhjggijlhhgaaGreatDoor

namespace Go.Proofs.YtmdhjggijlhhgaaGreatDoor
set_option linter.unusedSimpArgs false
set_option linter.unusedVariables false
open Go.RowKit

def ReadQuery (w : World) (s : ByteArray) (e : Ending) (w' : World) : Prop :=
  match queryP (scanX s).2.1 ((scanX s).2.2 : Int) (scanX s).1 with
  | .bad ec eo => e = .returned (.tuple #[.slice none 0 0, faultV ec eo]) ∧ Below w.heap.size w w'
  | .ok b _ => ∃ v cs, e = .returned (.tuple #[v, faultV 0 0]) ∧ cs.map Lix.pur = b ∧ cs.length ≤ 16 ∧ Lst elLix w' (fun k => w.heap.size ≤ k) v cs ∧ Below w.heap.size w w'

set_option maxRecDepth 100000 in
set_option maxHeartbeats 2000000 in
theorem readQuery_any (s : ByteArray) (w : World) (hl : LexLaid w) (hs : s.size ≤ 140737488351232) :
    Calls Tryz.prog 27 #[.string s, .func (.func 28) #[] #[]] w (ReadQuery w s) := by
  have hmf : ∀ (fn : Fn) (first cap : Array Value) (w : World), (Instr.makeFunc fn first cap).run Tryz.prog w = .ok (.func fn first cap) w := fun _ _ _ _ => rfl
  have HSc := hide (fun (W : World) (hb : Below w.heap.size w W) => scan_any s W (hl.kept hb) hs)
  clear hl hs
  unfold faultVal at HSc
  obtain ⟨res, hres⟩ : ∃ res, queryP (scanX s).2.1 ((scanX s).2.2 : Int) (scanX s).1 = res := ⟨_, rfl⟩
  obtain ⟨Post, hPost⟩ : ∃ Post : Ending → World → Prop, Post = ReadQuery w s := ⟨_, rfl⟩
  rw [← hPost]
  have PB : Hid (∀ ec eo w', res = .bad ec eo → Below w.heap.size w w' → Post (.returned (.tuple #[.slice none 0 0, .agg #[.int .i64 ec, .int .i64 0, .int .i64 eo]])) w') := fun ec eo w' hr hb => by
    rw [hPost]; unfold ReadQuery; rw [hres, hr]; exact ⟨rfl, hb⟩
  have PG : Hid (∀ b r v cs w', res = .ok b r → cs.map Lix.pur = b → cs.length ≤ 16 → Lst elLix w' (fun k => w.heap.size ≤ k) v cs → Below w.heap.size w w' → Post (.returned (.tuple #[v, .agg #[.int .i64 0, .int .i64 0, .int .i64 0]])) w') := fun b r v cs w' hr h1 h2 h3 h4 => by
    rw [hPost]; unfold ReadQuery; rw [hres, hr]; exact ⟨v, cs, rfl, h1, h2, h3, h4⟩
  have HR := hide hres
  clear hPost hres
  go_enter_defers Tryz.func27, Tryz.ntmps27
  go_wp2_with (go_at_call 34; refine (HSc.out _ (belowA _ _)).mono ?_; rintro e w1 ⟨v, rfl, ho1, hb1⟩; obtain ⟨ao, cap, rfl⟩ := own_shape ho1; have HO1 := hide ho1; have HB1 := hide hb1; clear ho1 hb1)
  have hs1 : w.heap.size + 1 ≤ w1.heap.size := by have := HB1.out.size; simp at this; omega
  have HA := hide (scan_ahead HB1.out HO1.out (W2 := (w1.alloc (.cells #[.int .i64 (scanX s).2.1, .int .i64 0, .int .i64 ((scanX s).2.2 : Int)] 27)).alloc (.cells #[.slice ao (scanX s).1.length cap, .int .i64 (scanX s).2.1, .int .i64 0, .int .i64 ((scanX s).2.2 : Int), .int .i64 0] 82)) (below2a w1 _ _) rfl (p := w1.heap.size + 1) (by omega) (by have := heap_alloc_new (w1.alloc (.cells #[.int .i64 (scanX s).2.1, .int .i64 0, .int .i64 ((scanX s).2.2 : Int)] 27)) (.cells #[.slice ao (scanX s).1.length cap, .int .i64 (scanX s).2.1, .int .i64 0, .int .i64 ((scanX s).2.2 : Int), .int .i64 0] 82); simpa using this))
  have HP := query_any HA.out
  rw [HR.out] at HP
  have HK : Hid (∀ w2, Only (fun k => k = w1.heap.size + 1) ((w1.alloc (.cells #[.int .i64 (scanX s).2.1, .int .i64 0, .int .i64 ((scanX s).2.2 : Int)] 27)).alloc (.cells #[.slice ao (scanX s).1.length cap, .int .i64 (scanX s).2.1, .int .i64 0, .int .i64 ((scanX s).2.2 : Int), .int .i64 0] 82)) w2 → w2.heap[w.heap.size]? = some (.cells #[.int .i64 0, .int .i64 0, .int .i64 0] 27 (0, 0)) ∧ Only (fun k => w.heap.size ≤ k) w w2) := fun w2 ho => by
    have q : ∀ k, k < w.heap.size + 1 → w2.heap[k]? = (w.alloc (.cells #[.int .i64 0, .int .i64 0, .int .i64 0] 27)).heap[k]? := fun k hk => by
      rw [ho.block k (by simp; omega) (by omega), (below2a w1 _ _).block k (by omega), HB1.out.block k (by simp; omega)]
    refine ⟨?_, ((Only.of_below (belowA w _) _).trans (Only.of_below HB1.out _)).trans ((Only.of_below (below2a w1 _ _) _).trans (ho.mono fun k _ (e : k = w1.heap.size + 1) => by omega))⟩
    rw [q _ (by omega)]; exact heap_alloc_new w _
  clear HO1 HB1 HSc HR
  cases res with
  | bad ec eo =>
    refine HP.mono ?_
    intro e w2 hq
    obtain ⟨rfl, ho2⟩ := bodyPost_bad hq
    obtain ⟨k1, k2⟩ := HK.out w2 ho2
    clear hq HP HA
    refine leaves_cons (f := 45) (args := #[.pointer (some ⟨w.heap.size, 0, none⟩)]) (by simp) (by simp [go_sem]) ?_
    refine (caughtQuery w.heap.size ec eo [] w2 k1).mono ?_
    rintro e u' w3 ⟨rfl, rfl, h3, o3⟩
    obtain ⟨⟨d0, d1, d2⟩, -⟩ := fault_cells h3
    have HF := hide (PB.out ec eo w3 rfl ((k2.trans (o3.mono fun k _ (e : k = w.heap.size) => by omega)).below (Nat.le_refl _) (fun k hk e => by omega)))
    clear o3 h3 k1 k2
    simp [Leaves, settle, results, Tryz.results27, go_sem, d0, d1, d2]
    exact HF.out
  | ok b r =>
    refine HP.mono ?_
    intro e w2 hq
    obtain ⟨v, cs, rfl, hpur, hlen, hgr, ha2, ho2⟩ := bodyPost_ok hq
    obtain ⟨va, vc, rfl, -⟩ := hgr.shape
    obtain ⟨k1, k2⟩ := HK.out w2 ho2
    have HPu := hide hpur
    have HLn := hide hlen
    have HG := hide (hgr.new (by omega))
    have HK2 := hide k2
    clear hq HP HA hpur hlen hgr ha2 ho2
    obtain ⟨⟨d0, d1, d2⟩, ⟨y0, y1, y2⟩⟩ := fault_cells k1
    go_wp2_with fail
    have hO : Only (fun k => k = w.heap.size) w2 (((w2.setCell ⟨w.heap.size, 0, none⟩ (.int .i64 0)).setCell ⟨w.heap.size, 1, none⟩ (.int .i64 0)).setCell ⟨w.heap.size, 2, none⟩ (.int .i64 0)) := (((Only.refl (fun k => k = w.heap.size) w2).setCell (p := ⟨w.heap.size, 0, none⟩) rfl _).setCell (p := ⟨w.heap.size, 1, none⟩) rfl _).setCell (p := ⟨w.heap.size, 2, none⟩) rfl _
    have hV1 : (((w2.setCell ⟨w.heap.size, 0, none⟩ (.int .i64 0)).setCell ⟨w.heap.size, 1, none⟩ (.int .i64 0)).setCell ⟨w.heap.size, 2, none⟩ (.int .i64 0)).heap[w.heap.size]? = some (.cells #[.int .i64 0, .int .i64 0, .int .i64 0] 27 (0, 0)) := by simp [World.setCell, Array.getElem?_modify, k1]
    generalize ((w2.setCell ⟨w.heap.size, 0, none⟩ (.int .i64 0)).setCell ⟨w.heap.size, 1, none⟩ (.int .i64 0)).setCell ⟨w.heap.size, 2, none⟩ (.int .i64 0) = V at hO hV1 ⊢
    clear d0 d1 d2 y0 y1 y2 k1
    refine leaves_cons (f := 45) (args := #[.pointer (some ⟨w.heap.size, 0, none⟩)]) (by simp) (by simp [go_sem]) ?_
    refine (idleQuery ⟨w.heap.size, 0, none⟩ V).mono ?_
    rintro e u' w3 ⟨rfl, rfl, hw⟩
    have hw := hw.symm
    subst hw
    obtain ⟨⟨d0, d1, d2⟩, -⟩ := fault_cells hV1
    have HF := hide (PG.out b r (.slice va cs.length vc) cs V rfl HPu.out HLn.out (HG.out.move fun k hk hF => ⟨by simp at hF; omega, hO.block k hk (by simp at hF; omega)⟩) ((HK2.out.trans (hO.mono fun k _ (e : k = w.heap.size) => by omega)).below (Nat.le_refl _) (fun k hk e => by omega)))
    clear hO hV1
    simp [Leaves, settle, results, Tryz.results27, go_sem, d0, d1, d2]
    exact HF.out
end Go.Proofs.YtmdhjggijlhhgaaGreatDoor

namespace Go.Proofs.YtmdhjggijlhhgaaGreatDoor
set_option linter.unusedSimpArgs false
set_option linter.unusedVariables false
open Go.RowKit

theorem progCell {V : World} {b : Nat} {u : Value} (h : V.heap[b]? = some (.cells #[u] 42 (0, 0))) : V.cell? ⟨b, 0, none⟩ = some u ∧ V.frozen? ⟨b, 0, none⟩ = false := by
  refine ⟨?_, ?_⟩ <;> simp [World.cell?, World.frozen?, h]

theorem readProg_bad {w w' : World} {s : ByteArray} {e : Ending} {ec eo : Int} (h : ReadProg w s e w') (hr : progP (scanX s).2.1 ((scanX s).2.2 : Int) (scanX s).1 = .bad ec eo) : e = .returned (.tuple #[.agg #[.slice none 0 0], faultV ec eo]) ∧ Below w.heap.size w w' := by
  unfold ReadProg at h
  rw [hr] at h
  exact h
theorem readProg_ok {w w' : World} {s : ByteArray} {e : Ending} {b} {r : List Tok} (h : ReadProg w s e w') (hr : progP (scanX s).2.1 ((scanX s).2.2 : Int) (scanX s).1 = .ok b r) : ∃ v cs, e = .returned (.tuple #[.agg #[v], faultV 0 0]) ∧ cs.map Clx.pur = b ∧ cs.length ≤ 512 ∧ Lst elClx w' (fun k => w.heap.size ≤ k) v cs ∧ Below w.heap.size w w' := by
  unfold ReadProg at h
  rw [hr] at h
  exact h
theorem readProg_mkb {w w' : World} {s : ByteArray} {ec eo : Int} (hr : progP (scanX s).2.1 ((scanX s).2.2 : Int) (scanX s).1 = .bad ec eo) (hb : Below w.heap.size w w') : ReadProg w s (.returned (.tuple #[.agg #[.slice none 0 0], faultV ec eo])) w' := by
  unfold ReadProg
  rw [hr]
  exact ⟨rfl, hb⟩
theorem readProg_mko {w w' : World} {s : ByteArray} {b} {r : List Tok} (hr : progP (scanX s).2.1 ((scanX s).2.2 : Int) (scanX s).1 = .ok b r) {v : Value} {cs : List Clx} (h1 : cs.map Clx.pur = b) (h2 : cs.length ≤ 512) (h3 : Lst elClx w' (fun k => w.heap.size ≤ k) v cs) (hb : Below w.heap.size w w') : ReadProg w s (.returned (.tuple #[.agg #[v], faultV 0 0])) w' := by
  unfold ReadProg
  rw [hr]
  exact ⟨v, cs, rfl, h1, h2, h3, hb⟩

theorem readFacts_bad {w w' : World} {s : ByteArray} {e : Ending} {ec eo : Int} (h : ReadFacts w s e w') (hr : factsP (scanX s).2.1 ((scanX s).2.2 : Int) (scanX s).1 = .bad ec eo) : e = .returned (.tuple #[.slice none 0 0, faultV ec eo]) ∧ Below w.heap.size w w' := by
  unfold ReadFacts at h
  rw [hr] at h
  exact h
theorem readFacts_ok {w w' : World} {s : ByteArray} {e : Ending} {b} {r : List Tok} (h : ReadFacts w s e w') (hr : factsP (scanX s).2.1 ((scanX s).2.2 : Int) (scanX s).1 = .ok b r) : ∃ v cs, e = .returned (.tuple #[v, faultV 0 0]) ∧ cs.map Atx.pur = b ∧ cs.length ≤ 4096 ∧ Lst elAtx w' (fun k => w.heap.size ≤ k) v cs ∧ Below w.heap.size w w' := by
  unfold ReadFacts at h
  rw [hr] at h
  exact h
theorem readFacts_mkb {w w' : World} {s : ByteArray} {ec eo : Int} (hr : factsP (scanX s).2.1 ((scanX s).2.2 : Int) (scanX s).1 = .bad ec eo) (hb : Below w.heap.size w w') : ReadFacts w s (.returned (.tuple #[.slice none 0 0, faultV ec eo])) w' := by
  unfold ReadFacts
  rw [hr]
  exact ⟨rfl, hb⟩
theorem readFacts_mko {w w' : World} {s : ByteArray} {b} {r : List Tok} (hr : factsP (scanX s).2.1 ((scanX s).2.2 : Int) (scanX s).1 = .ok b r) {v : Value} {cs : List Atx} (h1 : cs.map Atx.pur = b) (h2 : cs.length ≤ 4096) (h3 : Lst elAtx w' (fun k => w.heap.size ≤ k) v cs) (hb : Below w.heap.size w w') : ReadFacts w s (.returned (.tuple #[v, faultV 0 0])) w' := by
  unfold ReadFacts
  rw [hr]
  exact ⟨v, cs, rfl, h1, h2, h3, hb⟩

theorem readQuery_bad {w w' : World} {s : ByteArray} {e : Ending} {ec eo : Int} (h : ReadQuery w s e w') (hr : queryP (scanX s).2.1 ((scanX s).2.2 : Int) (scanX s).1 = .bad ec eo) : e = .returned (.tuple #[.slice none 0 0, faultV ec eo]) ∧ Below w.heap.size w w' := by
  unfold ReadQuery at h
  rw [hr] at h
  exact h
theorem readQuery_ok {w w' : World} {s : ByteArray} {e : Ending} {b} {r : List Tok} (h : ReadQuery w s e w') (hr : queryP (scanX s).2.1 ((scanX s).2.2 : Int) (scanX s).1 = .ok b r) : ∃ v cs, e = .returned (.tuple #[v, faultV 0 0]) ∧ cs.map Lix.pur = b ∧ cs.length ≤ 16 ∧ Lst elLix w' (fun k => w.heap.size ≤ k) v cs ∧ Below w.heap.size w w' := by
  unfold ReadQuery at h
  rw [hr] at h
  exact h
theorem readQuery_mkb {w w' : World} {s : ByteArray} {ec eo : Int} (hr : queryP (scanX s).2.1 ((scanX s).2.2 : Int) (scanX s).1 = .bad ec eo) (hb : Below w.heap.size w w') : ReadQuery w s (.returned (.tuple #[.slice none 0 0, faultV ec eo])) w' := by
  unfold ReadQuery
  rw [hr]
  exact ⟨rfl, hb⟩
theorem readQuery_mko {w w' : World} {s : ByteArray} {b} {r : List Tok} (hr : queryP (scanX s).2.1 ((scanX s).2.2 : Int) (scanX s).1 = .ok b r) {v : Value} {cs : List Lix} (h1 : cs.map Lix.pur = b) (h2 : cs.length ≤ 16) (h3 : Lst elLix w' (fun k => w.heap.size ≤ k) v cs) (hb : Below w.heap.size w w') : ReadQuery w s (.returned (.tuple #[v, faultV 0 0])) w' := by
  unfold ReadQuery
  rw [hr]
  exact ⟨v, cs, rfl, h1, h2, h3, hb⟩

set_option maxRecDepth 100000 in
set_option maxHeartbeats 2000000 in
theorem parseProgram_any (s : ByteArray) (w : World) (hl : LexLaid w) (hs : s.size ≤ 140737488351232) :
    Calls Tryz.prog 16 #[.string s] w (ReadProg w s) := by
  have HC := hide (fun (W : World) (hb : Below w.heap.size w W) => readProg_any s W (hl.kept hb) hs)
  clear hl hs
  obtain ⟨Post, hPost⟩ : ∃ Post : Ending → World → Prop, Post = ReadProg w s := ⟨_, rfl⟩
  rw [← hPost]
  have HK : Hid (∀ w2, Below ((w.alloc (.cells #[.slice none 0 0] 42)).alloc (.cells #[.int .i64 0, .int .i64 0, .int .i64 0] 27)).heap.size ((w.alloc (.cells #[.slice none 0 0] 42)).alloc (.cells #[.int .i64 0, .int .i64 0, .int .i64 0] 27)) w2 → w2.heap[w.heap.size]? = some (.cells #[.slice none 0 0] 42 (0, 0)) ∧ w2.heap[w.heap.size + 1]? = some (.cells #[.int .i64 0, .int .i64 0, .int .i64 0] 27 (0, 0)) ∧ Below w.heap.size w w2) := fun w2 hb => by
    refine ⟨?_, ?_, belowt2 (below2a w _ _) hb⟩
    · rw [hb.block _ (by simp; omega), (belowA (w.alloc _) _).block _ (by simp)]; exact heap_alloc_new w _
    · rw [hb.block _ (by simp)]
      have := heap_alloc_new (w.alloc (.cells #[.slice none 0 0] 42)) (.cells #[.int .i64 0, .int .i64 0, .int .i64 0] 27)
      simpa using this
  cases hr : progP (scanX s).2.1 ((scanX s).2.2 : Int) (scanX s).1 with
  | bad ec eo =>
    have PB : Hid (∀ w', Below w.heap.size w w' → Post (.returned (.tuple #[.agg #[.slice none 0 0], .agg #[.int .i64 ec, .int .i64 0, .int .i64 eo]])) w') := fun w' hb => by rw [hPost]; exact readProg_mkb hr hb
    have HRr := hide hr
    clear hr hPost
    go_enter Tryz.func16, Tryz.ntmps16
    go_wp2_with (go_at_call 30; refine (HC.out _ (below2a _ _ _)).mono ?_; intro e w2 hq; obtain ⟨rfl, hb2⟩ := readProg_bad hq HRr.out; clear hq; obtain ⟨k0, k1, k2⟩ := HK.out w2 hb2; have HK2 := hide k2; clear hb2 k2; obtain ⟨c0, z0⟩ := progCell k0; obtain ⟨⟨d0, d1, d2⟩, ⟨y0, y1, y2⟩⟩ := fault_cells k1; unfold faultV)
    have hV0 : ((((w2.setCell ⟨w.heap.size, 0, none⟩ (.slice none 0 0)).setCell ⟨w.heap.size + 1, 0, none⟩ (.int .i64 ec)).setCell ⟨w.heap.size + 1, 1, none⟩ (.int .i64 0)).setCell ⟨w.heap.size + 1, 2, none⟩ (.int .i64 eo)).heap[w.heap.size]? = some (.cells #[.slice none 0 0] 42 (0, 0)) := by simp [World.setCell, Array.getElem?_modify, k0]
    have hV1 : ((((w2.setCell ⟨w.heap.size, 0, none⟩ (.slice none 0 0)).setCell ⟨w.heap.size + 1, 0, none⟩ (.int .i64 ec)).setCell ⟨w.heap.size + 1, 1, none⟩ (.int .i64 0)).setCell ⟨w.heap.size + 1, 2, none⟩ (.int .i64 eo)).heap[w.heap.size + 1]? = some (.cells #[.int .i64 ec, .int .i64 0, .int .i64 eo] 27 (0, 0)) := by simp [World.setCell, Array.getElem?_modify, k1]
    have hO : Below w.heap.size w ((((w2.setCell ⟨w.heap.size, 0, none⟩ (.slice none 0 0)).setCell ⟨w.heap.size + 1, 0, none⟩ (.int .i64 ec)).setCell ⟨w.heap.size + 1, 1, none⟩ (.int .i64 0)).setCell ⟨w.heap.size + 1, 2, none⟩ (.int .i64 eo)) := (((((Only.of_below HK2.out (fun k => w.heap.size ≤ k)).setCell (p := ⟨w.heap.size, 0, none⟩) (Nat.le_refl _) _).setCell (p := ⟨w.heap.size + 1, 0, none⟩) (Nat.le_succ _) _).setCell (p := ⟨w.heap.size + 1, 1, none⟩) (Nat.le_succ _) _).setCell (p := ⟨w.heap.size + 1, 2, none⟩) (Nat.le_succ _) _).below (Nat.le_refl _) (fun k hk e => by omega)
    generalize (((w2.setCell ⟨w.heap.size, 0, none⟩ (.slice none 0 0)).setCell ⟨w.heap.size + 1, 0, none⟩ (.int .i64 ec)).setCell ⟨w.heap.size + 1, 1, none⟩ (.int .i64 0)).setCell ⟨w.heap.size + 1, 2, none⟩ (.int .i64 eo) = V at hV0 hV1 hO ⊢
    obtain ⟨f0, -⟩ := progCell hV0
    obtain ⟨⟨f1, f2, f3⟩, -⟩ := fault_cells hV1
    exact bodyPost_ret (v := .tuple #[.agg #[.slice none 0 0], .agg #[.int .i64 ec, .int .i64 0, .int .i64 eo]]) (by simp [results, Tryz.results16, go_sem, f0, f1, f2, f3]) rfl (PB.out _ hO)
  | ok b r =>
    have PG : Hid (∀ w' v cs, cs.map Clx.pur = b → cs.length ≤ 512 → Lst elClx w' (fun k => w.heap.size ≤ k) v cs → Below w.heap.size w w' → Post (.returned (.tuple #[.agg #[v], .agg #[.int .i64 0, .int .i64 0, .int .i64 0]])) w') := fun w' v cs h1 h2 h3 h4 => by rw [hPost]; exact readProg_mko hr h1 h2 h3 h4
    have HRr := hide hr
    clear hr hPost
    go_enter Tryz.func16, Tryz.ntmps16
    go_wp2_with (go_at_call 30; refine (HC.out _ (below2a _ _ _)).mono ?_; intro e w2 hq; obtain ⟨v, cs, rfl, hpur, hlen, hls, hb2⟩ := readProg_ok hq HRr.out; clear hq; obtain ⟨va, vc, rfl, -⟩ := hls.shape; obtain ⟨k0, k1, k2⟩ := HK.out w2 hb2; have HK2 := hide k2; have HLs := hide hls; have HPu := hide hpur; have HLn := hide hlen; clear hb2 k2 hls hpur hlen; obtain ⟨c0, z0⟩ := progCell k0; obtain ⟨⟨d0, d1, d2⟩, ⟨y0, y1, y2⟩⟩ := fault_cells k1; unfold faultV)
    have hV0 : ((((w2.setCell ⟨w.heap.size, 0, none⟩ (.slice va cs.length vc)).setCell ⟨w.heap.size + 1, 0, none⟩ (.int .i64 0)).setCell ⟨w.heap.size + 1, 1, none⟩ (.int .i64 0)).setCell ⟨w.heap.size + 1, 2, none⟩ (.int .i64 0)).heap[w.heap.size]? = some (.cells #[.slice va cs.length vc] 42 (0, 0)) := by simp [World.setCell, Array.getElem?_modify, k0]
    have hV1 : ((((w2.setCell ⟨w.heap.size, 0, none⟩ (.slice va cs.length vc)).setCell ⟨w.heap.size + 1, 0, none⟩ (.int .i64 0)).setCell ⟨w.heap.size + 1, 1, none⟩ (.int .i64 0)).setCell ⟨w.heap.size + 1, 2, none⟩ (.int .i64 0)).heap[w.heap.size + 1]? = some (.cells #[.int .i64 0, .int .i64 0, .int .i64 0] 27 (0, 0)) := by simp [World.setCell, Array.getElem?_modify, k1]
    have hB : Below w.heap.size w ((((w2.setCell ⟨w.heap.size, 0, none⟩ (.slice va cs.length vc)).setCell ⟨w.heap.size + 1, 0, none⟩ (.int .i64 0)).setCell ⟨w.heap.size + 1, 1, none⟩ (.int .i64 0)).setCell ⟨w.heap.size + 1, 2, none⟩ (.int .i64 0)) := (((((Only.of_below HK2.out (fun k => w.heap.size ≤ k)).setCell (p := ⟨w.heap.size, 0, none⟩) (Nat.le_refl _) _).setCell (p := ⟨w.heap.size + 1, 0, none⟩) (Nat.le_succ _) _).setCell (p := ⟨w.heap.size + 1, 1, none⟩) (Nat.le_succ _) _).setCell (p := ⟨w.heap.size + 1, 2, none⟩) (Nat.le_succ _) _).below (Nat.le_refl _) (fun k hk e => by omega)
    have hO : Only (fun k => k = w.heap.size ∨ k = w.heap.size + 1) w2 ((((w2.setCell ⟨w.heap.size, 0, none⟩ (.slice va cs.length vc)).setCell ⟨w.heap.size + 1, 0, none⟩ (.int .i64 0)).setCell ⟨w.heap.size + 1, 1, none⟩ (.int .i64 0)).setCell ⟨w.heap.size + 1, 2, none⟩ (.int .i64 0)) := ((((Only.refl (fun k => k = w.heap.size ∨ k = w.heap.size + 1) w2).setCell (p := ⟨w.heap.size, 0, none⟩) (.inl rfl) _).setCell (p := ⟨w.heap.size + 1, 0, none⟩) (.inr rfl) _).setCell (p := ⟨w.heap.size + 1, 1, none⟩) (.inr rfl) _).setCell (p := ⟨w.heap.size + 1, 2, none⟩) (.inr rfl) _
    generalize (((w2.setCell ⟨w.heap.size, 0, none⟩ (.slice va cs.length vc)).setCell ⟨w.heap.size + 1, 0, none⟩ (.int .i64 0)).setCell ⟨w.heap.size + 1, 1, none⟩ (.int .i64 0)).setCell ⟨w.heap.size + 1, 2, none⟩ (.int .i64 0) = V at hV0 hV1 hO hB ⊢
    obtain ⟨f0, -⟩ := progCell hV0
    obtain ⟨⟨f1, f2, f3⟩, -⟩ := fault_cells hV1
    exact bodyPost_ret (v := .tuple #[.agg #[.slice va cs.length vc], .agg #[.int .i64 0, .int .i64 0, .int .i64 0]]) (by simp [results, Tryz.results16, go_sem, f0, f1, f2, f3]) rfl (PG.out _ _ cs HPu.out HLn.out (HLs.out.move fun k hk hF => ⟨by simp at hF; omega, hO.block k hk (by simp at hF; omega)⟩) hB)

set_option maxRecDepth 100000 in
set_option maxHeartbeats 2000000 in
theorem parseFacts_any (s : ByteArray) (w : World) (hl : LexLaid w) (hs : s.size ≤ 140737488351232) :
    Calls Tryz.prog 10 #[.string s] w (ReadFacts w s) := by
  have HC := hide (fun (W : World) (hb : Below w.heap.size w W) => readFacts_any s W (hl.kept hb) hs)
  clear hl hs
  obtain ⟨Post, hPost⟩ : ∃ Post : Ending → World → Prop, Post = ReadFacts w s := ⟨_, rfl⟩
  rw [← hPost]
  have HK : Hid (∀ w2, Below (w.alloc (.cells #[.int .i64 0, .int .i64 0, .int .i64 0] 27)).heap.size (w.alloc (.cells #[.int .i64 0, .int .i64 0, .int .i64 0] 27)) w2 → w2.heap[w.heap.size]? = some (.cells #[.int .i64 0, .int .i64 0, .int .i64 0] 27 (0, 0)) ∧ Below w.heap.size w w2) := fun w2 hb => by
    refine ⟨?_, belowt2 (belowA w _) hb⟩
    rw [hb.block _ (by simp)]; exact heap_alloc_new w _
  cases hr : factsP (scanX s).2.1 ((scanX s).2.2 : Int) (scanX s).1 with
  | bad ec eo =>
    have PB : Hid (∀ w', Below w.heap.size w w' → Post (.returned (.tuple #[.slice none 0 0, .agg #[.int .i64 ec, .int .i64 0, .int .i64 eo]])) w') := fun w' hb => by rw [hPost]; exact readFacts_mkb hr hb
    have HRr := hide hr
    clear hr hPost
    go_enter Tryz.func10, Tryz.ntmps10
    go_wp2_with (go_at_call 23; refine (HC.out _ (belowA _ _)).mono ?_; intro e w2 hq; obtain ⟨rfl, hb2⟩ := readFacts_bad hq HRr.out; clear hq; obtain ⟨k1, k2⟩ := HK.out w2 hb2; have HK2 := hide k2; clear hb2 k2; obtain ⟨⟨d0, d1, d2⟩, ⟨y0, y1, y2⟩⟩ := fault_cells k1; unfold faultV)
    have hV1 : (((w2.setCell ⟨w.heap.size, 0, none⟩ (.int .i64 ec)).setCell ⟨w.heap.size, 1, none⟩ (.int .i64 0)).setCell ⟨w.heap.size, 2, none⟩ (.int .i64 eo)).heap[w.heap.size]? = some (.cells #[.int .i64 ec, .int .i64 0, .int .i64 eo] 27 (0, 0)) := by simp [World.setCell, Array.getElem?_modify, k1]
    have hO : Below w.heap.size w (((w2.setCell ⟨w.heap.size, 0, none⟩ (.int .i64 ec)).setCell ⟨w.heap.size, 1, none⟩ (.int .i64 0)).setCell ⟨w.heap.size, 2, none⟩ (.int .i64 eo)) := ((((Only.of_below HK2.out (fun k => w.heap.size ≤ k)).setCell (p := ⟨w.heap.size, 0, none⟩) (Nat.le_refl _) _).setCell (p := ⟨w.heap.size, 1, none⟩) (Nat.le_refl _) _).setCell (p := ⟨w.heap.size, 2, none⟩) (Nat.le_refl _) _).below (Nat.le_refl _) (fun k hk e => by omega)
    generalize ((w2.setCell ⟨w.heap.size, 0, none⟩ (.int .i64 ec)).setCell ⟨w.heap.size, 1, none⟩ (.int .i64 0)).setCell ⟨w.heap.size, 2, none⟩ (.int .i64 eo) = V at hV1 hO ⊢
    obtain ⟨⟨f1, f2, f3⟩, -⟩ := fault_cells hV1
    exact bodyPost_ret (v := .tuple #[.slice none 0 0, .agg #[.int .i64 ec, .int .i64 0, .int .i64 eo]]) (by simp [results, Tryz.results10, go_sem, f1, f2, f3]) rfl (PB.out _ hO)
  | ok b r =>
    have PG : Hid (∀ w' v cs, cs.map Atx.pur = b → cs.length ≤ 4096 → Lst elAtx w' (fun k => w.heap.size ≤ k) v cs → Below w.heap.size w w' → Post (.returned (.tuple #[v, .agg #[.int .i64 0, .int .i64 0, .int .i64 0]])) w') := fun w' v cs h1 h2 h3 h4 => by rw [hPost]; exact readFacts_mko hr h1 h2 h3 h4
    have HRr := hide hr
    clear hr hPost
    go_enter Tryz.func10, Tryz.ntmps10
    go_wp2_with (go_at_call 23; refine (HC.out _ (belowA _ _)).mono ?_; intro e w2 hq; obtain ⟨v, cs, rfl, hpur, hlen, hls, hb2⟩ := readFacts_ok hq HRr.out; clear hq; obtain ⟨va, vc, rfl, -⟩ := hls.shape; obtain ⟨k1, k2⟩ := HK.out w2 hb2; have HK2 := hide k2; have HLs := hide hls; have HPu := hide hpur; have HLn := hide hlen; clear hb2 k2 hls hpur hlen; obtain ⟨⟨d0, d1, d2⟩, ⟨y0, y1, y2⟩⟩ := fault_cells k1; unfold faultV)
    have hV1 : (((w2.setCell ⟨w.heap.size, 0, none⟩ (.int .i64 0)).setCell ⟨w.heap.size, 1, none⟩ (.int .i64 0)).setCell ⟨w.heap.size, 2, none⟩ (.int .i64 0)).heap[w.heap.size]? = some (.cells #[.int .i64 0, .int .i64 0, .int .i64 0] 27 (0, 0)) := by simp [World.setCell, Array.getElem?_modify, k1]
    have hB : Below w.heap.size w (((w2.setCell ⟨w.heap.size, 0, none⟩ (.int .i64 0)).setCell ⟨w.heap.size, 1, none⟩ (.int .i64 0)).setCell ⟨w.heap.size, 2, none⟩ (.int .i64 0)) := ((((Only.of_below HK2.out (fun k => w.heap.size ≤ k)).setCell (p := ⟨w.heap.size, 0, none⟩) (Nat.le_refl _) _).setCell (p := ⟨w.heap.size, 1, none⟩) (Nat.le_refl _) _).setCell (p := ⟨w.heap.size, 2, none⟩) (Nat.le_refl _) _).below (Nat.le_refl _) (fun k hk e => by omega)
    have hO : Only (fun k => k = w.heap.size) w2 (((w2.setCell ⟨w.heap.size, 0, none⟩ (.int .i64 0)).setCell ⟨w.heap.size, 1, none⟩ (.int .i64 0)).setCell ⟨w.heap.size, 2, none⟩ (.int .i64 0)) := (((Only.refl (fun k => k = w.heap.size) w2).setCell (p := ⟨w.heap.size, 0, none⟩) rfl _).setCell (p := ⟨w.heap.size, 1, none⟩) rfl _).setCell (p := ⟨w.heap.size, 2, none⟩) rfl _
    generalize ((w2.setCell ⟨w.heap.size, 0, none⟩ (.int .i64 0)).setCell ⟨w.heap.size, 1, none⟩ (.int .i64 0)).setCell ⟨w.heap.size, 2, none⟩ (.int .i64 0) = V at hV1 hO hB ⊢
    obtain ⟨⟨f1, f2, f3⟩, -⟩ := fault_cells hV1
    exact bodyPost_ret (v := .tuple #[.slice va cs.length vc, .agg #[.int .i64 0, .int .i64 0, .int .i64 0]]) (by simp [results, Tryz.results10, go_sem, f1, f2, f3]) rfl (PG.out _ _ cs HPu.out HLn.out (HLs.out.move fun k hk hF => ⟨by simp at hF; omega, hO.block k hk (by simp at hF; omega)⟩) hB)

set_option maxRecDepth 100000 in
set_option maxHeartbeats 2000000 in
theorem parseQuery_any (s : ByteArray) (w : World) (hl : LexLaid w) (hs : s.size ≤ 140737488351232) :
    Calls Tryz.prog 13 #[.string s] w (ReadQuery w s) := by
  have HC := hide (fun (W : World) (hb : Below w.heap.size w W) => readQuery_any s W (hl.kept hb) hs)
  clear hl hs
  obtain ⟨Post, hPost⟩ : ∃ Post : Ending → World → Prop, Post = ReadQuery w s := ⟨_, rfl⟩
  rw [← hPost]
  have HK : Hid (∀ w2, Below (w.alloc (.cells #[.int .i64 0, .int .i64 0, .int .i64 0] 27)).heap.size (w.alloc (.cells #[.int .i64 0, .int .i64 0, .int .i64 0] 27)) w2 → w2.heap[w.heap.size]? = some (.cells #[.int .i64 0, .int .i64 0, .int .i64 0] 27 (0, 0)) ∧ Below w.heap.size w w2) := fun w2 hb => by
    refine ⟨?_, belowt2 (belowA w _) hb⟩
    rw [hb.block _ (by simp)]; exact heap_alloc_new w _
  cases hr : queryP (scanX s).2.1 ((scanX s).2.2 : Int) (scanX s).1 with
  | bad ec eo =>
    have PB : Hid (∀ w', Below w.heap.size w w' → Post (.returned (.tuple #[.slice none 0 0, .agg #[.int .i64 ec, .int .i64 0, .int .i64 eo]])) w') := fun w' hb => by rw [hPost]; exact readQuery_mkb hr hb
    have HRr := hide hr
    clear hr hPost
    go_enter Tryz.func13, Tryz.ntmps13
    go_wp2_with (go_at_call 27; refine (HC.out _ (belowA _ _)).mono ?_; intro e w2 hq; obtain ⟨rfl, hb2⟩ := readQuery_bad hq HRr.out; clear hq; obtain ⟨k1, k2⟩ := HK.out w2 hb2; have HK2 := hide k2; clear hb2 k2; obtain ⟨⟨d0, d1, d2⟩, ⟨y0, y1, y2⟩⟩ := fault_cells k1; unfold faultV)
    have hV1 : (((w2.setCell ⟨w.heap.size, 0, none⟩ (.int .i64 ec)).setCell ⟨w.heap.size, 1, none⟩ (.int .i64 0)).setCell ⟨w.heap.size, 2, none⟩ (.int .i64 eo)).heap[w.heap.size]? = some (.cells #[.int .i64 ec, .int .i64 0, .int .i64 eo] 27 (0, 0)) := by simp [World.setCell, Array.getElem?_modify, k1]
    have hO : Below w.heap.size w (((w2.setCell ⟨w.heap.size, 0, none⟩ (.int .i64 ec)).setCell ⟨w.heap.size, 1, none⟩ (.int .i64 0)).setCell ⟨w.heap.size, 2, none⟩ (.int .i64 eo)) := ((((Only.of_below HK2.out (fun k => w.heap.size ≤ k)).setCell (p := ⟨w.heap.size, 0, none⟩) (Nat.le_refl _) _).setCell (p := ⟨w.heap.size, 1, none⟩) (Nat.le_refl _) _).setCell (p := ⟨w.heap.size, 2, none⟩) (Nat.le_refl _) _).below (Nat.le_refl _) (fun k hk e => by omega)
    generalize ((w2.setCell ⟨w.heap.size, 0, none⟩ (.int .i64 ec)).setCell ⟨w.heap.size, 1, none⟩ (.int .i64 0)).setCell ⟨w.heap.size, 2, none⟩ (.int .i64 eo) = V at hV1 hO ⊢
    obtain ⟨⟨f1, f2, f3⟩, -⟩ := fault_cells hV1
    exact bodyPost_ret (v := .tuple #[.slice none 0 0, .agg #[.int .i64 ec, .int .i64 0, .int .i64 eo]]) (by simp [results, Tryz.results13, go_sem, f1, f2, f3]) rfl (PB.out _ hO)
  | ok b r =>
    have PG : Hid (∀ w' v cs, cs.map Lix.pur = b → cs.length ≤ 16 → Lst elLix w' (fun k => w.heap.size ≤ k) v cs → Below w.heap.size w w' → Post (.returned (.tuple #[v, .agg #[.int .i64 0, .int .i64 0, .int .i64 0]])) w') := fun w' v cs h1 h2 h3 h4 => by rw [hPost]; exact readQuery_mko hr h1 h2 h3 h4
    have HRr := hide hr
    clear hr hPost
    go_enter Tryz.func13, Tryz.ntmps13
    go_wp2_with (go_at_call 27; refine (HC.out _ (belowA _ _)).mono ?_; intro e w2 hq; obtain ⟨v, cs, rfl, hpur, hlen, hls, hb2⟩ := readQuery_ok hq HRr.out; clear hq; obtain ⟨va, vc, rfl, -⟩ := hls.shape; obtain ⟨k1, k2⟩ := HK.out w2 hb2; have HK2 := hide k2; have HLs := hide hls; have HPu := hide hpur; have HLn := hide hlen; clear hb2 k2 hls hpur hlen; obtain ⟨⟨d0, d1, d2⟩, ⟨y0, y1, y2⟩⟩ := fault_cells k1; unfold faultV)
    have hV1 : (((w2.setCell ⟨w.heap.size, 0, none⟩ (.int .i64 0)).setCell ⟨w.heap.size, 1, none⟩ (.int .i64 0)).setCell ⟨w.heap.size, 2, none⟩ (.int .i64 0)).heap[w.heap.size]? = some (.cells #[.int .i64 0, .int .i64 0, .int .i64 0] 27 (0, 0)) := by simp [World.setCell, Array.getElem?_modify, k1]
    have hB : Below w.heap.size w (((w2.setCell ⟨w.heap.size, 0, none⟩ (.int .i64 0)).setCell ⟨w.heap.size, 1, none⟩ (.int .i64 0)).setCell ⟨w.heap.size, 2, none⟩ (.int .i64 0)) := ((((Only.of_below HK2.out (fun k => w.heap.size ≤ k)).setCell (p := ⟨w.heap.size, 0, none⟩) (Nat.le_refl _) _).setCell (p := ⟨w.heap.size, 1, none⟩) (Nat.le_refl _) _).setCell (p := ⟨w.heap.size, 2, none⟩) (Nat.le_refl _) _).below (Nat.le_refl _) (fun k hk e => by omega)
    have hO : Only (fun k => k = w.heap.size) w2 (((w2.setCell ⟨w.heap.size, 0, none⟩ (.int .i64 0)).setCell ⟨w.heap.size, 1, none⟩ (.int .i64 0)).setCell ⟨w.heap.size, 2, none⟩ (.int .i64 0)) := (((Only.refl (fun k => k = w.heap.size) w2).setCell (p := ⟨w.heap.size, 0, none⟩) rfl _).setCell (p := ⟨w.heap.size, 1, none⟩) rfl _).setCell (p := ⟨w.heap.size, 2, none⟩) rfl _
    generalize ((w2.setCell ⟨w.heap.size, 0, none⟩ (.int .i64 0)).setCell ⟨w.heap.size, 1, none⟩ (.int .i64 0)).setCell ⟨w.heap.size, 2, none⟩ (.int .i64 0) = V at hV1 hO hB ⊢
    obtain ⟨⟨f1, f2, f3⟩, -⟩ := fault_cells hV1
    exact bodyPost_ret (v := .tuple #[.slice va cs.length vc, .agg #[.int .i64 0, .int .i64 0, .int .i64 0]]) (by simp [results, Tryz.results13, go_sem, f1, f2, f3]) rfl (PG.out _ _ cs HPu.out HLn.out (HLs.out.move fun k hk hF => ⟨by simp at hF; omega, hO.block k hk (by simp at hF; omega)⟩) hB)
end Go.Proofs.YtmdhjggijlhhgaaGreatDoor

namespace Go.Proofs.YtmdhjggijlhhgaaGreatDoor
set_option linter.unusedSimpArgs false
set_option linter.unusedVariables false
open Go.RowKit

set_option maxRecDepth 100000 in
set_option maxHeartbeats 4000000 in
theorem parsePrograms_bad (s : ByteArray) (w : World) (hl : LexLaid w) (hs : s.size ≤ 140737488351232) {x o : Int} (hP : progP (scanX s).2.1 ((scanX s).2.2 : Int) (scanX s).1 = .bad x o) :
    Calls Tryz.prog 6 #[.string s] w fun e w' => e = .returned (.bool true) ∧ Below w.heap.size w w' := by
  have HPr := hide (parseProgram_any s w hl hs)
  have HP := hide hP
  have HRp := hide (fun W => rprog_bad s W hs ((prog_meet (scan_plain s).2).1 x o hP))
  have hfe := faultSame x o
  clear hl hs hP
  go_enter Tryz.func6, Tryz.ntmps6
  go_upto_region 3 with (first
    | (go_at_call 16; refine HPr.out.mono ?_; intro e w1 hq; obtain ⟨rfl, hb1⟩ := readProg_bad hq HP.out; clear hq; have HB1 := hide hb1; unfold faultV; clear hb1)
    | (go_at_call 17; refine (HRp.out _).mono ?_; rintro e w2 ⟨rfl, hb2⟩; have HB2 := hide hb2; unfold faultV; clear hb2))
  obtain ⟨Y, hY⟩ : ∃ Y, Y = ((w2.alloc (.cells #[.slice none 0 0] 42)).alloc (.cells #[.int .i64 x, .int .i64 0, .int .i64 o] 27)) := ⟨_, rfl⟩
  have hB2Y : Below ((w1.alloc (.cells #[.slice none 0 0] 42)).alloc (.cells #[.int .i64 x, .int .i64 0, .int .i64 o] 27)).heap.size ((w1.alloc (.cells #[.slice none 0 0] 42)).alloc (.cells #[.int .i64 x, .int .i64 0, .int .i64 o] 27)) Y := by rw [hY]; exact belowt2 HB2.out (below2a w2 (.cells #[.slice none 0 0] 42) (.cells #[.int .i64 x, .int .i64 0, .int .i64 o] 27))
  have HBY : Hid (Below w.heap.size w Y) := belowt2 (belowt2 HB1.out (below2a w1 (.cells #[.slice none 0 0] 42) (.cells #[.int .i64 x, .int .i64 0, .int .i64 o] 27))) hB2Y
  have hp1 : Y.heap[w1.heap.size]? = some (.cells #[.slice none 0 0] 42 (0, 0)) := box_kept9 (nb_first w1 _ _) hB2Y
  have hf1 : Y.heap[w1.heap.size + 1]? = some (.cells #[.int .i64 x, .int .i64 0, .int .i64 o] 27 (0, 0)) := box_kept9 (nb_second w1 _ _) hB2Y
  have hp2 : Y.heap[w2.heap.size]? = some (.cells #[.slice none 0 0] 42 (0, 0)) := by rw [hY]; exact nb_first w2 _ _
  have hf2 : Y.heap[w2.heap.size + 1]? = some (.cells #[.int .i64 x, .int .i64 0, .int .i64 o] 27 (0, 0)) := by rw [hY]; exact nb_second w2 _ _
  obtain ⟨⟨c0, c1, c2⟩, -⟩ := chk3_cells hf1
  obtain ⟨⟨d0, d1, d2⟩, -⟩ := chk3_cells hf2
  have e0 : Y.cell? ⟨w1.heap.size, 0, none⟩ = some (.slice none 0 0) := by simp [World.cell?, hp1]
  have e1 : Y.cell? ⟨w2.heap.size, 0, none⟩ = some (.slice none 0 0) := by simp [World.cell?, hp2]
  have HSm := hide (sameClauses_any (Lst.nil elClx Y (fun _ => True)) (Lst.nil elClx Y (fun _ => True)) rfl)
  rw [← hY]
  clear hY hB2Y hp1 hf1 hp2 hf2 HB1 HB2 HPr HRp
  go_wp2_with (go_at_call 18; refine HSm.out.mono ?_; rintro e w7 ⟨rfl, hb7⟩; have HB7 := hide (belowt2 HBY.out hb7); clear hb7)
  go_ret
  exact ⟨rfl, HB7.out⟩

set_option maxRecDepth 100000 in
set_option maxHeartbeats 4000000 in
theorem parsePrograms_ok (s : ByteArray) (w : World) (hl : LexLaid w) (hs : s.size ≤ 140737488351232) {bb : List PCls} {r : List Tok} (hP : progP (scanX s).2.1 ((scanX s).2.2 : Int) (scanX s).1 = .ok bb r) :
    Calls Tryz.prog 6 #[.string s] w fun e w' => e = .returned (.bool true) ∧ Below w.heap.size w w' := by
  have HPr := hide (parseProgram_any s w hl hs)
  have HP := hide hP
  obtain ⟨hC, S, last, hcut, hbb, hok⟩ := (prog_meet (scan_plain s).2).2 bb r hP
  have HRp := hide (fun W => rprog_ok s W hs hC hcut hok)
  rw [← hbb] at HRp
  clear hC hcut hok hbb
  have hfe := faultSame 0 0
  clear hl hs hP
  go_enter Tryz.func6, Tryz.ntmps6
  go_upto_region 3 with (first
    | (go_at_call 16; refine HPr.out.mono ?_; intro e w1 hq; obtain ⟨v, cs, rfl, hpur, -, hls, hb1⟩ := readProg_ok hq HP.out; clear hq; obtain ⟨va, vc, rfl, -⟩ := hls.shape; have HL1 := hide hls.all; have HU1 := hide hpur; clear hls hpur; have HB1 := hide hb1; unfold faultV; clear hb1)
    | (go_at_call 17; refine (HRp.out _).mono ?_; intro e w2 hq; obtain ⟨v, rfl, ds, hpur, hls, hb2⟩ := hq; obtain ⟨ua, uc, rfl, -⟩ := hls.shape; have HL2 := hide hls.all; have HU2 := hide hpur; clear hls hpur; have HB2 := hide hb2; unfold faultV; clear hb2))
  obtain ⟨Y, hY⟩ : ∃ Y, Y = ((w2.alloc (.cells #[.slice ua ds.length uc] 42)).alloc (.cells #[.int .i64 0, .int .i64 0, .int .i64 0] 27)) := ⟨_, rfl⟩
  have hB2Y : Below ((w1.alloc (.cells #[.slice va cs.length vc] 42)).alloc (.cells #[.int .i64 0, .int .i64 0, .int .i64 0] 27)).heap.size ((w1.alloc (.cells #[.slice va cs.length vc] 42)).alloc (.cells #[.int .i64 0, .int .i64 0, .int .i64 0] 27)) Y := by rw [hY]; exact belowt2 HB2.out (below2a w2 (.cells #[.slice ua ds.length uc] 42) (.cells #[.int .i64 0, .int .i64 0, .int .i64 0] 27))
  have HBY : Hid (Below w.heap.size w Y) := belowt2 (belowt2 HB1.out (below2a w1 (.cells #[.slice va cs.length vc] 42) (.cells #[.int .i64 0, .int .i64 0, .int .i64 0] 27))) hB2Y
  have hp1 : Y.heap[w1.heap.size]? = some (.cells #[.slice va cs.length vc] 42 (0, 0)) := box_kept9 (nb_first w1 _ _) hB2Y
  have hf1 : Y.heap[w1.heap.size + 1]? = some (.cells #[.int .i64 0, .int .i64 0, .int .i64 0] 27 (0, 0)) := box_kept9 (nb_second w1 _ _) hB2Y
  have hp2 : Y.heap[w2.heap.size]? = some (.cells #[.slice ua ds.length uc] 42 (0, 0)) := by rw [hY]; exact nb_first w2 _ _
  have hf2 : Y.heap[w2.heap.size + 1]? = some (.cells #[.int .i64 0, .int .i64 0, .int .i64 0] 27 (0, 0)) := by rw [hY]; exact nb_second w2 _ _
  obtain ⟨⟨c0, c1, c2⟩, -⟩ := chk3_cells hf1
  obtain ⟨⟨d0, d1, d2⟩, -⟩ := chk3_cells hf2
  have e0 : Y.cell? ⟨w1.heap.size, 0, none⟩ = some (.slice va cs.length vc) := by simp [World.cell?, hp1]
  have e1 : Y.cell? ⟨w2.heap.size, 0, none⟩ = some (.slice ua ds.length uc) := by simp [World.cell?, hp2]
  have HSm := hide (sameClauses_any (HL1.out.kept (belowt2 (below2a w1 (.cells #[.slice va cs.length vc] 42) (.cells #[.int .i64 0, .int .i64 0, .int .i64 0] 27)) hB2Y)) (HL2.out.kept (by rw [hY]; exact (below2a w2 (.cells #[.slice ua ds.length uc] 42) (.cells #[.int .i64 0, .int .i64 0, .int .i64 0] 27)))) (HU1.out.trans HU2.out.symm))
  rw [← hY]
  clear hY hB2Y hp1 hf1 hp2 hf2 HB1 HB2 HPr HRp
  go_wp2_with (go_at_call 18; refine HSm.out.mono ?_; rintro e w7 ⟨rfl, hb7⟩; have HB7 := hide (belowt2 HBY.out hb7); clear hb7)
  go_ret
  exact ⟨rfl, HB7.out⟩

theorem parsePrograms_walk (s : ByteArray) (w : World) (hs : s.size ≤ 140737488351232) (hl : LexLaid w) :
    Calls Tryz.prog 6 #[.string s] w fun e w' => e = .returned (.bool true) ∧ Below w.heap.size w w' := by
  cases hP : progP (scanX s).2.1 ((scanX s).2.2 : Int) (scanX s).1 with
  | bad x o => exact parsePrograms_bad s w hl hs hP
  | ok bb r => exact parsePrograms_ok s w hl hs hP
end Go.Proofs.YtmdhjggijlhhgaaGreatDoor
