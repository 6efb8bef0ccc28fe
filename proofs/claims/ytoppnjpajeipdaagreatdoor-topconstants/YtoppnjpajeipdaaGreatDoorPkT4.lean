/- edicttop.TopConstants returns true at every list. -/
import Derived.Test.YtoppnjpajeipdaaGreatDoorProg
import Derived.Test.YtoppnjpajeipdaaGreatDoorPkT1
import Derived.Test.YtoppnjpajeipdaaGreatDoorPkT2
import Derived.Test.YtoppnjpajeipdaaGreatDoorPkT3
import Derived.Deep.RegionHeld3

namespace Go.Proofs.YtoppnjpajeipdaaGreatDoor
set_option linter.unusedSimpArgs false
set_option linter.unusedVariables false
open Go.RowKit Go.Maps

theorem readT_back (c : Con) (hc : c.ok) (hv : validC c = true) (W : World) (hl : RdLaid W) :
    Calls Tryz.prog 10 #[.string (textC c)] W fun e w' => e = .returned (.tuple #[.agg #[.int .i64 c.k, .int .i64 c.n, .string c.s], .int .i64 0]) ∧ Below W.heap.size W w' :=
  (read_any (textC c) W (by have := (text_size hc hv).2; omega) hl).mono fun e w' ⟨⟨x, er, he, hr⟩, hb⟩ => by
    obtain ⟨rfl, rfl⟩ := readR_uniq hr (.inl ⟨rfl, hc, hv, rfl⟩)
    exact ⟨he, hb⟩
theorem neqT (c d : Con) (b : Bool) (h : conEq d c = b) (w : World) : (binOp .neq 26 (.agg #[.int .i64 d.k, .int .i64 d.n, .string d.s]) (.agg #[.int .i64 c.k, .int .i64 c.n, .string c.s])).run Tryz.prog w = .ok (.bool (!b)) w := by
  have := neqCon d c w
  rw [h] at this
  exact this

def minC : Con := ⟨1, -9223372036854775808, ⟨#[]⟩⟩
def minB : ByteArray := ⟨#[45, 57, 50, 50, 51, 51, 55, 50, 48, 51, 54, 56, 53, 52, 55, 55, 53, 56, 48, 56]⟩
theorem min_ok : minC.ok := ⟨by unfold I64 minC; decide, by unfold I64 minC; decide, by unfold minC; decide⟩
theorem min_text : textC minC = minB := by
  have h : Lib.itoa (-9223372036854775808) = [45, 57, 50, 50, 51, 51, 55, 50, 48, 51, 54, 56, 53, 52, 55, 55, 53, 56, 48, 56] := by
    simp [Lib.itoa, Lib.decDigits]
  show (if validC minC then (if minC.k = 1 then (⟨(Lib.itoa minC.n).toArray⟩ : ByteArray) else if minC.k = 2 then minC.s else strOf (quotI minC.s)) else ⟨#[]⟩) = _
  rw [show validC minC = true from (by unfold validC minC; rw [if_pos rfl, ByteArray.toList_eq]; rfl), if_pos rfl, if_pos (show minC.k = 1 from rfl), show minC.n = -9223372036854775808 from rfl, h]
  rfl

set_option maxRecDepth 100000 in
set_option maxHeartbeats 16000000 in
theorem topConstants_walk (ao : Option Addr) (len cap : Nat) (cs : List Con) (w : World) (h : IsCons w ao len cs) (hl : RdLaid w) :
    Calls Tryz.prog 3 #[.slice ao len cap] w fun e w' => e = .returned (.bool true) ∧ Below w.heap.size w w' := by
  obtain ⟨i0, hi0, hz0, hz1, hz2⟩ := info_parts Tryz.infoC3
  obtain ⟨hlen, hrest⟩ := h
  have hlb := hrest.1
  have HR := hide hrest
  have HN := hide hlen
  have HL := hide hl
  have HNw := hide (newTable_any w (base := w.heap.size) (Nat.le_refl _))
  clear hrest hlen hl
  go_enter Tryz.func3, Tryz.ntmps3
  go_wp2_with fail
  refine HNw.out.mono ?_
  rintro e w1 ⟨p, m, rfl, hT, hb, hp, hm⟩
  have HF0 : Hid (Fld w w1 p m (.slice none 0 0) [] []) := ⟨⟨0, none, 0, Nat.le_refl _, hT, fun k _ h => by cases h⟩, World.ownsRow_nil _ _ _ _, hb⟩
  clear hT hb hp hm HNw
  go_wp2_with fail
  go_loopw [4, 26] (fun v i wr => ∃ (k n : Nat) (va : Option Addr) (vc : Nat) (ks : List Con), k ≤ len ∧ i = .int .i64 k ∧ v = .slice va n vc ∧ n ≤ 65536 ∧ Hid (n = ks.length) ∧ Hid (ks.Nodup) ∧ Hid (∀ x ∈ ks, x.ok ∧ validC x = true) ∧ Hid (Fld w wr p m v ks ks)) (fun _ i _ => len - (intOf i).toNat)
  case atStart => exact ⟨0, 0, none, 0, [], by omega, rfl, rfl, by omega, rfl, List.nodup_nil, fun x hx => (by cases hx), HF0.out⟩
  case round =>
    clear HF0
    obtain ⟨k, n, va, vc, ks, hk, rfl, rfl, hn64, HLn, HNd, HOk, HF⟩ := hrel
    by_cases hlt : k < len
    · have hi : (k : Int) < (len : Int) := by omega
      obtain ⟨b, off, rfl, hr⟩ := HR.out.2.2 (by omega)
      obtain ⟨c, hc⟩ : ∃ c, cs[k]? = some c := ⟨_, List.getElem?_eq_getElem (by have := HN.out; omega)⟩
      have hok := HR.out.2.1 c (List.mem_of_getElem? hc)
      obtain ⟨x0, x1, x2⟩ := conAt_kept (hr k c hc) HF.out.bel
      obtain ⟨nn, ta, tc, hT⟩ := HF.out.open
      have HT : Hid (∀ W, Below wr.heap.size wr W → Tb w W p m nn ta tc (.slice va n vc) ks ks) := fun W hb => hT.grow hb
      have HFt : Hid (∀ j, foot p m ta j → j < wr.heap.size) := fun j hj => hT.ft hj
      have HOw : Hid (∀ j, (Value.slice va n vc).ownBlock = some j → j < wr.heap.size) := fun j hj => hT.own hj
      have HLd : Hid (∀ W, Below wr.heap.size wr W → RdLaid W) := fun W hb => HL.out.kept (HF.out.bel.trans (hb.mono HF.out.bel.size))
      have HCo := hide hok
      have HFi := hide (fun W => fit_any c W hok)
      have HVa : Hid (∀ W, Calls Tryz.prog 8 #[.agg #[.int .i64 c.k, .int .i64 c.n, .string c.s]] W fun e w' => e = .returned (.bool (validC c)) ∧ Below W.heap.size W w') := fun W => valid_any c W hok
      have HTe : Hid (∀ W, Below wr.heap.size wr W → Calls Tryz.prog 5 #[.agg #[.int .i64 c.k, .int .i64 c.n, .string c.s]] W fun e w' => e = .returned (.string (textC c)) ∧ Below W.heap.size W w') := fun W hb => symText_any c W hok (HLd.out W hb).tab
      have HFind : Hid (∀ W, Below wr.heap.size wr W → c ∉ ks → Calls Tryz.prog 9 #[.pointer (some ⟨p, 0, none⟩), .agg #[.int .i64 c.k, .int .i64 c.n, .string c.s]] W fun e w' => e = .returned (.int .i64 (-1)) ∧ Below W.heap.size W w') := fun W hb hi => findCon_none (HT.out W hb).tab hok (fun x hx => (HOk.out x hx).1) hi
      clear hr hc hT hok
      obtain ⟨bx, hbx⟩ : ∃ bx, bx = wr.heap.size := ⟨_, rfl⟩
      have HX1 : Hid (conBox bx (wr.alloc (.cells #[.int .i64 c.k, .int .i64 c.n, .string c.s] 26)) c.k c.n c.s) := by rw [hbx]; exact heap_alloc_new wr _
      have HB1 : Hid (Below wr.heap.size wr (wr.alloc (.cells #[.int .i64 c.k, .int .i64 c.n, .string c.s] 26))) := (Below.refl _ _).alloc (Nat.le_refl _) _
      have HBx : Hid (wr.heap.size = bx) := hbx.symm
      go_wp2_with fail
      rw [← hbx]
      clear hbx x0 x1 x2
      generalize wr.alloc (.cells #[.int .i64 c.k, .int .i64 c.n, .string c.s] 26) = W1 at *
      cases hv : validC c with
      | false =>
        rw [hv] at HFi HVa
        have HTx : Hid (textC c = ⟨#[]⟩) := by show _ = _; unfold textC; rw [hv]; rfl
        rw [HTx.out] at HTe
        have HNi : Hid (c ∉ ks) := fun hc => by have := (HOk.out c hc).2; rw [hv] at this; cases this
        have HBad : Hid (∀ W, Below wr.heap.size wr W → Calls Tryz.prog 7 #[.pointer (some ⟨p, 0, none⟩), .agg #[.int .i64 c.k, .int .i64 c.n, .string c.s]] W fun e w' => e = .returned (.tuple #[.int .i64 0, .int .i64 5]) ∧ Below W.heap.size W w') := fun W hb => tableIntern_bad (HT.out W hb).tab HCo.out hv
        clear hv HTx
        refine (HTe.out _ HB1.out).mono ?_
        rintro e W2 ⟨rfl, hb⟩
        have HB2 := hide (HB1.out.trans (hb.mono HB1.out.size))
        have HX2 := hide (HX1.out.kept hb)
        clear hb HB1 HX1
        obtain ⟨y0, y1, y2, _, _, _, ylt⟩ := HX2.out.cells
        go_wp2_with fail
        clear y0 y1 y2 ylt
        refine (HFi.out _).mono ?_
        rintro e W3 ⟨rfl, hb⟩
        have HB3 := hide (HB2.out.trans (hb.mono HB2.out.size))
        have HX3 := hide (HX2.out.kept hb)
        clear hb HB2 HX2
        obtain ⟨y0, y1, y2, _, _, _, ylt⟩ := HX3.out.cells
        go_wp2_with fail
        clear y0 y1 y2 ylt
        refine (HBad.out _ HB3.out).mono ?_
        rintro e W4 ⟨rfl, hb⟩
        have HB4 := hide (HB3.out.trans (hb.mono HB3.out.size))
        have HX4 := hide (HX3.out.kept hb)
        clear hb HB3 HX3
        obtain ⟨y0, y1, y2, _, _, _, ylt⟩ := HX4.out.cells
        go_wp2_with fail
        refine wp_region_over (fun V => V = W4) (by kernel_rfl) (by kernel_rfl) rfl ?_
        rintro V rfl
        have y0' := over_cell y0
        have y1' := over_cell y1
        have y2' := over_cell y2
        have G1 := hide (fun v => calls_over (HVa.out (over V v)))
        have G2 := hide (fun v => calls_over (HFind.out (over V v) (HB4.out.trans ((over_below V v).mono HB4.out.size)) HNi.out))
        clear y0 y1 y2
        repeat (go_big_quiet_step (first | (go_at_call 8; exact G1.out _) | (go_at_call 9; exact G2.out _)))
        refine wpQuiet_nil ?_
        rintro _ ⟨z, rfl⟩
        clear G1 G2 y0' y1' y2'
        have HB5 := hide (HB4.out.trans ((over_below V z).mono HB4.out.size))
        clear HB4 HX4
        go_wp2
        go_roundw
        case rel => exact ⟨k + 1, n, va, vc, ks, by omega, by go_num, rfl, hn64, HLn.out, HNd.out, HOk.out, (HT.out _ HB5.out).fld⟩
        case measure => simp [intOf]; omega
      | true =>
        rw [hv] at HFi HVa
        have HRe : Hid (∀ W, Below wr.heap.size wr W → Calls Tryz.prog 10 #[.string (textC c)] W fun e w' => e = .returned (.tuple #[.agg #[.int .i64 c.k, .int .i64 c.n, .string c.s], .int .i64 0]) ∧ Below W.heap.size W w') := fun W hb => readT_back c HCo.out hv W (HLd.out W hb)
        have HSh : Hid (∀ W, Calls Tryz.prog 11 #[.agg #[.int .i64 c.k, .int .i64 c.n, .string c.s]] W fun e w' => e = .returned (.string (textC c)) ∧ Below W.heap.size W w') := fun W => shown_any c W HCo.out hv
        have HV := hide hv
        have hnq := neqT c c true (conEq_refl c)
        clear hv
        generalize textC c = T at *
        have hss := str_eq (a := T) (b := T) rfl
        refine (HTe.out _ HB1.out).mono ?_
        rintro e W2 ⟨rfl, hb⟩
        have HB2 := hide (HB1.out.trans (hb.mono HB1.out.size))
        have HX2 := hide (HX1.out.kept hb)
        clear hb HB1 HX1
        obtain ⟨y0, y1, y2, _, _, _, ylt⟩ := HX2.out.cells
        go_wp2_with fail
        clear y0 y1 y2 ylt
        refine (HFi.out _).mono ?_
        rintro e W3 ⟨rfl, hb⟩
        have HB3 := hide (HB2.out.trans (hb.mono HB2.out.size))
        have HX3 := hide (HX2.out.kept hb)
        clear hb HB2 HX2
        obtain ⟨y0, y1, y2, _, _, _, ylt⟩ := HX3.out.cells
        go_wp2_with fail
        clear y0 y1 y2 ylt
        refine (HRe.out _ HB3.out).mono ?_
        rintro e W4 ⟨rfl, hb⟩
        have HB4 := hide (HB3.out.trans (hb.mono HB3.out.size))
        have HX4 := hide (HX3.out.kept hb)
        clear hb HB3 HX3
        obtain ⟨y0, y1, y2, _, _, _, ylt⟩ := HX4.out.cells
        have HY4 : Hid (conBox W4.heap.size (W4.alloc (.cells #[.int .i64 c.k, .int .i64 c.n, .string c.s] 26)) c.k c.n c.s) := heap_alloc_new W4 _
        have HX5 := hide (HX4.out.kept (below1 W4 (.cells #[.int .i64 c.k, .int .i64 c.n, .string c.s] 26)))
        have HB5 : Hid (Below wr.heap.size wr (W4.alloc (.cells #[.int .i64 c.k, .int .i64 c.n, .string c.s] 26))) := HB4.out.alloc HB4.out.size _
        go_wp2_with fail
        clear y0 y1 y2 ylt
        obtain ⟨by4, hby⟩ : ∃ b, b = W4.heap.size := ⟨_, rfl⟩
        rw [← hby] at HY4 ⊢
        clear hby HB4 HX4
        generalize W4.alloc (.cells #[.int .i64 c.k, .int .i64 c.n, .string c.s] 26) = W5 at *
        refine (HVa.out _).mono ?_
        rintro e W6 ⟨rfl, hb⟩
        have HB6 := hide (HB5.out.trans (hb.mono HB5.out.size))
        have HX6 := hide (HX5.out.kept hb)
        have HY5 := hide (HY4.out.kept hb)
        clear hb HB5 HX5 HY4
        obtain ⟨y0, y1, y2, _, _, _, ylt⟩ := HX6.out.cells
        go_wp2_with fail
        clear y0 y1 y2 ylt
        refine (HSh.out _).mono ?_
        rintro e W7 ⟨rfl, hb⟩
        have HB7 := hide (HB6.out.trans (hb.mono HB6.out.size))
        have HX7 := hide (HX6.out.kept hb)
        have HY6 := hide (HY5.out.kept hb)
        clear hb HB6 HX6 HY5
        obtain ⟨y0, y1, y2, _, _, _, ylt⟩ := HX7.out.cells
        obtain ⟨z0, z1, z2, _, _, _, zlt⟩ := HY6.out.cells
        go_wp2_with fail
        clear z0 z1 z2 zlt HY6 hss y0 y1 y2 ylt
        go_loopw [12] (fun t V => ∃ j : Nat, j ≤ n ∧ t = .int .i64 j ∧ Hid (∀ i, i < j → ks[i]? ≠ some c) ∧ Hid (Below W7.heap.size W7 V)) (fun t _ => n - (intOf t).toNat)
        case atStart => exact ⟨0, by omega, rfl, fun i hi => by omega, Below.refl _ _⟩
        case round =>
          rename World => V0
          obtain ⟨j, hj, rfl, HNo, HV0⟩ := hrel
          have HB8 := hide (HB7.out.trans (HV0.out.mono HB7.out.size))
          have HX8 := hide (HX7.out.kept HV0.out)
          clear HB7 HX7
          obtain ⟨y0, y1, y2, _, _, _, ylt⟩ := HX8.out.cells
          by_cases hjn : j < n
          · have hij : (j : Int) < (n : Int) := by omega
            obtain ⟨d, hd⟩ : ∃ d, ks[j]? = some d := ⟨_, List.getElem?_eq_getElem (by have := HLn.out; omega)⟩
            obtain ⟨g, gc, hge, hgc⟩ := con_cell (HT.out _ HB8.out).seen hd
            simp only [Value.slice.injEq] at hge
            obtain ⟨rfl, -, -⟩ := hge
            obtain ⟨d0, d1, d2⟩ := hgc
            by_cases hdc : d = c
            · subst hdc
              have hdq := hnq
              go_wp2_with fail
              refine wp_region_over (fun V => V = V0) (by kernel_rfl) (by kernel_rfl) rfl ?_
              rintro V rfl
              have y0' := over_cell y0
              have y1' := over_cell y1
              have y2' := over_cell y2
              have d0' := over_cell d0
              have d1' := over_cell d1
              have d2' := over_cell d2
              clear y0 y1 y2 d0 d1 d2
              repeat (go_big_quiet_step (first | (go_at_call 9; exact G0.out _)))
              refine wpQuiet_nil ?_
              rintro _ ⟨z, rfl⟩
              clear y0' y1' y2' d0' d1' d2'
              have hjq : ((j : Int) == (n : Int)) = false := by simp; omega
              have HB9 := hide (HB8.out.trans ((over_below V z).mono HB8.out.size))
              have HX9 := hide (HX8.out.kept (over_below V z))
              clear HB8 HX8 ylt
              generalize over V z = V9 at *
              have HInt : Hid (Calls Tryz.prog 7 #[.pointer (some ⟨p, 0, none⟩), .agg #[.int .i64 d.k, .int .i64 d.n, .string d.s]] V9 fun e w' => e = .returned (.tuple #[.int .i64 (j : Int), .int .i64 0]) ∧ Below V9.heap.size V9 w') := tableIntern_old (HT.out _ HB9.out).tab HCo.out HV.out hd
              obtain ⟨y0, y1, y2, _, _, _, ylt⟩ := HX9.out.cells
              go_wp2_with fail
              clear y0 y1 y2 ylt
              refine HInt.out.mono ?_
              rintro e U ⟨rfl, hb⟩
              have HFn : Hid (Fld w U p m (.slice (some ⟨g, 0, none⟩) n vc) ks ks) := (HT.out _ (HB9.out.trans (hb.mono HB9.out.size))).fld
              have HXu := hide (HX9.out.kept hb)
              have HAt := hide hd
              clear hb HB9 HX9 HInt hjq hd HNo
              skip
              obtain ⟨n3, ta3, tc3, hT3⟩ := HFn.out.open
              have HT3 : Hid (∀ W, Below U.heap.size U W → Tb w W p m n3 ta3 tc3 (.slice (some ⟨g, 0, none⟩) n vc) ks ks) := fun W hb => hT3.grow hb
              have HFd3 : Hid (∀ W, Below U.heap.size U W → Calls Tryz.prog 9 #[.pointer (some ⟨p, 0, none⟩), .agg #[.int .i64 d.k, .int .i64 d.n, .string d.s]] W fun e w' => e = .returned (.int .i64 (j : Int)) ∧ Below W.heap.size W w') := fun W hb => findCon_some (HT3.out W hb).tab HCo.out HAt.out
              have HLe3 : Hid (∀ W, Below U.heap.size U W → Calls Tryz.prog 12 #[.pointer (some ⟨p, 0, none⟩)] W fun e w' => e = .returned (.int .i64 (n : Int)) ∧ Below W.heap.size W w') := fun W hb => by have := lenCon_any (HT3.out W hb).tab; rw [← HLn.out] at this; exact this.mono fun e w' ⟨he, hw⟩ => ⟨he, by rw [hw]; exact Below.refl _ _⟩
              have HFt3 : Hid (∀ f, foot p m ta3 f → f < U.heap.size) := fun f hf => hT3.ft hf
              clear hT3 HFn
              obtain ⟨y0, y1, y2, _, _, _, ylt⟩ := HXu.out.cells
              go_wp2_with fail
              refine wp_region_over (fun V => V = U) (by kernel_rfl) (by kernel_rfl) rfl ?_
              rintro V rfl
              have y0' := over_cell y0
              have y1' := over_cell y1
              have y2' := over_cell y2
              have G1 := hide (fun v => calls_over (HFd3.out (over V v) (over_below V v)))
              have G2 := hide (fun v => calls_over (HLe3.out (over V v) (over_below V v)))
              clear y0 y1 y2
              repeat (go_big_quiet_step (first | (go_at_call 9; exact G1.out _) | (go_at_call 12; exact G2.out _)))
              refine wpQuiet_nil ?_
              rintro _ ⟨z, rfl⟩
              clear G1 G2 y0' y1' y2'
              have HV9 := hide (over_below V z)
              clear HFd3 HLe3 ylt
              generalize over V z = V9 at *
              go_wp2_with fail
              go_loopw [169] (fun t Z => ∃ i : Nat, i ≤ n ∧ t = .int .i64 i ∧ Hid (Below V.heap.size V Z)) (fun t _ => n - (intOf t).toNat)
              case atStart => exact ⟨0, by omega, rfl, HV9.out⟩
              case round =>
                rename World => Z0
                obtain ⟨i, hin, rfl, HZ⟩ := hrel
                by_cases hli : i < n
                · have hii : (i : Int) < (n : Int) := by omega
                  obtain ⟨q, hd⟩ : ∃ q, ks[i]? = some q := ⟨_, List.getElem?_eq_getElem (by have := HLn.out; omega)⟩
                  have hdk := HOk.out q (List.mem_of_getElem? hd)
                  have hgc := con_at (HT3.out _ HZ.out).seen hd
                  obtain ⟨d0, d1, d2⟩ := hgc
                  have HCn : Hid (∀ W, Below V.heap.size V W → Calls Tryz.prog 13 #[.pointer (some ⟨p, 0, none⟩), .int .i64 i] W fun e w' => e = .returned (.tuple #[.agg #[.int .i64 q.k, .int .i64 q.n, .string q.s], .int .i64 0]) ∧ Below W.heap.size W w') := fun W hb => tConst_in (HT3.out W hb).tab (by have := HLn.out; omega) hd
                  have HC1 : Hid (∀ W, Calls Tryz.prog 14 #[.agg #[.int .i64 d.k, .int .i64 d.n, .string d.s], .agg #[.int .i64 q.k, .int .i64 q.n, .string q.s]] W fun e w' => e = .returned (.int .i64 (cmpC d q)) ∧ Below W.heap.size W w') := fun W => compare_any d q W
                  have HC2 : Hid (∀ W, Calls Tryz.prog 14 #[.agg #[.int .i64 q.k, .int .i64 q.n, .string q.s], .agg #[.int .i64 d.k, .int .i64 d.n, .string d.s]] W fun e w' => e = .returned (.int .i64 (cmpC q d)) ∧ Below W.heap.size W w') := fun W => compare_any q d W
                  have HC3 : Hid (∀ W, Calls Tryz.prog 15 #[.agg #[.int .i64 d.k, .int .i64 d.n, .string d.s], .agg #[.int .i64 q.k, .int .i64 q.n, .string q.s]] W fun e w' => e = .returned (.int .i64 (cmpC d q)) ∧ Below W.heap.size W w') := fun W => before_any d q W HV.out hdk.2
                  have HC4 : Hid (∀ W, Calls Tryz.prog 15 #[.agg #[.int .i64 q.k, .int .i64 q.n, .string q.s], .agg #[.int .i64 d.k, .int .i64 d.n, .string d.s]] W fun e w' => e = .returned (.int .i64 (cmpC q d)) ∧ Below W.heap.size W w') := fun W => before_any q d W hdk.2 HV.out
                  have hdq := neqT q q true (conEq_refl q)
                  generalize cmpC d q = R1 at *
                  generalize cmpC q d = R2 at *
                  clear hd hdk
                  obtain ⟨bd, hbd⟩ : ∃ b, b = Z0.heap.size := ⟨_, rfl⟩
                  have HD1 : Hid (conBox bd (Z0.alloc (.cells #[.int .i64 q.k, .int .i64 q.n, .string q.s] 26)) q.k q.n q.s) := by rw [hbd]; exact heap_alloc_new Z0 _
                  have HZ1 : Hid (Below V.heap.size V (Z0.alloc (.cells #[.int .i64 q.k, .int .i64 q.n, .string q.s] 26))) := HZ.out.alloc HZ.out.size _
                  go_wp2_with fail
                  rw [← hbd]
                  clear hbd d0 d1 d2 HZ
                  generalize Z0.alloc (.cells #[.int .i64 q.k, .int .i64 q.n, .string q.s] 26) = Z1 at *
                  refine (HCn.out _ HZ1.out).mono ?_
                  rintro e Z2 ⟨rfl, hb⟩
                  have HZ2 := hide (HZ1.out.trans (hb.mono HZ1.out.size))
                  have HD2 := hide (HD1.out.kept hb)
                  clear hb HZ1 HD1
                  obtain ⟨be, hbe⟩ : ∃ b, b = Z2.heap.size := ⟨_, rfl⟩
                  have HE1 : Hid (conBox be (Z2.alloc (.cells #[.int .i64 q.k, .int .i64 q.n, .string q.s] 26)) q.k q.n q.s) := by rw [hbe]; exact heap_alloc_new Z2 _
                  have HD3 := hide (HD2.out.kept (below1 Z2 (.cells #[.int .i64 q.k, .int .i64 q.n, .string q.s] 26)))
                  have HZ3 : Hid (Below V.heap.size V (Z2.alloc (.cells #[.int .i64 q.k, .int .i64 q.n, .string q.s] 26))) := HZ2.out.alloc HZ2.out.size _
                  go_wp2_with fail
                  rw [← hbe]
                  clear hbe HZ2 HD2
                  generalize Z2.alloc (.cells #[.int .i64 q.k, .int .i64 q.n, .string q.s] 26) = Z3 at *
                  obtain ⟨y0, y1, y2, _, _, _, ylt⟩ := (HXu.out.kept HZ3.out).cells
                  obtain ⟨d0, d1, d2, _, _, _, dlt⟩ := HD3.out.cells
                  obtain ⟨e0, e1, e2, _, _, _, elt⟩ := HE1.out.cells
                  refine wp_region_over (fun S => S = Z3) (by kernel_rfl) (by kernel_rfl) rfl ?_
                  rintro S rfl
                  have y0' := over_cell y0
                  have y1' := over_cell y1
                  have y2' := over_cell y2
                  have d0' := over_cell d0
                  have d1' := over_cell d1
                  have d2' := over_cell d2
                  have e0' := over_cell e0
                  have e1' := over_cell e1
                  have e2' := over_cell e2
                  have G1 := hide (fun v => calls_over (HC1.out (over S v)))
                  have G2 := hide (fun v => calls_over (HC2.out (over S v)))
                  have G3 := hide (fun v => calls_over (HC3.out (over S v)))
                  have G4 := hide (fun v => calls_over (HC4.out (over S v)))
                  clear y0 y1 y2 d0 d1 d2 e0 e1 e2 HC1 HC2 HC3 HC4 HCn
                  repeat (go_big_quiet_step (first | (go_at_call 14; first | (with_reducible exact G1.out _) | (with_reducible exact G2.out _)) | (go_at_call 15; first | (with_reducible exact G3.out _) | (with_reducible exact G4.out _))))
                  refine wpQuiet_nil ?_
                  rintro _ ⟨z2, rfl⟩
                  have HZ4 := hide (HZ3.out.trans ((over_below S z2).mono HZ3.out.size))
                  clear G1 G2 G3 G4 y0' y1' y2' d0' d1' d2' e0' e1' e2' ylt dlt elt HD3 HE1 HZ3
                  go_wp2
                  go_roundw
                  case rel => exact ⟨i + 1, by omega, by go_num, HZ4.out⟩
                  case measure => simp [intOf]; omega
                · obtain rfl : i = n := by omega
                  have hii : ¬ (i : Int) < (i : Int) := by omega
                  go_wp2
                  go_roundw
                  case rel => exact ⟨k + 1, i, (some ⟨g, 0, none⟩), vc, ks, by omega, by go_num, rfl, hn64, HLn.out, HNd.out, HOk.out, (HT3.out _ HZ.out).fld⟩
                  case measure => simp [intOf]; omega
            · have hdq := neqT c d false (by cases hb : conEq d c with | false => rfl | true => exact absurd ((conEq_iff d c).1 hb) hdc)
              go_wp2_with fail
              refine wp_region_over (fun V => V = V0) (by kernel_rfl) (by kernel_rfl) rfl ?_
              rintro V rfl
              have y0' := over_cell y0
              have y1' := over_cell y1
              have y2' := over_cell y2
              have d0' := over_cell d0
              have d1' := over_cell d1
              have d2' := over_cell d2
              clear y0 y1 y2 d0 d1 d2
              repeat (go_big_quiet_step (first | (go_at_call 9; exact G0.out _)))
              refine wpQuiet_nil ?_
              rintro _ ⟨z, rfl⟩
              clear y0' y1' y2' d0' d1' d2'
              have HV1 := hide (HV0.out.trans ((over_below V z).mono HV0.out.size))
              clear HB8 HX8 ylt HV0
              go_wp2
              go_roundw
              case rel => exact ⟨j + 1, by omega, by go_num, (fun i hi => by rcases Nat.lt_or_ge i j with h | h; exact HNo.out i h; rw [show i = j from by omega, hd]; intro he; exact hdc (Option.some.inj he)), HV1.out⟩
              case measure => simp [intOf]; omega
          · obtain rfl : j = n := by omega
            have hij : ¬ (j : Int) < (j : Int) := by omega
            have HNi : Hid (c ∉ ks) := fun hc => by obtain ⟨i, hi2⟩ := List.mem_iff_getElem?.1 hc; exact HNo.out i (by have := (List.getElem?_eq_some_iff.1 hi2).1; have := HLn.out; omega) hi2
            clear HNo HV0
            go_wp2_with fail
            refine wp_region_over (fun V => V = V0) (by kernel_rfl) (by kernel_rfl) rfl ?_
            rintro V rfl
            have y0' := over_cell y0
            have y1' := over_cell y1
            have y2' := over_cell y2
            clear y0 y1 y2
            repeat (go_big_quiet_step (first | (go_at_call 9; exact G0.out _)))
            refine wpQuiet_nil ?_
            rintro _ ⟨z, rfl⟩
            clear y0' y1' y2'
            have HB9 := hide (HB8.out.trans ((over_below V z).mono HB8.out.size))
            have HX9 := hide (HX8.out.kept (over_below V z))
            clear HB8 HX8 ylt
            generalize over V z = V9 at *
            obtain ⟨y0, y1, y2, _, _, _, ylt⟩ := HX9.out.cells
            go_wp2_with fail
            refine wp_region_over (fun V => V = V9) (by kernel_rfl) (by kernel_rfl) rfl ?_
            rintro V9 rfl
            have y0' := over_cell y0
            have y1' := over_cell y1
            have y2' := over_cell y2
            have G2 := hide (fun v => calls_over (HFind.out (over V9 v) (HB9.out.trans ((over_below V9 v).mono HB9.out.size)) HNi.out))
            clear y0 y1 y2
            repeat (go_big_quiet_step (first | (go_at_call 9; exact G2.out _)))
            refine wpQuiet_nil ?_
            rintro _ ⟨z, rfl⟩
            clear G2 y0' y1' y2'
            have HB10 := hide (HB9.out.trans ((over_below V9 z).mono HB9.out.size))
            have HX10 := hide (HX9.out.kept (over_below V9 z))
            clear HB9 HX9 ylt
            generalize over V9 z = W10 at *
            obtain ⟨y0, y1, y2, _, _, _, ylt⟩ := HX10.out.cells
            by_cases hfull : j = 65536
            · have hjq : ((j : Int) == 65536) = true := by simp; omega
              have HFull : Hid (∀ W, Below wr.heap.size wr W → Calls Tryz.prog 7 #[.pointer (some ⟨p, 0, none⟩), .agg #[.int .i64 c.k, .int .i64 c.n, .string c.s]] W fun e w' => e = .returned (.tuple #[.int .i64 0, .int .i64 6]) ∧ Below W.heap.size W w') := fun W hb => tableIntern_full (HT.out W hb).tab HCo.out (fun x hx => (HOk.out x hx).1) HV.out HNi.out (by rw [← HLn.out]; exact hfull)
              have HLe : Hid (∀ W, Below wr.heap.size wr W → Calls Tryz.prog 12 #[.pointer (some ⟨p, 0, none⟩)] W fun e w' => e = .returned (.int .i64 (j : Int)) ∧ Below W.heap.size W w') := fun W hb => by have := lenCon_any (HT.out W hb).tab; rw [← HLn.out] at this; exact this.mono fun e w' ⟨he, hw⟩ => ⟨he, by rw [hw]; exact Below.refl _ _⟩
              clear hfull
              go_wp2_with fail
              clear y0 y1 y2 ylt
              refine (HFull.out _ HB10.out).mono ?_
              rintro e W11 ⟨rfl, hb⟩
              have HB11 := hide (HB10.out.trans (hb.mono HB10.out.size))
              clear hb HB10
              go_wp2_with fail
              refine (HLe.out _ HB11.out).mono ?_
              rintro e W12 ⟨rfl, hb⟩
              have HB12 := hide (HB11.out.trans (hb.mono HB11.out.size))
              clear hb HB11
              go_wp2
              go_roundw
              case rel => exact ⟨k + 1, j, va, vc, ks, by omega, by go_num, rfl, hn64, HLn.out, HNd.out, HOk.out, (HT.out _ HB12.out).fld⟩
              case measure => simp [intOf]; omega
            · have hjq : ((j : Int) == 65536) = false := by simp; omega
              have HH : Hid (W10.ownsRow w.heap.size 26 3 (.slice va j vc) j (ks.flatMap cells3)) := by have := (HT.out _ HB10.out).seen; unfold Holds3 at this; rw [← HLn.out] at this; exact this
              have HBw := hide (HT.out _ HB10.out).bel
              skip
              go_wp2_with (at_builtin; refine wpList_append_lies _ rfl _ _ 22 rfl w.heap.size 26 i0 (.agg #[.int .i64 0, .int .i64 0, .string ⟨#[]⟩]) 3 32 Tryz.underlying22 hi0 hz0 hz1 hz2 rfl (by decide) (.slice va j vc) j (ks.flatMap cells3) rfl (World.ownsRow.alloc HH.out _) ⟨W10.heap.size, 0, none⟩ 1 1 (cells3 c) rfl rfl con_new (by simp [cells3, Value.oneCell']) (by decide) (by unfold maxLen; omega) (by omega) (by have := HBw.out.size; simp; omega) (W10.heap.size + 1) (by simp) ?_; intro gg cap' W11 hown1 hgrow hat hlt1; obtain ⟨hP, hPo⟩ := (HT.out _ HB10.out).push (c := c) (by rw [← HLn.out]; exact hown1) hgrow hat; rw [← HLn.out] at hP; have HP := hide hP; have HX11 := hide (HX10.out.only hPo (fun hS => by have := HOw.out _ hS; have := HBx.out; omega)); clear hown1 hgrow hat hlt1 hP hPo HH HBw HX10 HB10 y0 y1 y2 ylt; obtain ⟨y0, y1, y2, _, _, _, ylt⟩ := HX11.out.cells)
              clear y0 y1 y2 ylt
              have HInt : Hid (Calls Tryz.prog 7 #[.pointer (some ⟨p, 0, none⟩), .agg #[.int .i64 c.k, .int .i64 c.n, .string c.s]] W11 fun e W' => e = .returned (.tuple #[.int .i64 (j : Int), .int .i64 0]) ∧ Hid (Fld w W' p m (.slice (some ⟨gg, 0, none⟩) (j + 1) cap') (ks ++ [c]) (ks ++ [c])) ∧ Hid (Only (foot p m ta) W11 W')) := by have := HP.out.new HCo.out (fun x hx => (HOk.out x hx).1) HV.out HNi.out (by have := HLn.out; omega); rw [← HLn.out] at this; exact this
              refine HInt.out.mono ?_
              rintro e U ⟨rfl, hF, hO⟩
              have HFn := hF
              have HXu := hide (HX11.out.only hO.out (fun hS => by have := HFt.out _ hS; have := HBx.out; omega))
              have HAt : Hid ((ks ++ [c])[j]? = some c) := by show _ = _; rw [HLn.out, List.getElem?_append_right (Nat.le_refl _)]; simp
              clear hF hO HInt HP HX11
              obtain ⟨N2, hN2⟩ : ∃ N2, N2 = j + 1 := ⟨_, rfl⟩
              rw [← hN2] at HFn ⊢
              have HLn2 : Hid (N2 = (ks ++ [c]).length) := by show _ = _; rw [List.length_append, ← HLn.out, hN2]; rfl
              have HNd2 : Hid ((ks ++ [c]).Nodup) := by show List.Nodup _; rw [List.nodup_append]; exact ⟨HNd.out, by simp, fun a ha b hb e => by rw [List.mem_singleton] at hb; subst hb; subst e; exact HNi.out ha⟩
              have HOk2 : Hid (∀ x ∈ ks ++ [c], x.ok ∧ validC x = true) := fun x hx => by rcases List.mem_append.1 hx with h | h; exact HOk.out x h; rw [List.mem_singleton] at h; subst h; exact ⟨HCo.out, HV.out⟩
              have hN64 : N2 ≤ 65536 := by omega
              obtain ⟨K2, hK2⟩ : ∃ K2, K2 = ks ++ [c] := ⟨_, rfl⟩
              rw [← hK2] at HFn HAt HLn2 HNd2 HOk2
              clear hN2 hK2 hfull hjq HLn HNd HOk HF HNi HT HFt HOw HFind hn64 hj hij
              obtain ⟨n3, ta3, tc3, hT3⟩ := HFn.out.open
              have HT3 : Hid (∀ W, Below U.heap.size U W → Tb w W p m n3 ta3 tc3 (.slice (some ⟨gg, 0, none⟩) N2 cap') K2 K2) := fun W hb => hT3.grow hb
              have HFd3 : Hid (∀ W, Below U.heap.size U W → Calls Tryz.prog 9 #[.pointer (some ⟨p, 0, none⟩), .agg #[.int .i64 c.k, .int .i64 c.n, .string c.s]] W fun e w' => e = .returned (.int .i64 (j : Int)) ∧ Below W.heap.size W w') := fun W hb => findCon_some (HT3.out W hb).tab HCo.out HAt.out
              have HLe3 : Hid (∀ W, Below U.heap.size U W → Calls Tryz.prog 12 #[.pointer (some ⟨p, 0, none⟩)] W fun e w' => e = .returned (.int .i64 (N2 : Int)) ∧ Below W.heap.size W w') := fun W hb => by have := lenCon_any (HT3.out W hb).tab; rw [← HLn2.out] at this; exact this.mono fun e w' ⟨he, hw⟩ => ⟨he, by rw [hw]; exact Below.refl _ _⟩
              have HFt3 : Hid (∀ f, foot p m ta3 f → f < U.heap.size) := fun f hf => hT3.ft hf
              clear hT3 HFn
              obtain ⟨y0, y1, y2, _, _, _, ylt⟩ := HXu.out.cells
              go_wp2_with fail
              refine wp_region_over (fun V => V = U) (by kernel_rfl) (by kernel_rfl) rfl ?_
              rintro V rfl
              have y0' := over_cell y0
              have y1' := over_cell y1
              have y2' := over_cell y2
              have G1 := hide (fun v => calls_over (HFd3.out (over V v) (over_below V v)))
              have G2 := hide (fun v => calls_over (HLe3.out (over V v) (over_below V v)))
              clear y0 y1 y2
              repeat (go_big_quiet_step (first | (go_at_call 9; exact G1.out _) | (go_at_call 12; exact G2.out _)))
              refine wpQuiet_nil ?_
              rintro _ ⟨z, rfl⟩
              clear G1 G2 y0' y1' y2'
              have HV9 := hide (over_below V z)
              clear HFd3 HLe3 ylt
              generalize over V z = V9 at *
              go_wp2_with fail
              go_loopw [169] (fun t Z => ∃ i : Nat, i ≤ N2 ∧ t = .int .i64 i ∧ Hid (Below V.heap.size V Z)) (fun t _ => N2 - (intOf t).toNat)
              case atStart => exact ⟨0, by omega, rfl, HV9.out⟩
              case round =>
                rename World => Z0
                obtain ⟨i, hin, rfl, HZ⟩ := hrel
                by_cases hli : i < N2
                · have hii : (i : Int) < (N2 : Int) := by omega
                  obtain ⟨q, hd⟩ : ∃ q, K2[i]? = some q := ⟨_, List.getElem?_eq_getElem (by have := HLn2.out; omega)⟩
                  have hdk := HOk2.out q (List.mem_of_getElem? hd)
                  have hgc := con_at (HT3.out _ HZ.out).seen hd
                  obtain ⟨d0, d1, d2⟩ := hgc
                  have HCn : Hid (∀ W, Below V.heap.size V W → Calls Tryz.prog 13 #[.pointer (some ⟨p, 0, none⟩), .int .i64 i] W fun e w' => e = .returned (.tuple #[.agg #[.int .i64 q.k, .int .i64 q.n, .string q.s], .int .i64 0]) ∧ Below W.heap.size W w') := fun W hb => tConst_in (HT3.out W hb).tab (by have := HLn2.out; omega) hd
                  have HC1 : Hid (∀ W, Calls Tryz.prog 14 #[.agg #[.int .i64 c.k, .int .i64 c.n, .string c.s], .agg #[.int .i64 q.k, .int .i64 q.n, .string q.s]] W fun e w' => e = .returned (.int .i64 (cmpC c q)) ∧ Below W.heap.size W w') := fun W => compare_any c q W
                  have HC2 : Hid (∀ W, Calls Tryz.prog 14 #[.agg #[.int .i64 q.k, .int .i64 q.n, .string q.s], .agg #[.int .i64 c.k, .int .i64 c.n, .string c.s]] W fun e w' => e = .returned (.int .i64 (cmpC q c)) ∧ Below W.heap.size W w') := fun W => compare_any q c W
                  have HC3 : Hid (∀ W, Calls Tryz.prog 15 #[.agg #[.int .i64 c.k, .int .i64 c.n, .string c.s], .agg #[.int .i64 q.k, .int .i64 q.n, .string q.s]] W fun e w' => e = .returned (.int .i64 (cmpC c q)) ∧ Below W.heap.size W w') := fun W => before_any c q W HV.out hdk.2
                  have HC4 : Hid (∀ W, Calls Tryz.prog 15 #[.agg #[.int .i64 q.k, .int .i64 q.n, .string q.s], .agg #[.int .i64 c.k, .int .i64 c.n, .string c.s]] W fun e w' => e = .returned (.int .i64 (cmpC q c)) ∧ Below W.heap.size W w') := fun W => before_any q c W hdk.2 HV.out
                  have hdq := neqT q q true (conEq_refl q)
                  generalize cmpC c q = R1 at *
                  generalize cmpC q c = R2 at *
                  clear hd hdk
                  obtain ⟨bd, hbd⟩ : ∃ b, b = Z0.heap.size := ⟨_, rfl⟩
                  have HD1 : Hid (conBox bd (Z0.alloc (.cells #[.int .i64 q.k, .int .i64 q.n, .string q.s] 26)) q.k q.n q.s) := by rw [hbd]; exact heap_alloc_new Z0 _
                  have HZ1 : Hid (Below V.heap.size V (Z0.alloc (.cells #[.int .i64 q.k, .int .i64 q.n, .string q.s] 26))) := HZ.out.alloc HZ.out.size _
                  go_wp2_with fail
                  rw [← hbd]
                  clear hbd d0 d1 d2 HZ
                  generalize Z0.alloc (.cells #[.int .i64 q.k, .int .i64 q.n, .string q.s] 26) = Z1 at *
                  refine (HCn.out _ HZ1.out).mono ?_
                  rintro e Z2 ⟨rfl, hb⟩
                  have HZ2 := hide (HZ1.out.trans (hb.mono HZ1.out.size))
                  have HD2 := hide (HD1.out.kept hb)
                  clear hb HZ1 HD1
                  obtain ⟨be, hbe⟩ : ∃ b, b = Z2.heap.size := ⟨_, rfl⟩
                  have HE1 : Hid (conBox be (Z2.alloc (.cells #[.int .i64 q.k, .int .i64 q.n, .string q.s] 26)) q.k q.n q.s) := by rw [hbe]; exact heap_alloc_new Z2 _
                  have HD3 := hide (HD2.out.kept (below1 Z2 (.cells #[.int .i64 q.k, .int .i64 q.n, .string q.s] 26)))
                  have HZ3 : Hid (Below V.heap.size V (Z2.alloc (.cells #[.int .i64 q.k, .int .i64 q.n, .string q.s] 26))) := HZ2.out.alloc HZ2.out.size _
                  go_wp2_with fail
                  rw [← hbe]
                  clear hbe HZ2 HD2
                  generalize Z2.alloc (.cells #[.int .i64 q.k, .int .i64 q.n, .string q.s] 26) = Z3 at *
                  obtain ⟨y0, y1, y2, _, _, _, ylt⟩ := (HXu.out.kept HZ3.out).cells
                  obtain ⟨d0, d1, d2, _, _, _, dlt⟩ := HD3.out.cells
                  obtain ⟨e0, e1, e2, _, _, _, elt⟩ := HE1.out.cells
                  refine wp_region_over (fun S => S = Z3) (by kernel_rfl) (by kernel_rfl) rfl ?_
                  rintro S rfl
                  have y0' := over_cell y0
                  have y1' := over_cell y1
                  have y2' := over_cell y2
                  have d0' := over_cell d0
                  have d1' := over_cell d1
                  have d2' := over_cell d2
                  have e0' := over_cell e0
                  have e1' := over_cell e1
                  have e2' := over_cell e2
                  have G1 := hide (fun v => calls_over (HC1.out (over S v)))
                  have G2 := hide (fun v => calls_over (HC2.out (over S v)))
                  have G3 := hide (fun v => calls_over (HC3.out (over S v)))
                  have G4 := hide (fun v => calls_over (HC4.out (over S v)))
                  clear y0 y1 y2 d0 d1 d2 e0 e1 e2 HC1 HC2 HC3 HC4 HCn
                  repeat (go_big_quiet_step (first | (go_at_call 14; first | (with_reducible exact G1.out _) | (with_reducible exact G2.out _)) | (go_at_call 15; first | (with_reducible exact G3.out _) | (with_reducible exact G4.out _))))
                  refine wpQuiet_nil ?_
                  rintro _ ⟨z2, rfl⟩
                  have HZ4 := hide (HZ3.out.trans ((over_below S z2).mono HZ3.out.size))
                  clear G1 G2 G3 G4 y0' y1' y2' d0' d1' d2' e0' e1' e2' ylt dlt elt HD3 HE1 HZ3
                  go_wp2
                  go_roundw
                  case rel => exact ⟨i + 1, by omega, by go_num, HZ4.out⟩
                  case measure => simp [intOf]; omega
                · obtain rfl : i = N2 := by omega
                  have hii : ¬ (i : Int) < (i : Int) := by omega
                  go_wp2
                  go_roundw
                  case rel => exact ⟨k + 1, i, (some ⟨gg, 0, none⟩), cap', K2, by omega, by go_num, rfl, hN64, HLn2.out, HNd2.out, HOk2.out, (HT3.out _ HZ.out).fld⟩
                  case measure => simp [intOf]; omega
    · obtain rfl : k = len := by omega
      have hi : ¬ (k : Int) < (k : Int) := by omega
      obtain ⟨nn, ta, tc, hT⟩ := HF.out.open
      have HT : Hid (∀ W, Below wr.heap.size wr W → Tb w W p m nn ta tc (.slice va n vc) ks ks) := fun W hb => hT.grow hb
      have HSo := hide (sorted_any sortIds_is hT.tab HNd.out (by have := HLn.out; omega))
      have HRk : Hid (∀ W, Below wr.heap.size wr W → Calls Tryz.prog 18 #[.pointer (some ⟨p, 0, none⟩)] W fun e w' => ∃ g, e = .returned (.slice (some ⟨g, 0, none⟩) n n) ∧ w'.rowIs g 3 n (fun i => encI ((sortL ks).idxOf i)) ∧ W.heap.size ≤ g ∧ Below W.heap.size W w') := fun W hb => by have := ranks_any sortIds_is (HT.out W hb).tab HNd.out (by have := HLn.out; omega); rw [← HLn.out] at this; exact this
      have HLe : Hid (∀ W, Below wr.heap.size wr W → Calls Tryz.prog 12 #[.pointer (some ⟨p, 0, none⟩)] W fun e w' => e = .returned (.int .i64 (n : Int)) ∧ Below W.heap.size W w') := fun W hb => by have := lenCon_any (HT.out W hb).tab; rw [← HLn.out] at this; exact this.mono fun e w' ⟨he, hw⟩ => ⟨he, by rw [hw]; exact Below.refl _ _⟩
      have HTe : Hid (∀ W, Below wr.heap.size wr W → Calls Tryz.prog 5 #[.agg #[.int .i64 1, .int .i64 (-9223372036854775808), .string ⟨#[]⟩]] W fun e w' => e = .returned (.string minB) ∧ Below W.heap.size W w') := fun W hb => by rw [← min_text]; exact symText_any minC W min_ok ((HL.out.kept (HF.out.bel.trans (hb.mono HF.out.bel.size))).tab)
      rw [← HLn.out] at HSo
      clear hT HF
      go_wp2_with fail
      refine HSo.out.mono ?_
      rintro e W2 ⟨gs, rfl, hown, hb2⟩
      obtain ⟨hr2, hg2⟩ := own_row hown
      have HRs := hide hr2
      have HB2 := hide hb2
      clear hown hr2 hb2 hg2 HSo
      go_wp2_with fail
      refine (HRk.out _ HB2.out).mono ?_
      rintro e W3 ⟨gr, rfl, hr3, hg3, hb3⟩
      have HB3 := hide (HB2.out.trans (hb3.mono HB2.out.size))
      have HGr : Hid (∀ V, Below W3.heap.size W3 V → ∀ x, x < n → V.cell? ⟨gr, x, none⟩ = some (.int .i64 ((sortL ks).idxOf x : Nat))) := fun V hb x hx => kept_cell hb (hr3.cell hx)
      have HGs : Hid (∀ V, Below W3.heap.size W3 V → ∀ x, x < n → V.cell? ⟨gs, x, none⟩ = some (.int .i64 ((sortL ks).getD x 0 : Nat))) := fun V hb x hx => kept_cell hb (kept_cell hb3 (HRs.out.cell hx))
      clear hr3 hb3 hg3 HRs HB2 HRk
      go_wp2_with fail
      refine (ordered_any HNd.out HOk.out HLn.out hn64 HGs.out HGr.out (HT.out _ HB3.out).seen).mono ?_
      rintro e W4 ⟨rfl, hb⟩
      have HB4 := hide (HB3.out.trans (hb.mono HB3.out.size))
      clear hb HB3 HGs HGr
      go_wp2_with fail
      refine (HLe.out _ HB4.out).mono ?_
      rintro e W5 ⟨rfl, hb⟩
      have HB5 := hide (HB4.out.trans (hb.mono HB4.out.size))
      clear hb HB4
      go_wp2_with fail
      refine (HTe.out _ HB5.out).mono ?_
      rintro e W6 ⟨rfl, hb⟩
      have HB6 := hide (HB5.out.trans (hb.mono HB5.out.size))
      clear hb HB5
      unfold minB
      go_wp2
      go_ret
      exact ⟨rfl, (HT.out _ HB6.out).bel⟩
end Go.Proofs.YtoppnjpajeipdaaGreatDoor
