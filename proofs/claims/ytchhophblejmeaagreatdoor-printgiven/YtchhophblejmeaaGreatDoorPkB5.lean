/- A strings.Builder that holds some bytes: its methods. A builder that all other blocks outlive; the parts that print is made of; what stands between them. print's join: parts one behind the other, something between each two. print's parts of constants. print's parts of terms. A block more: what was stands. strconv.FormatInt to the base ten, wherever the table that it reads lies. sym.Text: a constant's text. print's words, constants and terms; an atom's and a fact's text. Why a program is not well formed, said over plain data. -/
import Derived.Test.YtchhophblejmeaaGreatDoorByteRow
import Derived.Test.YtchhophblejmeaaGreatDoorBldLay
import Derived.Shelf.Strings.Builder1
import Derived.Test.YtchhophblejmeaaGreatDoorOver
import Derived.Shelf.Strings.BuilderK
import Derived.Test.YtchhophblejmeaaGreatDoorProg
import Derived.Test.YtchhophblejmeaaGreatDoorPkB4
import Derived.Deep.AppendLies
import Derived.Test.YtchhophblejmeaaGreatDoorOpen
import Derived.Test.YtchhophblejmeaaGreatDoorFmtLay
import Derived.Lib.SmallJoins
import Derived.Test.YtchhophblejmeaaGreatDoorPkB1
import Derived.Lib.ItoaNum
import Derived.Lib.ItoaLen
import Derived.Test.YtchhophblejmeaaGreatDoorPkB3

namespace Go.Proofs.YtchhophblejmeaaGreatDoor
set_option linter.unusedSimpArgs false
set_option linter.unusedVariables false
open Go.RowKit

theorem arB_size (l : List UInt8) : (⟨l.toArray⟩ : ByteArray).size = l.length := by show l.toArray.size = _; simp
theorem bx166 : Builder.Extra Tryz.prog Tryz.lays166_ren where
  sizeBuilder := by kernel_rfl
  liesBuilder := by kernel_rfl
  t5 := Tryz.underlying5
  a5 := Tryz.isAgg5
  z5 := Tryz.sizeOf5
  v5 := Tryz.zeroValue5
  infoByte := by kernel_rfl
  cellsByte := by kernel_rfl
  sizeByte := by kernel_rfl
  neB5 := by decide
theorem bx169 : Builder.Extra Tryz.prog Tryz.lays169_ren where
  sizeBuilder := by kernel_rfl
  liesBuilder := by kernel_rfl
  t5 := Tryz.underlying5
  a5 := Tryz.isAgg5
  z5 := Tryz.sizeOf5
  v5 := Tryz.zeroValue5
  infoByte := by kernel_rfl
  cellsByte := by kernel_rfl
  sizeByte := by kernel_rfl
  neB5 := by decide

/-- A builder in block B that holds the bytes l. -/
def BIs (B : Nat) (l : List UInt8) (w : World) : Prop := Lib.IsBuilder 103 5 B B (Lib.byteCells l) w
theorem BIs.lt {B : Nat} {l : List UInt8} {w : World} (h : BIs B l w) : B < w.heap.size := by
  rcases h with h | h
  · exact h.lt
  · exact h.lt
theorem BIs.kept {B : Nat} {l : List UInt8} {w w' : World} (h : BIs B l w) (hb : Below w.heap.size w w') : BIs B l w' := by
  have hlt := h.lt
  rcases h with ⟨h1, v, h2, h3, h4⟩ | ⟨h1, v, h2, h3, h4⟩
  · exact .inl ⟨h1, v, by rw [hb.block _ hlt]; exact h2, own_kept h3 hb, h4⟩
  · exact .inr ⟨h1, v, by rw [hb.block _ hlt]; exact h2, own_kept h3 hb, h4⟩
theorem byteCells_add (l m : List UInt8) : Lib.byteCells l ++ Lib.byteCells m = Lib.byteCells (l ++ m) := by simp [Lib.byteCells]
theorem strCells_arr (l : List UInt8) : Lib.strCells ⟨l.toArray⟩ = Lib.byteCells l := by simp [Lib.strCells, Lib.byteCells]

theorem ws_any {B : Nat} {l : List UInt8} {w : World} {s : ByteArray} (m : List UInt8) (hs : s = ⟨m.toArray⟩) (h : BIs B l w) (hn : l.length + m.length ≤ 140737488355328) :
    Calls Tryz.prog 156 #[.pointer (some ⟨B, 0, none⟩), .string s] w fun e w' => (∃ v, e = .returned v) ∧ BIs B (l ++ m) w' ∧ Below B w w' := by
  have hm : s.size = m.length := by rw [hs]; exact arB_size m
  refine (Any.Builder_WriteString Tryz.lays166 bx166 B B (Lib.byteCells l) s w h (by rw [Lib.byteCells_length]; omega) (Nat.le_of_lt h.lt)).mono ?_
  rintro e w' ⟨rfl, h2, hb⟩
  rw [hs, strCells_arr, byteCells_add] at h2
  exact ⟨⟨_, rfl⟩, .inr h2, hb⟩
theorem str_any {B : Nat} {l : List UInt8} {w : World} (h : BIs B l w) :
    Calls Tryz.prog 45 #[.pointer (some ⟨B, 0, none⟩)] w fun e w' => e = .returned (.string ⟨l.toArray⟩) ∧ Below B w w' :=
  Any.Builder_String_any Tryz.lays169 bx169 B B l w h (Nat.le_of_lt h.lt)
end Go.Proofs.YtchhophblejmeaaGreatDoor

namespace Go.Proofs.YtchhophblejmeaaGreatDoor
set_option linter.unusedSimpArgs false
set_option linter.unusedVariables false
open Go.RowKit

/-- A builder in block B that holds the bytes l, whatever of it was read already. -/
def BFs (B : Nat) (l : List UInt8) (w : World) : Prop := Lib.IsBuilderF 103 5 B B (Lib.byteCells l) w
/-- All but the builder and rows of bytes stands as it stood; below the builder all. -/
def Kp (B : Nat) (w w' : World) : Prop := Below B w w' ∧ Lib.OthersKept 5 (some B) w w'
theorem BFs.lt {B : Nat} {l : List UInt8} {w : World} (h : BFs B l w) : B < w.heap.size := by
  rcases h with h | h
  · exact h.lt
  · exact h.lt
theorem ownF_kept {w w' : World} {B size n : Nat} {e : TypeId} {v : Value} {xs : List Value} (h : w.ownsRowF B e size v n xs) (hb : Below w.heap.size w w') : w'.ownsRowF B e size v n xs := by
  refine ⟨h.1, ?_⟩
  rcases h.2 with h0 | ⟨g, cap, cur, fz, hv, hbase, hblk, rest⟩
  · exact .inl h0
  · exact .inr ⟨g, cap, cur, fz, hv, hbase, by rw [hb.block g (Array.getElem?_eq_some_iff.1 hblk).1]; exact hblk, rest⟩
theorem BFs.kept {B : Nat} {l : List UInt8} {w w' : World} (h : BFs B l w) (hb : Below w.heap.size w w') : BFs B l w' := by
  have hlt := h.lt
  rcases h with ⟨h1, v, h2, h3, h4⟩ | ⟨h1, v, h2, h3, h4⟩
  · exact .inl ⟨h1, v, by rw [hb.block _ hlt]; exact h2, ownF_kept h3 hb, h4⟩
  · exact .inr ⟨h1, v, by rw [hb.block _ hlt]; exact h2, ownF_kept h3 hb, h4⟩
theorem Kp.refl (B : Nat) (w : World) : Kp B w w := ⟨Below.refl _ _, Lib.OthersKept.refl _ _ _⟩
theorem Kp.trans {B : Nat} {a b c : World} (h : Kp B a b) (k : Kp B b c) : Kp B a c := ⟨h.1.trans k.1, h.2.trans k.2⟩
theorem Kp.of {B : Nat} {w w' : World} (h : Below w.heap.size w w') (hB : B ≤ w.heap.size) : Kp B w w' :=
  ⟨h.mono hB, fun k o hk _ _ => by rw [h.block k (Array.getElem?_eq_some_iff.1 hk).1]; exact hk⟩
theorem Kp.block {B k : Nat} {w w' : World} {o : Obj} (h : Kp B w w') (hk : w.heap[k]? = some o) (hb : k ≠ B) (ho : ∀ c fz, o ≠ .cells c 5 fz) : w'.heap[k]? = some o :=
  h.2 k o hk (fun e => hb (Option.some.inj e)) ho

theorem wsk_any {B : Nat} {l : List UInt8} {w : World} {s : ByteArray} (m : List UInt8) (hs : s = ⟨m.toArray⟩) (h : BFs B l w) (hn : l.length + m.length ≤ 140737488355328) :
    Calls Tryz.prog 156 #[.pointer (some ⟨B, 0, none⟩), .string s] w fun e w' => (∃ v, e = .returned v) ∧ BFs B (l ++ m) w' ∧ Kp B w w' := by
  have hm : s.size = m.length := by rw [hs]; exact arB_size m
  refine (Any.Builder_WriteString_k Tryz.lays166 bx166 B B (Lib.byteCells l) s w h (by rw [Lib.byteCells_length]; omega) (Nat.le_of_lt h.lt)).mono ?_
  rintro e w' ⟨rfl, h2, hb, hk⟩
  rw [hs, strCells_arr, byteCells_add] at h2
  exact ⟨⟨_, rfl⟩, .inr h2, hb, hk⟩
theorem strk_any {B : Nat} {l : List UInt8} {w : World} (h : BFs B l w) :
    Calls Tryz.prog 45 #[.pointer (some ⟨B, 0, none⟩)] w fun e w' => e = .returned (.string ⟨l.toArray⟩) ∧ Below B w w' := by
  refine (Any.Builder_String_any_k Tryz.lays169 bx169 B B l w h (Nat.le_of_lt h.lt)).mono ?_
  rintro e w' ⟨rfl, h2, hb, hk⟩
  exact ⟨rfl, hb⟩
theorem fresh_BFs (w : World) : BFs w.heap.size [] (w.alloc (.cells #[.pointer none, .slice none 0 0] 103)) := Lib.IsBuilderF.of (Lib.fresh_isBuilder _ _ w)

/-- A part that writes the bytes m, wherever memory has grown from w0 on. -/
def Wr (w0 : World) (pv : Value) (m : List UInt8) : Prop :=
  ∃ T v f, pv = .iface T v ∧ (∀ d W, (method (d + 1) T v "edict/print.write").run Tryz.prog W = .ok (f, v) W) ∧ (∀ args W, (callFunc f args).run Tryz.prog W = .ok (.enter f args) W) ∧
    ∀ (W : World) (B : Nat) (l : List UInt8), Below w0.heap.size w0 W → w0.heap.size ≤ B → BFs B l W → l.length + m.length ≤ 100000000000000 →
      Calls Tryz.prog f #[v, .pointer (some ⟨B, 0, none⟩)] W fun e w' => e = .returned (.tuple #[]) ∧ BFs B (l ++ m) w' ∧ Kp B W w'

/-- Pieces, each with b ahead. -/
def jnT (b : List UInt8) : List (List UInt8) → List UInt8
  | [] => []
  | m :: r => b ++ (m ++ jnT b r)
/-- Pieces with b between each two. -/
def jn (b : List UInt8) : List (List UInt8) → List UInt8
  | [] => []
  | m :: r => m ++ jnT b r
theorem jnT_cons (b m : List UInt8) (r : List (List UInt8)) : jnT b (m :: r) = b ++ (m ++ jnT b r) := rfl
theorem jn_cons (b m : List UInt8) (r : List (List UInt8)) : jn b (m :: r) = m ++ jnT b r := rfl
theorem jnT_app (b : List UInt8) : ∀ x y, jnT b (x ++ y) = jnT b x ++ jnT b y
  | [], y => rfl
  | m :: r, y => by rw [List.cons_append, jnT_cons, jnT_cons, jnT_app b r y]; simp only [List.append_assoc]
theorem jn_snoc (b : List UInt8) (x : List (List UInt8)) (m : List UInt8) : jn b (x ++ [m]) = jn b x ++ ((if x.length = 0 then [] else b) ++ m) := by
  cases x with
  | nil => simp [jn, jnT]
  | cons a r =>
    rw [List.cons_append, jn_cons, jn_cons, jnT_app, if_neg (by simp)]
    simp [jnT]
theorem jn_le (b : List UInt8) (x y : List (List UInt8)) : (jn b x).length ≤ (jn b (x ++ y)).length := by
  cases x with
  | nil => simp [jn]
  | cons a r =>
    rw [List.cons_append, jn_cons, jn_cons, jnT_app]
    simp only [List.length_append]
    omega
theorem jn_take (b : List UInt8) (ms : List (List UInt8)) {k : Nat} {m : List UInt8} (h : ms[k]? = some m) : jn b (ms.take (k + 1)) = jn b (ms.take k) ++ ((if k = 0 then [] else b) ++ m) ∧ (jn b (ms.take (k + 1))).length ≤ (jn b ms).length := by
  have hk : k < ms.length := (List.getElem?_eq_some_iff.1 h).1
  constructor
  · rw [List.take_add_one, h, Option.toList_some, jn_snoc, List.length_take, show min k ms.length = k from by omega]
  · have := jn_le b (ms.take (k + 1)) (ms.drop (k + 1))
    rwa [List.take_append_drop] at this
end Go.Proofs.YtchhophblejmeaaGreatDoor

namespace Go.Proofs.YtchhophblejmeaaGreatDoor
set_option linter.unusedSimpArgs false
set_option linter.unusedVariables false
open Go.RowKit

set_option maxHeartbeats 4000000 in
set_option maxRecDepth 100000 in
theorem join_any {w0 W : World} {B : Nat} {l bl : List UInt8} {btw : ByteArray} (hbt : btw = ⟨bl.toArray⟩) {ps : List (Value × List UInt8)} {po : Option Addr} {pc : Nat} (hps : ∀ x ∈ ps, Wr w0 x.1 x.2)
    (hrow : 0 < ps.length → ∃ g, po = some ⟨g, 0, none⟩ ∧ ∀ V, Kp B W V → ∀ i x, ps[i]? = some x → V.cell? ⟨g, i, none⟩ = some x.1) (hW : Below w0.heap.size w0 W) (hB : w0.heap.size ≤ B) (h : BFs B l W)
    (hl : l.length + (jn bl (ps.map (·.2))).length ≤ 100000000000000) (hn : ps.length < 1073741824) :
    Calls Tryz.prog 155 #[.pointer (some ⟨B, 0, none⟩), .string btw, .slice po ps.length pc] W fun e w' => e = .returned (.tuple #[]) ∧ BFs B (l ++ jn bl (ps.map (·.2))) w' ∧ Kp B W w' := by
  have HPs := hide hps
  have HRow := hide hrow
  have HW := hide hW
  have HH := hide h
  obtain ⟨ms, hms⟩ : ∃ ms, ms = ps.map (·.2) := ⟨_, rfl⟩
  have HMs := hide hms
  obtain ⟨n, hnn⟩ : ∃ n, n = ps.length := ⟨_, rfl⟩
  have HN := hide hnn
  rw [← hms] at hl ⊢
  rw [← hnn] at hn ⊢
  have HBt := hide hbt
  clear hps hrow hW h hms hnn hbt
  go_enter Tryz.func155, Tryz.ntmps155
  go_wp2
  go_loopw [10] (fun t V => ∃ k : Nat, k ≤ n ∧ t = .int .i64 k ∧ Hid (BFs B (l ++ jn bl (ms.take k)) V) ∧ Hid (Kp B W V)) (fun t _ => n - (intOf t).toNat)
  case atStart => exact ⟨0, Nat.zero_le _, rfl, (by show BFs _ _ _; rw [List.take_zero]; show BFs B (l ++ []) W; rw [List.append_nil]; exact HH.out), Kp.refl _ _⟩
  case round =>
    obtain ⟨k, hk, rfl, HI, HK⟩ := hrel
    by_cases hlt : k < n
    · have hi : (k : Int) < (n : Int) := by omega
      obtain ⟨g, rfl, hcells⟩ := HRow.out (by have := HN.out; omega)
      obtain ⟨⟨pv, m⟩, hx⟩ : ∃ x, ps[k]? = some x := ⟨_, List.getElem?_eq_getElem (by have := HN.out; omega)⟩
      have hc := hcells wr HK.out k _ hx
      obtain ⟨T, v, f, hpv, hm, heg, hcall⟩ := HPs.out _ (List.mem_of_getElem? hx)
      dsimp only at hpv hcall hc
      subst hpv
      have hmk : ms[k]? = some m := by rw [HMs.out, List.getElem?_map, hx]; rfl
      obtain ⟨hj, hjl⟩ := jn_take bl ms hmk
      have HC := hide hcall
      have HJ := hide hj
      rw [hj] at hjl
      clear hcells hx hcall hmk hj
      by_cases h0 : k = 0
      · subst h0
        rw [if_pos rfl] at HJ hjl
        rw [List.length_append, List.length_append] at hjl
        simp only [List.nil_append] at HJ
        have HCa := hide (HC.out wr B _ (HW.out.trans (HK.out.1.mono hB)) hB HI.out (by rw [List.length_append]; omega))
        clear hjl HC
        go_wp2_with fail
        refine HCa.out.mono ?_
        rintro e w2 ⟨rfl, h2, k2⟩
        have H2 : Hid (BFs B (l ++ jn bl (ms.take (0 + 1))) w2) := by show BFs _ _ _; rw [HJ.out, ← List.append_assoc]; exact h2
        have K2 := hide (HK.out.trans k2)
        clear h2 k2 hc HCa
        go_wp2
        go_roundw
        case rel => exact ⟨1, by omega, by go_num, H2.out, K2.out⟩
        case measure => simp [intOf]; omega
      · have hpos : (0 : Int) < (k : Int) := by omega
        rw [if_neg h0] at HJ hjl
        simp only [List.length_append] at hjl
        have HWs := hide (wsk_any bl HBt.out HI.out (by rw [List.length_append]; omega))
        go_wp2_with fail
        refine HWs.out.mono ?_
        rintro e w2 ⟨⟨r, rfl⟩, h2, k2⟩
        have K2 := hide (HK.out.trans k2)
        have HCa := hide (HC.out w2 B _ (HW.out.trans (K2.out.1.mono hB)) hB h2 (by simp only [List.length_append]; omega))
        clear h2 k2 hc HC HWs hjl
        go_wp2_with fail
        refine HCa.out.mono ?_
        rintro e w3 ⟨rfl, h3, k3⟩
        have H3 : Hid (BFs B (l ++ jn bl (ms.take (k + 1))) w3) := by show BFs _ _ _; rw [HJ.out]; simp only [← List.append_assoc]; exact h3
        have K3 := hide (K2.out.trans k3)
        clear h3 k3 HCa
        go_wp2
        go_roundw
        case rel => exact ⟨k + 1, by omega, by go_num, H3.out, K3.out⟩
        case measure => simp [intOf]; omega
    · obtain rfl : k = n := by omega
      have hi : ¬ (k : Int) < (k : Int) := by omega
      have HF : Hid (BFs B (l ++ jn bl ms) wr) := by
        have := HI.out
        rw [List.take_of_length_le (by rw [HMs.out, List.length_map, ← HN.out]; exact Nat.le_refl _)] at this
        exact this
      go_wp2
      go_end0
      exact ⟨rfl, HF.out, HK.out⟩
end Go.Proofs.YtchhophblejmeaaGreatDoor

namespace Go.Proofs.YtchhophblejmeaaGreatDoor
set_option linter.unusedSimpArgs false
set_option linter.unusedVariables false
open Go.RowKit

theorem Tryz.infoPartCon : (Tryz.prog.info? 99).map (fun i => (i.zero, i.size, i.bytes)) = some (some .nilIface, 1, 16) := by kernel_rfl
/-- A thing as a part. -/
def pvCon (x : Con) : Value := .iface 221 (.agg #[.int .i64 x.k, .int .i64 x.n, .string x.s])

set_option maxRecDepth 100000 in
set_option maxHeartbeats 2000000 in
theorem partCon (x : Con) (w : World) : Calls Tryz.prog 162 #[.agg #[.int .i64 x.k, .int .i64 x.n, .string x.s]] w fun e w' => e = .returned (pvCon x) ∧ Below w.heap.size w w' := by
  unfold pvCon
  go_enter Tryz.func162, Tryz.ntmps162
  go_wp2
  go_ret
  exact ⟨rfl, (Below.refl _ _).alloc (Nat.le_refl _) _⟩

theorem news_partCon (wr : World) (u : Value) : ∀ j x, ([u] : List Value)[j]? = some x → (wr.alloc (.cells #[u] 99)).cell? ((⟨wr.heap.size, 0, none⟩ : Addr).add j) = some x :=
  World.news_of_block (cs := #[u]) (t := 99) (fr := (0, 0)) (heap_alloc_new wr _)

set_option maxRecDepth 100000 in
set_option maxHeartbeats 8000000 in
theorem partsCon {w : World} {v : Value} {cs : List Con} (h : Has elCon w v cs) :
    Calls Tryz.prog 161 #[v, .func (.func 162) #[] #[]] w fun e w' => ∃ v', e = .returned v' ∧ w'.ownsRow w.heap.size 99 1 v' cs.length (cs.map pvCon) ∧ Below w.heap.size w w' := by
  obtain ⟨i0, hi0, hz0, hz1, hz2⟩ := info_parts Tryz.infoPartCon
  obtain ⟨ao, cap, rfl, hcap, hnone, hlen⟩ := h.shape
  have HP := hide h
  clear h hnone hcap
  obtain ⟨n, hn⟩ : ∃ n, n = cs.length := ⟨_, rfl⟩
  rw [← hn] at hlen ⊢
  have HN := hide hn
  clear hn
  go_enter Tryz.func161, Tryz.ntmps161
  go_wp2_with (at_make; refine wpList_make_own _ rfl _ _ 213 rfl w.heap.size 99 i0 .nilIface 1 Tryz.underlying213 hi0 hz0 hz1 _ _ _ n rfl rfl (by go_num) (by rw [hz2]; omega) (by unfold maxLen; omega) (Nat.le_refl _) ?_; intro w1 hown hgrow; have hb1 : Below w.heap.size w w1 := (Below.refl _ _).grown hgrow (Nat.le_refl _) (by simp); have HO := hide hown; have HB := hide hb1; clear hown hgrow hb1)
  go_loopw [5, 13] (fun pv i wr => ∃ k : Nat, k ≤ n ∧ i = .int .i64 k ∧ Hid (wr.ownsRow w.heap.size 99 1 pv k ((cs.take k).map pvCon)) ∧ Hid (Below w.heap.size w wr)) (fun _ i _ => n - (intOf i).toNat)
  case atStart => exact ⟨0, Nat.zero_le _, rfl, HO.out, HB.out⟩
  case round =>
    clear HO HB
    obtain ⟨k, hk, rfl, HO, HB⟩ := hrel
    obtain ⟨bo, bc, rfl⟩ := own_shape HO.out
    by_cases hlt : k < n
    · have hi : (k : Int) < (n : Int) := by omega
      have hi0' : (0 : Int) ≤ (k : Int) := by omega
      obtain ⟨x, hx⟩ : ∃ x, cs[k]? = some x := ⟨_, List.getElem?_eq_getElem (by have := HN.out; omega)⟩
      obtain ⟨pb, off, rfl, hpb, -, hrow⟩ := (HP.out).row (by have := HN.out; omega)
      have c0 := kept_cell HB.out (hrow k x hx 0 _ rfl)
      have c1 := kept_cell HB.out (hrow k x hx 1 _ rfl)
      have c2 := kept_cell HB.out (hrow k x hx 2 _ rfl)
      simp only [elCon, Nat.add_zero] at c0 c1 c2
      have HPt := hide (fun W => partCon x W)
      unfold pvCon at HPt
      have HTk : Hid ((cs.take (k + 1)).map pvCon = (cs.take k).map pvCon ++ [pvCon x]) := by show _ = _; rw [List.take_add_one, hx, List.map_append]; rfl
      have hbn := HB.out.size
      clear hrow hx HP
      go_wp2_with (first
        | (go_at_call 162; refine (HPt.out _).mono ?_; rintro e w2 ⟨rfl, hb2⟩; have HO2 : Hid (w2.ownsRow w.heap.size 99 1 (.slice bo k bc) k ((cs.take k).map pvCon)) := own_kept (World.ownsRow.alloc HO.out _) hb2; have HB2 : Hid (Below w.heap.size w w2) := (HB.out.alloc HB.out.size _).trans (hb2.mono (by simp; omega)); clear hb2 HPt; have hb3 := HB2.out.size)
        | (at_builtin; refine wpList_append_lies _ rfl _ _ 213 rfl w.heap.size 99 i0 .nilIface 1 16 Tryz.underlying213 hi0 hz0 hz1 hz2 rfl (by decide) (.slice bo k bc) k ((cs.take k).map pvCon) rfl (World.ownsRow.alloc HO2.out _) ⟨w2.heap.size, 0, none⟩ 1 1 [pvCon x] rfl rfl (news_partCon w2 (pvCon x)) (by simp [Value.oneCell', pvCon]) (by decide) (by unfold maxLen; omega) (by omega) (by simp; omega) (w2.heap.size + 1) (by simp) ?_; intro gg cap' w3 hown1 hgrow hat hlt1))
      have HB3 := hide (grown_below HB2.out HB2.out.size HO2.out hgrow)
      have HO3 : Hid (w3.ownsRow w.heap.size 99 1 (.slice (some ⟨gg, 0, none⟩) (k + 1) cap') (k + 1) ((cs.take (k + 1)).map pvCon)) := by show World.ownsRow _ _ _ _ _ _ _; rw [HTk.out]; exact hown1
      clear hown1 hgrow hat hlt1 HO2
      go_wp2
      go_roundw
      case rel => exact ⟨k + 1, by omega, by go_num, HO3.out, HB3.out⟩
      case measure => simp [intOf]; omega
    · obtain rfl : k = n := by omega
      have hi : ¬ (k : Int) < (k : Int) := by omega
      have hF := HO.out
      rw [List.take_of_length_le (by rw [HN.out]; exact Nat.le_refl _)] at hF
      have HF := hide hF
      clear hF
      go_wp2
      go_ret
      exact ⟨_, rfl, HF.out, HB.out⟩
end Go.Proofs.YtchhophblejmeaaGreatDoor

namespace Go.Proofs.YtchhophblejmeaaGreatDoor
set_option linter.unusedSimpArgs false
set_option linter.unusedVariables false
open Go.RowKit

theorem Tryz.infoPartTrm : (Tryz.prog.info? 99).map (fun i => (i.zero, i.size, i.bytes)) = some (some .nilIface, 1, 16) := by kernel_rfl
/-- A thing as a part. -/
def pvTrm (x : Trm) : Value := .iface 232 (.agg #[.int .i64 x.k, .int .i64 x.n, .string x.s, .int .i64 x.off])

set_option maxRecDepth 100000 in
set_option maxHeartbeats 2000000 in
theorem partTrm (x : Trm) (w : World) : Calls Tryz.prog 182 #[.agg #[.int .i64 x.k, .int .i64 x.n, .string x.s, .int .i64 x.off]] w fun e w' => e = .returned (pvTrm x) ∧ Below w.heap.size w w' := by
  unfold pvTrm
  go_enter Tryz.func182, Tryz.ntmps182
  go_wp2
  go_ret
  exact ⟨rfl, (Below.refl _ _).alloc (Nat.le_refl _) _⟩

theorem news_partTrm (wr : World) (u : Value) : ∀ j x, ([u] : List Value)[j]? = some x → (wr.alloc (.cells #[u] 99)).cell? ((⟨wr.heap.size, 0, none⟩ : Addr).add j) = some x :=
  World.news_of_block (cs := #[u]) (t := 99) (fr := (0, 0)) (heap_alloc_new wr _)

set_option maxRecDepth 100000 in
set_option maxHeartbeats 8000000 in
theorem partsTrm {w : World} {v : Value} {cs : List Trm} (h : Has elTrm w v cs) :
    Calls Tryz.prog 181 #[v, .func (.func 182) #[] #[]] w fun e w' => ∃ v', e = .returned v' ∧ w'.ownsRow w.heap.size 99 1 v' cs.length (cs.map pvTrm) ∧ Below w.heap.size w w' := by
  obtain ⟨i0, hi0, hz0, hz1, hz2⟩ := info_parts Tryz.infoPartTrm
  obtain ⟨ao, cap, rfl, hcap, hnone, hlen⟩ := h.shape
  have HP := hide h
  clear h hnone hcap
  obtain ⟨n, hn⟩ : ∃ n, n = cs.length := ⟨_, rfl⟩
  rw [← hn] at hlen ⊢
  have HN := hide hn
  clear hn
  go_enter Tryz.func181, Tryz.ntmps181
  go_wp2_with (at_make; refine wpList_make_own _ rfl _ _ 213 rfl w.heap.size 99 i0 .nilIface 1 Tryz.underlying213 hi0 hz0 hz1 _ _ _ n rfl rfl (by go_num) (by rw [hz2]; omega) (by unfold maxLen; omega) (Nat.le_refl _) ?_; intro w1 hown hgrow; have hb1 : Below w.heap.size w w1 := (Below.refl _ _).grown hgrow (Nat.le_refl _) (by simp); have HO := hide hown; have HB := hide hb1; clear hown hgrow hb1)
  go_loopw [5, 13] (fun pv i wr => ∃ k : Nat, k ≤ n ∧ i = .int .i64 k ∧ Hid (wr.ownsRow w.heap.size 99 1 pv k ((cs.take k).map pvTrm)) ∧ Hid (Below w.heap.size w wr)) (fun _ i _ => n - (intOf i).toNat)
  case atStart => exact ⟨0, Nat.zero_le _, rfl, HO.out, HB.out⟩
  case round =>
    clear HO HB
    obtain ⟨k, hk, rfl, HO, HB⟩ := hrel
    obtain ⟨bo, bc, rfl⟩ := own_shape HO.out
    by_cases hlt : k < n
    · have hi : (k : Int) < (n : Int) := by omega
      have hi0' : (0 : Int) ≤ (k : Int) := by omega
      obtain ⟨x, hx⟩ : ∃ x, cs[k]? = some x := ⟨_, List.getElem?_eq_getElem (by have := HN.out; omega)⟩
      obtain ⟨pb, off, rfl, hpb, -, hrow⟩ := (HP.out).row (by have := HN.out; omega)
      have c0 := kept_cell HB.out (hrow k x hx 0 _ rfl)
      have c1 := kept_cell HB.out (hrow k x hx 1 _ rfl)
      have c2 := kept_cell HB.out (hrow k x hx 2 _ rfl)
      have c3 := kept_cell HB.out (hrow k x hx 3 _ rfl)
      simp only [elTrm, Nat.add_zero] at c0 c1 c2 c3
      have HPt := hide (fun W => partTrm x W)
      unfold pvTrm at HPt
      have HTk : Hid ((cs.take (k + 1)).map pvTrm = (cs.take k).map pvTrm ++ [pvTrm x]) := by show _ = _; rw [List.take_add_one, hx, List.map_append]; rfl
      have hbn := HB.out.size
      clear hrow hx HP
      go_wp2_with (first
        | (go_at_call 182; refine (HPt.out _).mono ?_; rintro e w2 ⟨rfl, hb2⟩; have HO2 : Hid (w2.ownsRow w.heap.size 99 1 (.slice bo k bc) k ((cs.take k).map pvTrm)) := own_kept (World.ownsRow.alloc HO.out _) hb2; have HB2 : Hid (Below w.heap.size w w2) := (HB.out.alloc HB.out.size _).trans (hb2.mono (by simp; omega)); clear hb2 HPt; have hb3 := HB2.out.size)
        | (at_builtin; refine wpList_append_lies _ rfl _ _ 213 rfl w.heap.size 99 i0 .nilIface 1 16 Tryz.underlying213 hi0 hz0 hz1 hz2 rfl (by decide) (.slice bo k bc) k ((cs.take k).map pvTrm) rfl (World.ownsRow.alloc HO2.out _) ⟨w2.heap.size, 0, none⟩ 1 1 [pvTrm x] rfl rfl (news_partTrm w2 (pvTrm x)) (by simp [Value.oneCell', pvTrm]) (by decide) (by unfold maxLen; omega) (by omega) (by simp; omega) (w2.heap.size + 1) (by simp) ?_; intro gg cap' w3 hown1 hgrow hat hlt1))
      have HB3 := hide (grown_below HB2.out HB2.out.size HO2.out hgrow)
      have HO3 : Hid (w3.ownsRow w.heap.size 99 1 (.slice (some ⟨gg, 0, none⟩) (k + 1) cap') (k + 1) ((cs.take (k + 1)).map pvTrm)) := by show World.ownsRow _ _ _ _ _ _ _; rw [HTk.out]; exact hown1
      clear hown1 hgrow hat hlt1 HO2
      go_wp2
      go_roundw
      case rel => exact ⟨k + 1, by omega, by go_num, HO3.out, HB3.out⟩
      case measure => simp [intOf]; omega
    · obtain rfl : k = n := by omega
      have hi : ¬ (k : Int) < (k : Int) := by omega
      have hF := HO.out
      rw [List.take_of_length_le (by rw [HN.out]; exact Nat.le_refl _)] at hF
      have HF := hide hF
      clear hF
      go_wp2
      go_ret
      exact ⟨_, rfl, HF.out, HB.out⟩
end Go.Proofs.YtchhophblejmeaaGreatDoor

namespace Go.Proofs.YtchhophblejmeaaGreatDoor
set_option linter.unusedSimpArgs false
set_option linter.unusedVariables false
open Go.RowKit

theorem below1 (w : World) (x : Obj) : Below w.heap.size w (w.alloc x) := (Below.refl _ _).alloc (Nat.le_refl _) _
end Go.Proofs.YtchhophblejmeaaGreatDoor

namespace Go.Proofs.YtchhophblejmeaaGreatDoor
set_option linter.unusedSimpArgs false
set_option linter.unusedVariables false
open Go.RowKit

theorem below_growN (w : World) (k : Nat) (os : Array Obj) : Below w.heap.size w (Sort.grow (w.drewN k) os) :=
  ⟨rfl, rfl, rfl, by show w.heap.size ≤ (w.heap ++ os).size; simp, fun j hj => by show (w.heap ++ os)[j]? = w.heap[j]?; exact Array.getElem?_append_left hj⟩

/-- The table that strconv counts digits by. -/
def TabLaid (w : World) : Prop := Lib.TabIs Tryz.prog w "internal/strconv.uint64pow10" .u64 Lib.pow10Tab

theorem TabLaid.kept {w w' : World} (h : TabLaid w) (hb : Below w.heap.size w w') : TabLaid w' := by
  have hgn : Tryz.prog.globalNamed "internal/strconv.uint64pow10" = some 3 := by kernel_rfl
  unfold TabLaid Lib.TabIs World.var? at h ⊢
  rw [hgn] at h ⊢
  simp only [Option.bind_some] at h ⊢
  have hlt : 3 < w.heap.size := by
    rcases Nat.lt_or_ge 3 w.heap.size with h' | h'
    · exact h'
    · rw [Array.getElem?_eq_none h'] at h; cases h
  rw [hb.block _ hlt]; exact h

theorem format_any (n : Int) (w : World) (hn : I64 n) (ht : TabLaid w) :
    Calls Tryz.prog 173 #[.int .i64 n, .int .i64 10] w fun e w' => e = .returned (.string ⟨(Lib.itoa n).toArray⟩) ∧ Below w.heap.size w w' :=
  (Any.strconv_FormatInt_10 Tryz.lays173 n hn.1 hn.2 w ht).mono fun e w' ⟨he, k, os, hw⟩ => ⟨he, by rw [hw]; exact below_growN _ _ _⟩

end Go.Proofs.YtchhophblejmeaaGreatDoor

namespace Go.Proofs.YtchhophblejmeaaGreatDoor
set_option linter.unusedSimpArgs false
set_option linter.unusedVariables false
open Go.RowKit

def textC (c : Con) : ByteArray := if validC c then (if c.k = 1 then ⟨(Lib.itoa c.n).toArray⟩ else if c.k = 2 then c.s else strOf (quotI c.s)) else ⟨#[]⟩

theorem valid_kind {c : Con} (h : validC c = true) : c.k = 1 ∨ c.k = 2 ∨ (c.k = 3 ∧ c.s.size ≤ 255) := by
  unfold validC at h
  by_cases h1 : c.k = 1
  · exact .inl h1
  · rw [if_neg h1] at h
    by_cases h2 : c.k = 2
    · exact .inr (.inl h2)
    · rw [if_neg h2] at h
      by_cases h3 : c.k = 3
      · rw [if_pos h3] at h
        simp only [Bool.and_eq_true, decide_eq_true_eq] at h
        exact .inr (.inr ⟨h3, h.2⟩)
      · rw [if_neg h3] at h; cases h

set_option maxHeartbeats 1000000 in
theorem symText_any (c : Con) (w : World) (hc : c.ok) (ht : TabLaid w) :
    Calls Tryz.prog 172 #[c.val] w fun e w' => e = .returned (.string (textC c)) ∧ Below w.heap.size w w' := by
  obtain ⟨k, n, s⟩ := c
  have HV := hide (fun w => valid_any ⟨k, n, s⟩ w hc)
  have HF : Hid (∀ w1, Below w.heap.size w w1 → Calls Tryz.prog 173 #[.int .i64 n, .int .i64 10] w1 fun e w' => e = .returned (.string ⟨(Lib.itoa n).toArray⟩) ∧ Below w1.heap.size w1 w') := fun w1 hb => format_any n w1 hc.2.1 (ht.kept hb)
  have HX := hide (fun w' (hb : Below (w.alloc (.cells #[.int .i64 k, .int .i64 n, .string s] 68)).heap.size (w.alloc (.cells #[.int .i64 k, .int .i64 n, .string s] 68)) w') => conAt_kept (conAt_new w ⟨k, n, s⟩ 68) hb)
  clear hc ht
  unfold Con.val at *
  cases hv : validC ⟨k, n, s⟩
  · have HE : Hid (textC ⟨k, n, s⟩ = ⟨#[]⟩) := by show textC _ = _; unfold textC; rw [hv]; rfl
    rw [HE.out]
    dsimp only at HV
    rw [hv] at HV
    clear HE hv
    go_enter Tryz.func172, Tryz.ntmps172
    go_wp2_with (go_at_call 64; refine (HV.out _).mono ?_; rintro e w' ⟨rfl, hb1⟩; obtain ⟨x0, x1, x2⟩ := HX.out _ hb1)
    go_ret
    exact ⟨rfl, (below1 _ _).trans (hb1.mono (by simp))⟩
  · have hk := valid_kind hv
    dsimp only at HV hk
    rw [hv] at HV
    rcases hk with rfl | rfl | ⟨rfl, hs⟩
    · have HE : Hid (textC ⟨1, n, s⟩ = ⟨(Lib.itoa n).toArray⟩) := by show textC _ = _; unfold textC; rw [hv]; rfl
      rw [HE.out]
      clear HE hv
      go_enter Tryz.func172, Tryz.ntmps172
      go_wp2_with (first | (go_at_call 64; refine (HV.out _).mono ?_; rintro e w' ⟨rfl, hb1⟩; obtain ⟨x0, x1, x2⟩ := HX.out _ hb1) | (go_at_call 173; refine (HF.out _ ((below1 _ _).trans (hb1.mono (by simp)))).mono ?_; rintro e w' ⟨rfl, hb2⟩))
      go_ret
      exact ⟨rfl, (below1 _ _).trans ((hb1.trans (hb2.mono hb1.size)).mono (by simp))⟩
    · have HE : Hid (textC ⟨2, n, s⟩ = s) := by show textC _ = _; unfold textC; rw [hv]; rfl
      rw [HE.out]
      clear HE hv
      go_enter Tryz.func172, Tryz.ntmps172
      go_wp2_with (go_at_call 64; refine (HV.out _).mono ?_; rintro e w' ⟨rfl, hb1⟩; obtain ⟨x0, x1, x2⟩ := HX.out _ hb1)
      go_ret
      exact ⟨rfl, (below1 _ _).trans (hb1.mono (by simp))⟩
    · have HE : Hid (textC ⟨3, n, s⟩ = strOf (quotI s)) := by show textC _ = _; unfold textC; rw [hv]; rfl
      have HQ := hide (fun w1 => quoted_any s w1 hs)
      rw [HE.out]
      clear HE hv
      go_enter Tryz.func172, Tryz.ntmps172
      go_wp2_with (first | (go_at_call 64; refine (HV.out _).mono ?_; rintro e w' ⟨rfl, hb1⟩; obtain ⟨x0, x1, x2⟩ := HX.out _ hb1) | (go_at_call 174; refine (HQ.out _).mono ?_; rintro e w' ⟨rfl, hb2⟩))
      go_ret
      exact ⟨rfl, (below1 _ _).trans ((hb1.trans (hb2.mono hb1.size)).mono (by simp))⟩
end Go.Proofs.YtchhophblejmeaaGreatDoor

namespace Go.Proofs.YtchhophblejmeaaGreatDoor
set_option linter.unusedSimpArgs false
set_option linter.unusedVariables false
open Go.RowKit

def pvWord (s : ByteArray) : Value := .iface 212 (.string s)
theorem m_word (d : Nat) (v : Value) (w : World) : (method (d + 1) 212 v "edict/print.write").run Tryz.prog w = .ok (170, v) w := by kernel_rfl
theorem m_const (d : Nat) (v : Value) (w : World) : (method (d + 1) 221 v "edict/print.write").run Tryz.prog w = .ok (171, v) w := by kernel_rfl
theorem m_term (d : Nat) (v : Value) (w : World) : (method (d + 1) 232 v "edict/print.write").run Tryz.prog w = .ok (186, v) w := by kernel_rfl
theorem en_word (args : Array Value) (w : World) : (callFunc 170 args).run Tryz.prog w = .ok (.enter 170 args) w := enters_of Tryz.func170 (by kernel_rfl) rfl args w
theorem en_const (args : Array Value) (w : World) : (callFunc 171 args).run Tryz.prog w = .ok (.enter 171 args) w := enters_of Tryz.func171 (by kernel_rfl) rfl args w
theorem en_term (args : Array Value) (w : World) : (callFunc 186 args).run Tryz.prog w = .ok (.enter 186 args) w := enters_of Tryz.func186 (by kernel_rfl) rfl args w

set_option maxRecDepth 100000 in
set_option maxHeartbeats 2000000 in
theorem word_write (s : ByteArray) {B : Nat} {l : List UInt8} {W : World} (h : BFs B l W) (hl : l.length + s.data.toList.length ≤ 100000000000000) :
    Calls Tryz.prog 170 #[.string s, .pointer (some ⟨B, 0, none⟩)] W fun e w' => e = .returned (.tuple #[]) ∧ BFs B (l ++ s.data.toList) w' ∧ Kp B W w' := by
  have HS := hide (wsk_any (s := s) s.data.toList (by obtain ⟨a⟩ := s; simp) h (by omega))
  clear h hl
  go_enter Tryz.func170, Tryz.ntmps170
  go_wp2_with fail
  refine HS.out.mono ?_
  rintro e w' ⟨⟨v, rfl⟩, h1, h2⟩
  go_wp2
  go_end0
  exact ⟨rfl, h1, h2⟩
theorem wr_word (w0 : World) (s : ByteArray) : Wr w0 (pvWord s) s.data.toList :=
  ⟨_, _, _, rfl, fun d W => m_word d _ W, en_word, fun W B l _ _ h hl => word_write s h hl⟩

set_option maxRecDepth 100000 in
set_option maxHeartbeats 2000000 in
theorem const_write {w0 : World} (c : Con) (hc : c.ok) (ht : TabLaid w0) {B : Nat} {l : List UInt8} {W : World} (hW : Below w0.heap.size w0 W) (h : BFs B l W) (hl : l.length + (textC c).data.toList.length ≤ 100000000000000) :
    Calls Tryz.prog 171 #[.agg #[.int .i64 c.k, .int .i64 c.n, .string c.s], .pointer (some ⟨B, 0, none⟩)] W fun e w' => e = .returned (.tuple #[]) ∧ BFs B (l ++ (textC c).data.toList) w' ∧ Kp B W w' := by
  have HT : Hid (∀ V, Below W.heap.size W V → Calls Tryz.prog 172 #[.agg #[.int .i64 c.k, .int .i64 c.n, .string c.s]] V fun e w' => e = .returned (.string (textC c)) ∧ Below V.heap.size V w') := fun V hb => symText_any c V hc ((ht.kept hW).kept hb)
  have HS : Hid (∀ V, BFs B l V → Calls Tryz.prog 156 #[.pointer (some ⟨B, 0, none⟩), .string (textC c)] V fun e w' => (∃ v, e = .returned v) ∧ BFs B (l ++ (textC c).data.toList) w' ∧ Kp B V w') := fun V hb => wsk_any (s := textC c) (textC c).data.toList (by generalize textC c = s; obtain ⟨a⟩ := s; simp) hb (by omega)
  have HH := hide h
  have hlt := h.lt
  clear h hc ht hW hl
  generalize textC c = T at *
  have HB1 : Hid (Below W.heap.size W (W.alloc (.cells #[.int .i64 c.k, .int .i64 c.n, .string c.s] 221))) := (Below.refl _ _).alloc (Nat.le_refl _) _
  go_enter Tryz.func171, Tryz.ntmps171
  go_wp2_with fail
  refine (HT.out _ HB1.out).mono ?_
  rintro e w1 ⟨rfl, hb⟩
  have HB2 : Hid (Below W.heap.size W w1) := HB1.out.trans (hb.mono HB1.out.size)
  clear hb HB1
  go_wp2_with fail
  refine (HS.out _ (HH.out.kept HB2.out)).mono ?_
  rintro e w2 ⟨⟨v, rfl⟩, h1, h2⟩
  have H1 := hide h1
  have H2 := hide ((Kp.of HB2.out (Nat.le_of_lt hlt)).trans h2)
  clear h1 h2
  go_wp2
  go_end0
  exact ⟨rfl, H1.out, H2.out⟩
theorem wr_con {w0 : World} (c : Con) (hc : c.ok) (ht : TabLaid w0) : Wr w0 (pvCon c) (textC c).data.toList :=
  ⟨_, _, _, rfl, fun d W => m_const d _ W, en_const, fun W B l hW _ h hl => const_write c hc ht hW h hl⟩

set_option maxRecDepth 100000 in
set_option maxHeartbeats 2000000 in
theorem conOf_any (t : Trm) (W : World) : Calls Tryz.prog 100 #[.agg #[.int .i64 t.k, .int .i64 t.n, .string t.s, .int .i64 t.off]] W fun e w' => e = .returned (.agg #[.int .i64 t.k, .int .i64 t.n, .string t.s]) ∧ Below W.heap.size W w' := by
  have HB : Hid (∀ o, Below W.heap.size W (W.alloc o)) := fun o => (Below.refl _ _).alloc (Nat.le_refl _) o
  go_enter Tryz.func100, Tryz.ntmps100
  go_wp2
  exact bodyPost_ret (v := .agg #[.int .i64 t.k, .int .i64 t.n, .string t.s]) (by simp [results, Tryz.results100, go_sem]) rfl ⟨rfl, (HB.out _).alloc (by simp) _⟩
/-- A term's text. -/
def trmT (t : Trm) : List UInt8 := if t.k = 4 then t.s.data.toList else (textC t.con).data.toList

set_option maxRecDepth 100000 in
set_option maxHeartbeats 4000000 in
theorem prt_value {w0 : World} (t : Trm) (hok : t.ok) (ht : TabLaid w0) (W : World) :
    Calls Tryz.prog 185 #[.agg #[.int .i64 t.k, .int .i64 t.n, .string t.s, .int .i64 t.off]] W fun e w' => (∃ pv, e = .returned pv ∧ Wr w0 pv (trmT t)) ∧ Below W.heap.size W w' := by
  have HB : Hid (∀ o, Below W.heap.size W (W.alloc o)) := fun o => (Below.refl _ _).alloc (Nat.le_refl _) o
  by_cases h4 : t.k = 4
  · have HW : Hid (Wr w0 (pvWord t.s) (trmT t)) := by show Wr _ _ _; unfold trmT; rw [if_pos h4]; exact wr_word w0 t.s
    have e4 : (t.k == 4) = true := by simpa using h4
    clear h4 hok ht
    go_enter Tryz.func185, Tryz.ntmps185
    go_wp2
    go_ret
    exact ⟨⟨_, rfl, HW.out⟩, HB.out _⟩
  · have HW : Hid (Wr w0 (pvCon t.con) (trmT t)) := by show Wr _ _ _; unfold trmT; rw [if_neg h4]; exact wr_con t.con hok.1 ht
    have e4 : (t.k == 4) = false := by simpa using h4
    clear h4 hok ht
    have HC := hide (fun V => conOf_any t V)
    go_enter Tryz.func185, Tryz.ntmps185
    go_wp2_with (go_at_call 100; refine (HC.out _).mono ?_; rintro e w1 ⟨rfl, hb1⟩)
    go_ret
    exact ⟨⟨_, rfl, HW.out⟩, (HB.out _).trans (hb1.mono (by simp))⟩

set_option maxRecDepth 100000 in
set_option maxHeartbeats 4000000 in
theorem term_write {w0 : World} (t : Trm) (hok : t.ok) (ht : TabLaid w0) {B : Nat} {l : List UInt8} {W : World} (hW : Below w0.heap.size w0 W) (hB : w0.heap.size ≤ B) (h : BFs B l W) (hl : l.length + (trmT t).length ≤ 100000000000000) :
    Calls Tryz.prog 186 #[.agg #[.int .i64 t.k, .int .i64 t.n, .string t.s, .int .i64 t.off], .pointer (some ⟨B, 0, none⟩)] W fun e w' => e = .returned (.tuple #[]) ∧ BFs B (l ++ trmT t) w' ∧ Kp B W w' := by
  have HV := hide (fun V => prt_value t hok ht V)
  have HB1 : Hid (Below W.heap.size W (W.alloc (.cells #[.int .i64 t.k, .int .i64 t.n, .string t.s, .int .i64 t.off] 232))) := (Below.refl _ _).alloc (Nat.le_refl _) _
  have HH := hide h
  have HW0 := hide hW
  have hlt := h.lt
  clear h hok ht hW
  generalize trmT t = T at *
  go_enter Tryz.func186, Tryz.ntmps186
  go_wp2_with fail
  refine (HV.out _).mono ?_
  rintro e w1 ⟨⟨pv, rfl, T', v, f, rfl, hm, heg, hcall⟩, hb⟩
  have HB2 : Hid (Below W.heap.size W w1) := HB1.out.trans (hb.mono HB1.out.size)
  have HC := hide (hcall w1 B l (HW0.out.trans (HB2.out.mono HW0.out.size)) hB (HH.out.kept HB2.out) hl)
  clear hb HB1 hcall
  go_wp2_with fail
  refine HC.out.mono ?_
  rintro e w2 ⟨rfl, h1, h2⟩
  have H1 := hide h1
  have H2 := hide ((Kp.of HB2.out (Nat.le_of_lt hlt)).trans h2)
  clear h1 h2 HC
  go_wp2
  go_end0
  exact ⟨rfl, H1.out, H2.out⟩
theorem wr_term {w0 : World} (t : Trm) (hok : t.ok) (ht : TabLaid w0) : Wr w0 (pvTrm t) (trmT t) :=
  ⟨_, _, _, rfl, fun d W => m_term d _ W, en_term, fun W B l hW hB h hl => term_write t hok ht hW hB h hl⟩

/-- What stands behind a predicate: its arguments' texts in brackets, where there are any. -/
def argT (ms : List (List UInt8)) : List UInt8 := if ms = [] then [] else [40] ++ (jn [44, 32] ms ++ [41])

/-- A list of parts in memory of one's own, wherever it is looked at. -/
theorem part_row {W : World} {base B n pc : Nat} {po : Option Addr} {xs : List Value} (h : W.ownsRow base 99 1 (.slice po n pc) n xs) (hb : B < base) (hp : 0 < n) :
    ∃ g, po = some ⟨g, 0, none⟩ ∧ ∀ V, Kp B W V → ∀ i x, xs[i]? = some x → V.cell? ⟨g, i, none⟩ = some x := by
  rcases h.2 with ⟨_, h0⟩ | ⟨g, cap, cur, hv, hbase, hblk, h1, h2, h3, h4⟩
  · omega
  · simp only [Value.slice.injEq] at hv
    obtain ⟨rfl, _, _⟩ := hv
    refine ⟨g, rfl, fun V hk i x hx => ?_⟩
    have hV := hk.block hblk (by omega) (fun c fz e => by simp only [Obj.cells.injEq] at e; exact absurd e.2.1 (by decide))
    have hi : i < n := by
      have := (List.getElem?_eq_some_iff.1 hx).1
      have hl := h.1
      omega
    rw [← h4, Nat.mul_one, List.getElem?_take_of_lt hi, Array.getElem?_toList] at hx
    simp only [World.cell?, hV]
    simp only [Option.isSome_none, Bool.false_eq_true, if_false]
    exact hx
theorem bytes_arr (s : ByteArray) : s = ⟨s.data.toList.toArray⟩ := by obtain ⟨a⟩ := s; simp

set_option maxRecDepth 100000 in
set_option maxHeartbeats 4000000 in
theorem writeAtom_any {w0 W : World} {B base : Nat} {l : List UInt8} (s : ByteArray) {ps : List (Value × List UInt8)} {pv : Value} (hps : ∀ x ∈ ps, Wr w0 x.1 x.2) (hpv : W.ownsRow base 99 1 pv ps.length (ps.map (·.1))) (hbase : B < base)
    (hW : Below w0.heap.size w0 W) (hB : w0.heap.size ≤ B) (h : BFs B l W) (hl : l.length + (s.data.toList ++ argT (ps.map (·.2))).length ≤ 100000000000000) (hn : ps.length < 1073741824) :
    Calls Tryz.prog 160 #[.pointer (some ⟨B, 0, none⟩), .string s, pv] W fun e w' => e = .returned (.tuple #[]) ∧ BFs B (l ++ (s.data.toList ++ argT (ps.map (·.2)))) w' ∧ Kp B W w' := by
  obtain ⟨po, pc, rfl⟩ := own_shape hpv
  have HRow : Hid (0 < ps.length → ∃ g, po = some ⟨g, 0, none⟩ ∧ ∀ V, Kp B W V → ∀ i x, (ps.map (·.1))[i]? = some x → V.cell? ⟨g, i, none⟩ = some x) := fun hp => part_row hpv hbase hp
  have HPs := hide hps
  have HW := hide hW
  have H1 := hide (wsk_any s.data.toList (bytes_arr s) h (by rw [List.length_append] at hl; omega))
  obtain ⟨n, hnn⟩ : ∃ n, n = ps.length := ⟨_, rfl⟩
  have HN := hide hnn
  clear hpv hps hW h
  rw [← hnn]
  clear hnn
  by_cases h0 : n = 0
  · have HE : Hid (argT (ps.map (·.2)) = []) := by
      show _ = _
      have : ps = [] := List.length_eq_zero_iff.1 (by rw [← HN.out]; exact h0)
      rw [this]; rfl
    rw [HE.out, List.append_nil]
    have hi : ¬ (0 : Int) < (n : Int) := by omega
    clear HE hl h0
    go_enter Tryz.func160, Tryz.ntmps160
    go_wp2_with fail
    refine H1.out.mono ?_
    rintro e w1 ⟨⟨v, rfl⟩, h2, k2⟩
    have H2 := hide h2
    have K2 := hide k2
    clear h2 k2
    go_wp2
    go_end0
    exact ⟨rfl, H2.out, K2.out⟩
  · have HE : Hid (argT (ps.map (·.2)) = [40] ++ (jn [44, 32] (ps.map (·.2)) ++ [41])) := by
      show _ = _
      unfold argT
      rw [if_neg (fun e => h0 (by rw [HN.out]; have := congrArg List.length e; simpa using this))]
    rw [HE.out] at hl ⊢
    obtain ⟨J, hJ⟩ : ∃ J, J = jn [44, 32] (ps.map (·.2)) := ⟨_, rfl⟩
    rw [← hJ] at hl ⊢
    simp only [List.length_append, List.length_cons, List.length_nil] at hl
    have hi : (0 : Int) < (n : Int) := by omega
    have HJ : Hid (∀ V, Kp B W V → BFs B (l ++ s.data.toList ++ [40]) V → Calls Tryz.prog 155 #[.pointer (some ⟨B, 0, none⟩), .string ⟨#[44, 32]⟩, .slice po n pc] V fun e w' => e = .returned (.tuple #[]) ∧ BFs B (l ++ s.data.toList ++ [40] ++ J) w' ∧ Kp B V w') := fun V hk hb => by
      rw [HN.out, hJ]
      refine join_any (w0 := w0) (bl := [44, 32]) rfl HPs.out (fun hp => ?_) (HW.out.trans (hk.1.mono hB)) hB hb (by rw [← hJ]; simp only [List.length_append, List.length_cons, List.length_nil]; omega) hn
      obtain ⟨g, hg, hc⟩ := HRow.out hp
      exact ⟨g, hg, fun V2 hk2 i x hx => hc V2 (hk.trans hk2) i x.1 (by rw [List.getElem?_map, hx]; rfl)⟩
    have e1 : l ++ (s.data.toList ++ ([40] ++ (J ++ [41]))) = l ++ s.data.toList ++ [40] ++ J ++ [41] := by simp only [List.append_assoc]
    rw [e1]
    have hjl : l.length + (s.data.toList.length + (1 + (J.length + 1))) ≤ 100000000000000 := by simpa using hl
    clear e1 HE h0 HRow HPs HW hJ hl
    go_enter Tryz.func160, Tryz.ntmps160
    go_wp2_with fail
    refine H1.out.mono ?_
    rintro e w1 ⟨⟨v, rfl⟩, h2, k2⟩
    have K2 := hide k2
    have H2 := hide (wsk_any [40] (s := ⟨#[40]⟩) rfl h2 (by simp only [List.length_append, List.length_cons, List.length_nil]; omega))
    clear h2 k2 H1
    go_wp2_with fail
    refine H2.out.mono ?_
    rintro e w2 ⟨⟨v2, rfl⟩, h3, k3⟩
    have K3 := hide (K2.out.trans k3)
    have H3 := hide (HJ.out w2 K3.out h3)
    clear h3 k3 H2 K2 HJ
    go_wp2_with fail
    refine H3.out.mono ?_
    rintro e w3 ⟨rfl, h4, k4⟩
    have K4 := hide (K3.out.trans k4)
    have H4 := hide (wsk_any [41] (s := ⟨#[41]⟩) rfl h4 (by simp only [List.length_append, List.length_cons, List.length_nil]; omega))
    clear h4 k4 H3 K3
    go_wp2_with fail
    refine H4.out.mono ?_
    rintro e w4 ⟨⟨v4, rfl⟩, h5, k5⟩
    have K5 := hide (K4.out.trans k5)
    have H5 := hide h5
    clear h5 k5 H4 K4
    go_wp2
    go_end0
    exact ⟨rfl, H5.out, K5.out⟩
end Go.Proofs.YtchhophblejmeaaGreatDoor

namespace Go.Proofs.YtchhophblejmeaaGreatDoor
set_option linter.unusedSimpArgs false
set_option linter.unusedVariables false
open Go.RowKit

/-- The first reason in a list. -/
def firstE {α : Type} (f : α → Int) : List α → Int
  | [] => 0
  | x :: r => if f x = 0 then firstE f r else f x
theorem firstE_zero {α : Type} {f : α → Int} : ∀ {l : List α}, (∀ x ∈ l, f x = 0) → firstE f l = 0
  | [], _ => rfl
  | x :: r, h => by
    unfold firstE
    rw [if_pos (h x (by simp))]
    exact firstE_zero fun y hy => h y (List.mem_cons_of_mem _ hy)
theorem firstE_at {α : Type} {f : α → Int} : ∀ {l : List α} {k : Nat} {x : α}, (∀ y ∈ l.take k, f y = 0) → l[k]? = some x → f x ≠ 0 → firstE f l = f x
  | [], k, x, _, hx, _ => by simp at hx
  | y :: r, 0, x, _, hx, hne => by
    simp only [List.getElem?_cons_zero, Option.some.injEq] at hx
    subst hx
    unfold firstE
    rw [if_neg hne]
  | y :: r, k + 1, x, h, hx, hne => by
    unfold firstE
    rw [if_pos (h y (by simp))]
    exact firstE_at (k := k) (fun z hz => h z (by rw [List.take_succ_cons]; exact List.mem_cons_of_mem _ hz)) (by simpa using hx) hne
theorem take_zero_more {α : Type} {f : α → Int} {l : List α} {k : Nat} {x : α} (h : ∀ y ∈ l.take k, f y = 0) (hx : l[k]? = some x) (h0 : f x = 0) : ∀ y ∈ l.take (k + 1), f y = 0 := by
  intro y hy
  rw [List.take_add_one, hx] at hy
  simp only [Option.toList_some, List.mem_append, List.mem_singleton] at hy
  rcases hy with hy | rfl
  · exact h y hy
  · exact h0

def termE (t : Trm) : Int := if t.k = 4 then (if t.n = 0 then (if isVarL t.s.toList then 0 else 14) else 14) else (if validC t.con then 0 else 5)
def atomE (p : ByteArray) (ts : List Trm) : Int := if isNameL p.toList then (if 8 < ts.length then 22 else firstE termE ts) else 14
def noTerm (t : Trm) : Bool := t.k == 0 && (t.n == 0 && t.s.toList == [])
def litE (x : Ltr) : Int :=
  if x.k = 1 ∨ x.k = 2 then (if x.op = 0 then (if noTerm x.l then (if noTerm x.r then atomE x.a.p x.a.ts else 2) else 2) else 2)
  else if x.k = 3 then (if x.op < 1 then 2 else if 6 < x.op then 2 else if x.a.p.toList == [] then (if 0 < x.a.ts.length then 2 else if termE x.l = 0 then termE x.r else termE x.l) else 2)
  else 2
def bodyE (ls : List Ltr) : Int := if 16 < ls.length then 23 else firstE litE ls
def clauseE (c : Cls) : Int := if atomE c.h.p c.h.ts = 0 then bodyE c.ls else atomE c.h.p c.h.ts
def progE (cs : List Cls) : Int := if 512 < cs.length then 24 else firstE clauseE cs
end Go.Proofs.YtchhophblejmeaaGreatDoor
