/- Two lists that a call makes side by side, one of bytes and one of numbers: each grows by itself. -/
import Derived.Test.YtgbnoggapejinaaDoorProg
import Derived.Test.YtgbnoggapejinaaDoorSpacedPure
import Derived.Test.YtgbnoggapejinaaDoorKinds
namespace Go.Proofs.YtgbnoggapejinaaDoor
set_option linter.unusedSimpArgs false
set_option linter.unusedVariables false
open Go.RowKit

def bv (l : List UInt8) : List Value := l.map fun b => Value.int .u8 (b.toNat : Int)
def ov (l : List Nat) : List Value := l.map fun (n : Nat) => Value.int .i64 (n : Int)

structure St (U W : World) (sp of : Value) (bs : List UInt8) (os : List Nat) : Prop where
  b : Below U.heap.size U W
  r1 : W.ownsRow U.heap.size 5 1 sp bs.length (bv bs)
  r2 : W.ownsRow U.heap.size 3 1 of os.length (ov os)

theorem own_far {w w' : World} {base size n : Nat} {e : TypeId} {v : Value} {xs : List Value} {row : Option Nat} (h : w.ownsRow base e size v n xs) (hg : w.grownBy w' row) (hr : ∀ g, v.ownBlock = some g → row ≠ some g) : w'.ownsRow base e size v n xs := by
  refine ⟨h.1, ?_⟩
  rcases h.2 with h0 | ⟨g, cap, cur, hv, hbase, hblk, rest⟩
  · exact .inl h0
  · exact .inr ⟨g, cap, cur, hv, hbase, by rw [hg.block g (Array.getElem?_eq_some_iff.1 hblk).1 (fun e => hr g (by rw [hv]; rfl) e.symm)]; exact hblk, rest⟩

theorem own_type {w : World} {base size n : Nat} {e : TypeId} {v : Value} {xs : List Value} {g : Nat} (h : w.ownsRow base e size v n xs) (hg : v.ownBlock = some g) : base ≤ g ∧ ∃ cur fr, w.heap[g]? = some (.cells cur e fr) := by
  rcases h.2 with ⟨h0, _⟩ | ⟨g', cap, cur, hv, hbase, hblk, rest⟩
  · rw [h0] at hg; cases hg
  · rw [hv] at hg
    obtain rfl : g' = g := by simpa [Value.ownBlock] using hg
    exact ⟨hbase, cur, _, hblk⟩

theorem St.apart {U W : World} {sp of : Value} {bs : List UInt8} {os : List Nat} (h : St U W sp of bs os) {g : Nat} (h1 : sp.ownBlock = some g) (h2 : of.ownBlock = some g) : False := by
  obtain ⟨_, c1, f1, e1⟩ := own_type h.r1 h1
  obtain ⟨_, c2, f2, e2⟩ := own_type h.r2 h2
  rw [e1] at e2
  injection e2 with e2
  injection e2 with _ e3 _
  exact absurd e3 (by decide)

theorem St.alloc {U W : World} {sp of : Value} {bs : List UInt8} {os : List Nat} (h : St U W sp of bs os) (o : Obj) : St U (W.alloc o) sp of bs os :=
  ⟨h.b.alloc h.b.size o, h.r1.alloc o, h.r2.alloc o⟩

theorem St.push1 {U W w1 : World} {sp of v' : Value} {bs : List UInt8} {os : List Nat} {b : UInt8} (h : St U W sp of bs os) (hown : w1.ownsRow U.heap.size 5 1 v' (bs.length + 1) (bv bs ++ [.int .u8 (b.toNat : Int)])) (hg : W.grownBy w1 sp.ownBlock) : St U w1 v' of (bs ++ [b]) os where
  b := h.b.grown hg h.b.size (fun k hk => (own_type h.r1 hk).1)
  r1 := by
    have e : bv (bs ++ [b]) = bv bs ++ [.int .u8 (b.toNat : Int)] := by unfold bv; rw [List.map_append]; rfl
    rw [List.length_append, e]; exact hown
  r2 := own_far h.r2 hg (fun g h2 h1 => h.apart h1 h2)

theorem St.push2 {U W w1 : World} {sp of v' : Value} {bs : List UInt8} {os : List Nat} {n : Nat} (h : St U W sp of bs os) (hown : w1.ownsRow U.heap.size 3 1 v' (os.length + 1) (ov os ++ [.int .i64 (n : Int)])) (hg : W.grownBy w1 of.ownBlock) : St U w1 sp v' bs (os ++ [n]) where
  b := h.b.grown hg h.b.size (fun k hk => (own_type h.r2 hk).1)
  r1 := own_far h.r1 hg (fun g h1 h2 => h.apart h1 h2)
  r2 := by
    have e : ov (os ++ [n]) = ov os ++ [.int .i64 (n : Int)] := by unfold ov; rw [List.map_append]; rfl
    rw [List.length_append, e]; exact hown

theorem St.kept {U W W' : World} {sp of : Value} {bs : List UInt8} {os : List Nat} (h : St U W sp of bs os) (hb : Below W.heap.size W W') : St U W' sp of bs os :=
  ⟨h.b.trans (hb.mono h.b.size), own_kept h.r1 hb, own_kept h.r2 hb⟩

theorem strOf_bytes (l : List UInt8) : strOf (l.map fun b => (b.toNat : Int)) = ⟨l.toArray⟩ := by
  have h : ∀ (l : List UInt8) (r : ByteArray), (l.map fun b => (b.toNat : Int)).foldl (fun r n => r.push (UInt8.ofNat n.toNat)) r = ⟨r.data ++ l.toArray⟩ := by
    intro l
    induction l with
    | nil => intro r; simp
    | cons a l ih =>
      intro r
      rw [List.map_cons, List.foldl_cons, ih]
      have : UInt8.ofNat ((a.toNat : Int).toNat) = a := by simp
      rw [this]
      apply ByteArray.ext
      apply Array.ext'
      simp [ByteArray.push]
  unfold strOf
  rw [h l ByteArray.empty]
  apply ByteArray.ext
  apply Array.ext'
  rw [Array.toList_append]
  rfl

theorem St.str {U W : World} {sp of : Value} {bs : List UInt8} {os : List Nat} (h : St U W sp of bs os) : (convert 40 9 sp).run Tryd.prog W = .ok (.string ⟨bs.toArray⟩) W := by
  have e : bv bs = (bs.map fun b => (b.toNat : Int)).map (Value.int .u8) := by unfold bv; rw [List.map_map]; rfl
  have := text_string (vs := bs.map fun b => (b.toNat : Int)) (by rw [List.length_map, ← e]; exact h.r1)
  rw [strOf_bytes] at this
  exact this

theorem ov_at {w : World} {base : Nat} {v : Value} {os : List Nat} (h : w.ownsRow base 3 1 v os.length (ov os)) (h0 : 0 < os.length) : ∃ g cap, v = .slice (some ⟨g, 0, none⟩) os.length cap ∧ g < w.heap.size ∧ ∀ (i n : Nat), os[i]? = some n → w.cell? ⟨g, i, none⟩ = some (.int .i64 (n : Int)) := by
  rcases h.2 with ⟨_, h1⟩ | ⟨g, cap, cur, hv, hbase, hb, h1, h2, h3, h4⟩
  · omega
  refine ⟨g, cap, hv, (Array.getElem?_eq_some_iff.1 hb).1, fun i n hi => ?_⟩
  have hlt : i < os.length := (List.getElem?_eq_some_iff.1 hi).1
  have e : (cur.toList.take (os.length * 1))[i]? = (ov os)[i]? := by rw [h4]
  unfold ov at e
  rw [List.getElem?_take_of_lt (by omega), Array.getElem?_toList, List.getElem?_map, hi] at e
  simp only [World.cell?, hb]
  simp only [Option.isSome_none, Bool.false_eq_true, if_false]
  exact e

/-- The token t lies in a box of its own. -/
def BoxT (W : World) (b : Nat) (t : Tok) : Prop := W.heap[b]? = some (.cells #[.int .i64 t.k, .string t.t, .int .i64 t.n, .int .i64 t.op, .int .i64 (t.off : Int), .int .i64 (t.en : Int)] 36 (0, 0))
theorem BoxT.kept {W W' : World} {b : Nat} {t : Tok} (h : BoxT W b t) (hb : Below W.heap.size W W') : BoxT W' b t := by
  unfold BoxT at h ⊢
  rw [hb.block b (Array.getElem?_eq_some_iff.1 h).1]; exact h
theorem BoxT.grown {W W' : World} {b : Nat} {t : Tok} {v : Value} {base n size : Nat} {e : TypeId} {xs : List Value} (h : BoxT W b t) (hg : W.grownBy W' v.ownBlock) (hr : W.ownsRow base e size v n xs) (he : e ≠ 36) : BoxT W' b t := by
  unfold BoxT at h ⊢
  rw [hg.block b (Array.getElem?_eq_some_iff.1 h).1 (fun eq => by
    obtain ⟨_, cur, fr, hc⟩ := own_type hr eq.symm
    rw [h] at hc
    injection hc with hc
    injection hc with _ hc _
    exact he hc.symm)]
  exact h
theorem BoxT.tok {W : World} {b : Nat} {t : Tok} (h : BoxT W b t) : TokAt W b 0 t := by
  unfold BoxT at h
  constructor <;> (simp only [World.cell?, h]; simp only [Option.isSome_none, Bool.false_eq_true, if_false]; rfl)

end Go.Proofs.YtgbnoggapejinaaDoor
