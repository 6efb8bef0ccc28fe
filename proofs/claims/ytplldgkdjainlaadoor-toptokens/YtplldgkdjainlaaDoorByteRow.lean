/- A row of bytes in memory of its own, and the string that it becomes. -/
import Derived.Test.YtplldgkdjainlaaDoorProg
import Derived.Test.YtplldgkdjainlaaDoorOpen
import Derived.Laws.BytesString
import Derived.OwnWalk
import Derived.Deep.AppendLies
import Derived.Deep.DeepCutAuto
import Derived.Deep.LoopGhost
import Derived.Laws.AppendOwn
namespace Go.Proofs.YtplldgkdjainlaaDoor
set_option linter.unusedSimpArgs false
set_option linter.unusedVariables false
open Go.RowKit

def strOf (vs : List Int) : ByteArray := vs.foldl (fun r n => r.push (UInt8.ofNat n.toNat)) ByteArray.empty
def byteOf (n : Int) : UInt8 := UInt8.ofNat n.toNat

theorem strOf_data (vs : List Int) : (strOf vs).data.toList = vs.map byteOf := by
  have : ∀ (l : List Int) (r : ByteArray), (l.foldl (fun r n => r.push (UInt8.ofNat n.toNat)) r).data.toList = r.data.toList ++ l.map byteOf := by
    intro l
    induction l with
    | nil => intro r; simp
    | cons n t ih => intro r; rw [List.foldl_cons, ih]; simp [ByteArray.push, byteOf]
  have h := this vs ByteArray.empty
  unfold strOf
  rw [h]; rfl

theorem bytes_ext {a b : ByteArray} (h : a.data.toList = b.data.toList) : a = b := by
  obtain ⟨⟨a⟩⟩ := a
  obtain ⟨⟨b⟩⟩ := b
  simp only at h
  rw [h]

theorem strOf_app (a b : List Int) : strOf (a ++ b) = strOf a ++ strOf b := by
  apply bytes_ext
  rw [ByteArray.data_append, Array.toList_append, strOf_data, strOf_data, strOf_data, List.map_append]

theorem strOf_size (vs : List Int) : (strOf vs).size = vs.length := by
  have := congrArg List.length (strOf_data vs)
  simpa using this

theorem strOf_of (s : ByteArray) : strOf (s.data.toList.map fun b => (b.toNat : Int)) = s := by
  apply bytes_ext
  rw [strOf_data, List.map_map]
  have : ∀ b : UInt8, (byteOf ∘ fun b : UInt8 => (b.toNat : Int)) b = b := fun b => by simp [byteOf]
  rw [List.map_congr_left (g := id) (fun b _ => this b)]
  simp

theorem Tryd.infoByte : (Tryd.prog.info? 5).map (fun i => (i.zero, i.size, i.bytes)) = some (some (.int .u8 0), 1, 1) := by kernel_rfl

theorem text_string {w : World} {base : Nat} {v : Value} {vs : List Int} (h : w.ownsRow base 5 1 v vs.length (vs.map (Value.int .u8))) :
    (convert 60 9 v).run Tryd.prog w = .ok (.string (strOf vs)) w := by
  rcases h.2 with ⟨rfl, h0⟩ | ⟨g, cap, cur, rfl, hbase, hb, h1, h2, h3, h4⟩
  · obtain rfl : vs = [] := List.length_eq_zero_iff.1 h0
    rw [run_convert_bytes_string w _ _ 5 _ _ _ Tryd.underlying60 Tryd.underlying5 Tryd.underlying9]
    simp [Conv.bytesToString, strOf]
  · rw [run_convert_bytes_string w _ _ 5 _ _ _ Tryd.underlying60 Tryd.underlying5 Tryd.underlying9]
    refine run_bytesToString w ⟨g, 0, none⟩ _ _ vs ?_
    have := run_loadCells_list (P := Tryd.prog) w ⟨g, 0, none⟩ (vs.map (Value.int .u8)) (fun j v hv => ?_)
    · simpa using this
    · rw [addr_add, Nat.zero_add]
      have hj : j < vs.length := by
        have := (List.getElem?_eq_some_iff.1 hv).1
        simpa using this
      rw [← h4, Nat.mul_one, List.getElem?_take_of_lt hj, Array.getElem?_toList] at hv
      simp only [World.cell?, hb]
      simp only [Option.isSome_none, Bool.false_eq_true, if_false]
      exact hv

/-- A literal of bytes becomes a string. -/
theorem lit_string (w : World) (vs : List Int) (n : Nat) (hn : n = vs.length) :
    (convert 60 9 (.slice (some ⟨w.heap.size, 0, none⟩) n n)).run Tryd.prog (w.alloc (.cells (vs.map (Value.int .u8)).toArray 5)) = .ok (.string (strOf vs)) (w.alloc (.cells (vs.map (Value.int .u8)).toArray 5)) := by
  subst hn
  rw [run_convert_bytes_string _ _ _ 5 _ _ _ Tryd.underlying60 Tryd.underlying5 Tryd.underlying9]
  refine run_bytesToString _ ⟨w.heap.size, 0, none⟩ _ _ vs ?_
  have := run_loadCells_list (P := Tryd.prog) (w.alloc (.cells (vs.map (Value.int .u8)).toArray 5)) ⟨w.heap.size, 0, none⟩ (vs.map (Value.int .u8)) (fun j v hv => ?_)
  · simpa using this
  · rw [addr_add, Nat.zero_add]
    simp only [World.cell?, World.alloc]
    simp
    simpa using hv

theorem own_kept {w w' : World} {base size n : Nat} {e : TypeId} {v : Value} {xs : List Value} (h : w.ownsRow base e size v n xs) (hb : Below w.heap.size w w') : w'.ownsRow base e size v n xs := by
  refine ⟨h.1, ?_⟩
  rcases h.2 with h0 | ⟨g, cap, cur, hv, hbase, hblk, rest⟩
  · exact .inl h0
  · exact .inr ⟨g, cap, cur, hv, hbase, by rw [hb.block g (Array.getElem?_eq_some_iff.1 hblk).1]; exact hblk, rest⟩

theorem own_shape {w : World} {base size n : Nat} {e : TypeId} {v : Value} {xs : List Value} (h : w.ownsRow base e size v n xs) : ∃ ao cap, v = .slice ao n cap := by
  rcases h.2 with ⟨rfl, rfl⟩ | ⟨g, cap, cur, rfl, _⟩
  · exact ⟨none, 0, rfl⟩
  · exact ⟨_, cap, rfl⟩

theorem own_block {w : World} {base size n k : Nat} {e : TypeId} {v : Value} {xs : List Value} (h : w.ownsRow base e size v n xs) (hk : v.ownBlock = some k) : base ≤ k := by
  rcases h.2 with ⟨rfl, _⟩ | ⟨g, cap, cur, rfl, hbase, _⟩
  · cases hk
  · have : g = k := by simpa [Value.ownBlock] using hk
    omega

/-- What an append to a row of one's own has changed. -/
theorem grown_below {U V w1 : World} {v : Value} {e : TypeId} {B size n : Nat} {xs : List Value} {o : Obj} (hV : Below B U V) (hB : B ≤ V.heap.size) (hown : V.ownsRow B e size v n xs) (hg : (V.alloc o).grownBy w1 v.ownBlock) : Below B U w1 :=
  (hV.alloc hB o).grown hg (Nat.le_trans hB (by simp)) (fun k hk => own_block hown hk)
end Go.Proofs.YtplldgkdjainlaaDoor
