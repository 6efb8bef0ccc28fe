/- What lex.integer answers: by strconv.ParseInt's own answer. -/
import Derived.Test.YtplldgkdjainlaaDoorProg
import Derived.Test.YtplldgkdjainlaaDoorLexWord
import Derived.Test.YtplldgkdjainlaaDoorOverAt
import Derived.Test.YtplldgkdjainlaaDoorIntLay
import Derived.Lib.SmallJoins
namespace Go.Proofs.YtplldgkdjainlaaDoor
set_option linter.unusedSimpArgs false
set_option linter.unusedVariables false
open Go.RowKit

attribute [local go_sem] over_cellAt over_frozenAt over_setAt

/-- What start-up lays, as far as lex looks at it. -/
def marksL : List Value :=
  [([58, 45], 9, 0), ([33, 61], 11, 2), ([60, 61], 11, 4), ([62, 61], 11, 6), ([60], 11, 3), ([62], 11, 5), ([61], 11, 1), ([40], 5, 0), ([41], 6, 0), ([44], 7, 0), ([46], 8, 0)].flatMap
    fun (m : List UInt8 × Int × Int) => [.string ⟨m.1.toArray⟩, .int .i64 m.2.1, .int .i64 m.2.2]
structure LexLaid (w : World) : Prop where
  syn : ∃ t p, w.cell? ⟨3, 0, none⟩ = some (.iface t p)
  rng : ∃ t p, w.cell? ⟨4, 0, none⟩ = some (.iface t p)
  marks : ∀ (i : Nat) v, marksL[i]? = some v → w.cell? ⟨2, i, none⟩ = some v

theorem LexLaid.kept {w w' : World} (h : LexLaid w) (hb : Below w.heap.size w w') : LexLaid w' where
  syn := by obtain ⟨t, p, e⟩ := h.syn; exact ⟨t, p, kept_cell hb e⟩
  rng := by obtain ⟨t, p, e⟩ := h.rng; exact ⟨t, p, kept_cell hb e⟩
  marks i v hv := kept_cell hb (h.marks i v hv)

theorem parse_ok (s : ByteArray) (w : World) (hs : s.size ≤ 140737488351232) {v : Int} (h : Lib.parseIntB 64 s.data.toList = .ok v) :
    Calls Tryd.prog 35 #[.string s, .int .i64 10, .int .i64 64] w fun e w' => e = .returned (.tuple #[.int .i64 v, .nilIface]) ∧ Below w.heap.size w w' :=
  (Any.strconv_ParseInt_10_at64_ok Tryd.lays174 s (by omega) v h w).mono fun e w' ⟨he, hw⟩ => ⟨he, by
    rcases hw with rfl | ⟨t, rfl⟩
    · exact Below.refl _ _
    · exact Go.Joins.below_bytesWorld _ _ _ _ (Nat.le_refl _)⟩

theorem parse_bad (s : ByteArray) (w : World) (hs : s.size ≤ 140737488351232) (hl : LexLaid w) (h : ∀ v, Lib.parseIntB 64 s.data.toList ≠ .ok v) :
    Calls Tryd.prog 35 #[.string s, .int .i64 10, .int .i64 64] w fun e w' => (∃ v t q, e = .returned (.tuple #[.int .i64 v, .iface t (.pointer (some q))])) ∧ Below w.heap.size w w' := by
  cases hp : Lib.parseIntB 64 s.data.toList with
  | ok v => exact absurd hp (h v)
  | «syntax» =>
    obtain ⟨t, p, e⟩ := hl.syn
    exact (Any.strconv_ParseInt_10_at64_syntax Tryd.lays174 s (by omega) hp _ w e (.inr ⟨_, _, rfl⟩)).mono fun e w' ⟨N, he, _, _, hb⟩ => ⟨⟨_, _, _, he⟩, hb⟩
  | range =>
    obtain ⟨t, p, e⟩ := hl.rng
    exact (Any.strconv_ParseInt_10_at64_range Tryd.lays174 s (by omega) hp _ w e (.inr ⟨_, _, rfl⟩)).mono fun e w' ⟨N, he, _, _, hb⟩ => ⟨⟨_, _, _, he⟩, hb⟩

def intX (s : ByteArray) (o : Nat) : Nx :=
  match Lib.parseIntB 64 (s.extract o (o + 1 + runC (rest s (o + 1)))).data.toList with
  | .ok v => .tok ⟨3, ⟨#[]⟩, v, 0, o, o + 1 + runC (rest s (o + 1))⟩
  | _ => .bad 13 o


theorem below2_over (w x : World) (o p : Obj) : Below w.heap.size w (over ((w.alloc o).alloc p) x) := (below2 w o p).trans ((over_below _ x).mono (by simp; omega))
theorem refuse_below (c : Int) (o : Nat) (w : World) :
    Calls Tryd.prog 21 #[.int .i64 c, .int .i64 o] w fun e w' => e = .returned (Nx.bad c o).val ∧ Below w.heap.size w w' :=
  (refuse_any c o w).mono fun _ _ ⟨he, hw⟩ => ⟨he, by rw [hw]; exact below2 _ _ _⟩

set_option maxHeartbeats 1000000 in
theorem integer_any (s : ByteArray) (o : Nat) (w : World) (hs : s.size ≤ 140737488351232) (ho : o < s.size) (hl : LexLaid w) :
    Calls Tryd.prog 26 #[.string s, .int .i64 o] w fun e w' => e = .returned (intX s o).val ∧ Below w.heap.size w w' := by
  have hm2 := runC_le (rest s (o + 1))
  rw [rest_len] at hm2
  have HR : Hid (∀ W, Calls Tryd.prog 33 #[.string s, .int .i64 ((o : Int) + 1)] W fun e w' => e = .returned (.int .i64 ((o + 1 + runC (rest s (o + 1)) : Nat) : Int)) ∧ w' = W) := fun W => by
    have := runEnd_any s (o + 1) W hs (by omega)
    rw [show ((o + 1 : Nat) : Int) = (o : Int) + 1 from by omega] at this
    exact this
  have HX : Hid (intX s o = match Lib.parseIntB 64 (s.extract o (o + 1 + runC (rest s (o + 1)))).data.toList with | .ok v => .tok ⟨3, ⟨#[]⟩, v, 0, o, o + 1 + runC (rest s (o + 1))⟩ | _ => .bad 13 o) := rfl
  rw [HX.out]
  clear HX
  generalize runC (rest s (o + 1)) = m at *
  obtain ⟨q, hq⟩ : ∃ q : Nat, q = o + 1 + m := ⟨_, rfl⟩
  rw [← hq] at HR ⊢
  have hq1 : (o : Int) ≤ (q : Int) := by omega
  have hq2 : (q : Int) ≤ (s.size : Int) := by omega
  have hqs : (s.extract o q).size ≤ 140737488351232 := by rw [ByteArray.size_extract]; omega
  clear hq hm2
  cases hp : Lib.parseIntB 64 (s.extract o q).data.toList with
  | ok v =>
    have HP := hide fun W => parse_ok (s.extract o q) W hqs hp
    clear hp hqs
    show Calls _ _ _ _ fun e w' => e = .returned (Nx.tok ⟨3, ⟨#[]⟩, v, 0, o, q⟩).val ∧ Below w.heap.size w w'
    go_enter Tryd.func26, Tryd.ntmps26
    go_wp2_with (first
      | (go_at_call 33; refine (HR.out _).mono ?_; rintro e w' ⟨rfl, hw'⟩; have hw' := hw'.symm; subst hw')
      | (go_at_call 35; refine (HP.out _).mono ?_; rintro e w' ⟨rfl, hb⟩; obtain ⟨x, rfl⟩ := over_of hb; clear hb))
    exact bodyPost_ret (v := (Nx.tok ⟨3, ⟨#[]⟩, v, 0, o, q⟩).val) (by simp [results, Tryd.results26, go_sem, Nx.val, Tok.val, faultVal]) rfl ⟨rfl, below2_over _ _ _ _⟩
  | «syntax» =>
    have HP := hide fun W hW => parse_bad (s.extract o q) W hqs hW (by rw [hp]; intro v hv; cases hv)
    have HL := hide hl
    clear hp hqs hl
    show Calls _ _ _ _ fun e w' => e = .returned (Nx.bad 13 o).val ∧ Below w.heap.size w w'
    go_enter Tryd.func26, Tryd.ntmps26
    go_wp2_with (first
      | (go_at_call 33; refine (HR.out _).mono ?_; rintro e w' ⟨rfl, hw'⟩; have hw' := hw'.symm; subst hw')
      | (go_at_call 35; refine (HP.out _ (HL.out.kept (below2 _ _ _))).mono ?_; rintro e w' ⟨⟨v, t, p, rfl⟩, hb⟩; obtain ⟨x, rfl⟩ := over_of hb; clear hb)
      | (go_at_call 21; refine (calls_over (refuse_below _ _ _)).mono ?_; unfold Nx.val tokZero faultVal; rintro e w' ⟨rfl, y, rfl⟩))
    exact bodyPost_ret (v := (Nx.bad 13 o).val) (by simp [results, Tryd.results26, go_sem, Nx.val, tokZero, faultVal]) rfl ⟨rfl, below2_over _ _ _ _⟩
  | range =>
    have HP := hide fun W hW => parse_bad (s.extract o q) W hqs hW (by rw [hp]; intro v hv; cases hv)
    have HL := hide hl
    clear hp hqs hl
    show Calls _ _ _ _ fun e w' => e = .returned (Nx.bad 13 o).val ∧ Below w.heap.size w w'
    go_enter Tryd.func26, Tryd.ntmps26
    go_wp2_with (first
      | (go_at_call 33; refine (HR.out _).mono ?_; rintro e w' ⟨rfl, hw'⟩; have hw' := hw'.symm; subst hw')
      | (go_at_call 35; refine (HP.out _ (HL.out.kept (below2 _ _ _))).mono ?_; rintro e w' ⟨⟨v, t, p, rfl⟩, hb⟩; obtain ⟨x, rfl⟩ := over_of hb; clear hb)
      | (go_at_call 21; refine (calls_over (refuse_below _ _ _)).mono ?_; unfold Nx.val tokZero faultVal; rintro e w' ⟨rfl, y, rfl⟩))
    exact bodyPost_ret (v := (Nx.bad 13 o).val) (by simp [results, Tryd.results26, go_sem, Nx.val, tokZero, faultVal]) rfl ⟨rfl, below2_over _ _ _ _⟩

end Go.Proofs.YtplldgkdjainlaaDoor
