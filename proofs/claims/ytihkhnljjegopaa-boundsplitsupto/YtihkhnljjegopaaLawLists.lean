/- The law's own functions: mod; lists, which goes through all lists of n numbers below d. -/
import Derived.Test.YtihkhnljjegopaaBoundFire
import Derived.Deep.OwnRows
namespace Go.Proofs.Ytihkhnljjegopaa
set_option linter.unusedSimpArgs false
set_option linter.unusedVariables false
open Go.RowKit

theorem tmod_is (n k : Int) (hk : 0 < k) : (n.tmod k + k) % k = n % k := by
  rw [Int.add_emod_right, Int.tmod_eq_emod]
  split
  · simp
  · have e : (k.natAbs : Int) = k := by omega
    rw [e, Int.sub_emod, Int.emod_self, Int.sub_zero, Int.emod_emod_of_dvd _ (Int.dvd_refl k), Int.emod_emod_of_dvd _ (Int.dvd_refl k)]

/-- The number that the list S stands for, to the base d, the lowest first. -/
def odo (d : Nat) (S : Nat → Nat) : Nat → Nat
  | 0 => 0
  | n + 1 => odo d S n + S n * d ^ n
def updN (S : Nat → Nat) (i v : Nat) : Nat → Nat := fun j => if j = i then v else S j
theorem odo_congr (d : Nat) {S T : Nat → Nat} : ∀ n, (∀ i, i < n → S i = T i) → odo d S n = odo d T n
  | 0, _ => rfl
  | n + 1, h => by rw [odo, odo, odo_congr d n fun i hi => h i (by omega), h n (by omega)]
theorem odo_upd (d : Nat) (S : Nat → Nat) (i v : Nat) : ∀ n, i < n → odo d (updN S i v) n + S i * d ^ i = odo d S n + v * d ^ i
  | 0, h => by omega
  | n + 1, h => by
    rw [odo, odo]
    by_cases e : i = n
    · subst e
      rw [odo_congr d i (S := updN S i v) (T := S) fun j hj => by unfold updN; rw [if_neg (by omega)]]
      have : updN S i v i = v := by unfold updN; rw [if_pos rfl]
      rw [this]
      omega
    · have := odo_upd d S i v n (by omega)
      have e2 : updN S i v n = S n := by unfold updN; rw [if_neg (by omega)]
      rw [e2]
      omega
theorem odo_zero (d : Nat) {S : Nat → Nat} : ∀ n, (∀ i, i < n → S i = 0) → odo d S n = 0
  | 0, _ => rfl
  | n + 1, h => by rw [odo, odo_zero d n fun i hi => h i (by omega), h n (by omega)]; simp
theorem odo_lt {d : Nat} {S : Nat → Nat} : ∀ n, (∀ i, i < n → S i < d) → odo d S n < d ^ n
  | 0, _ => by simp [odo]
  | n + 1, h => by
    rw [odo, Nat.pow_succ]
    have h1 := odo_lt n fun i hi => h i (by omega)
    have h2 := h n (by omega)
    have h3 : (S n + 1) * d ^ n ≤ d * d ^ n := Nat.mul_le_mul_right _ h2
    rw [Nat.add_mul, Nat.one_mul] at h3
    rw [Nat.mul_comm (d ^ n) d]
    omega
/-- What holds while one is added: i is the place that comes next; c what it shall be. -/
structure OdAt (d n c : Nat) (S : Nat → Nat) (i : Nat) : Prop where
  low : ∀ j, j < n → S j < d
  zero : ∀ j, j < i → S j = 0
  sum : odo d S n + d ^ i = c
  le : i ≤ n
theorem OdAt.start {d n c : Nat} {S : Nat → Nat} (h : ∀ j, j < n → S j < d) (hc : odo d S n = c) : OdAt d n (c + 1) S 0 :=
  ⟨h, fun j hj => by omega, by rw [hc, Nat.pow_zero], by omega⟩
theorem OdAt.stop {d n c : Nat} {S : Nat → Nat} {i : Nat} (h : OdAt d n c S i) (hi : i < n) (hs : S i + 1 < d) : (∀ j, j < n → updN S i (S i + 1) j < d) ∧ odo d (updN S i (S i + 1)) n = c := by
  refine ⟨fun j hj => ?_, ?_⟩
  · unfold updN
    split
    · exact hs
    · exact h.low j hj
  · have h1 := odo_upd d S i (S i + 1) n hi
    have h2 := h.sum
    rw [Nat.add_mul, Nat.one_mul] at h1
    omega
theorem OdAt.next {d n c : Nat} {S : Nat → Nat} {i : Nat} (h : OdAt d n c S i) (hi : i < n) (hs : ¬ S i + 1 < d) : OdAt d n c (updN S i 0) (i + 1) := by
  have hl := h.low i hi
  refine ⟨fun j hj => ?_, fun j hj => ?_, ?_, hi⟩
  · unfold updN
    split
    · omega
    · exact h.low j hj
  · unfold updN
    split
    · rfl
    · exact h.zero j (by omega)
  · have h1 := odo_upd d S i 0 n hi
    have h2 := h.sum
    have e : d = S i + 1 := by omega
    have e2 : d ^ (i + 1) = S i * d ^ i + d ^ i := by
      rw [Nat.pow_succ, Nat.mul_comm]
      conv => lhs; rw [show d * d ^ i = (S i + 1) * d ^ i by rw [← e]]
      rw [Nat.add_mul, Nat.one_mul]
    omega
theorem OdAt.full {d n c : Nat} {S : Nat → Nat} (h : OdAt d n c S n) : c = d ^ n := by
  have := h.sum
  rw [odo_zero d n h.zero] at this
  omega
theorem pow625 {d n : Nat} (hd : d ≤ 5) (hn : n ≤ 4) : d ^ n ≤ 625 := by
  rcases Nat.eq_zero_or_pos d with h | h
  · subst h
    rcases Nat.eq_zero_or_pos n with h1 | h1
    · subst h1; decide
    · rw [Nat.zero_pow h1]; decide
  · have h1 : d ^ n ≤ d ^ 4 := Nat.pow_le_pow_right h hn
    have h2 : d ^ 4 ≤ 5 ^ 4 := Nat.pow_le_pow_left hd 4
    have h3 : (5 : Nat) ^ 4 = 625 := by decide
    omega

set_option maxHeartbeats 1000000 in
theorem mod_any {n k : Int} (hn : I64 n) (hk : 0 < k) (hk2 : k ≤ 4611686018427387904) (w : World)  :
    Calls Try.prog 7 #[.int .i64 n, .int .i64 k] w fun e w' => e = .returned (.int .i64 (n % k)) ∧ w' = w := by
  have h1 := Int.tmod_lt_of_pos n hk
  have h2 : -k < n.tmod k := Int.lt_tmod_of_pos n hk
  have hk0 : k ≠ 0 := by omega
  have HE := hide (tmod_is n k hk)
  clear hn
  go_enter Try.func7, Try.ntmps7
  go_wp2
  go_ret
  exact ⟨by rw [← HE.out]; rfl, rfl⟩

theorem Try.infoInt9 : (Try.prog.info? 3).map (fun i => (i.zero, i.size, i.bytes)) = some (some (.int .i64 0), 1, 8) := by kernel_rfl

abbrev odRow (S : Nat → Nat) : Nat → Value := fun i => .int .i64 ((S i : Nat) : Int)

set_option maxHeartbeats 1000000 in
theorem lists_any {d n : Nat} (hd : d ≤ 5) (hn : n ≤ 4) (w : World) :
    Calls Try.prog 11 #[.int .i64 (d : Int), .int .i64 (n : Int)] w fun e w' => e = .returned (.int .u64 ((d ^ n : Nat) : Int)) ∧ Below w.heap.size w w' := by
  have hmk := fun W : World => run_make_row' (P := Try.prog) 32 3 (.int .i64 0) 8 Try.underlying32 Try.infoInt9 rfl .i64 .i64 n (by omega) (by omega) W
  have hmr := World.rowIs_made w (.int .i64 0) n 3
  have HB0 := hide (belo1 w (.cells (madeCells #[.int .i64 0] n) 3))
  have HP := hide (pow625 hd hn)
  obtain ⟨z, hz9⟩ : ∃ z, d ^ n = z := ⟨_, rfl⟩
  rw [hz9]
  have HZz := hide hz9
  clear hz9
  by_cases hz : d = 0 ∧ 0 < n
  · obtain ⟨rfl, hn0⟩ := hz
    obtain rfl : z = 0 := by have := HZz.out; rw [Nat.zero_pow hn0] at this; exact this.symm
    have HR0 : Hid ((w.alloc (.cells (madeCells #[.int .i64 0] n) 3)).rowIs w.heap.size 3 n (odRow fun _ => 0)) := hmr
    clear hmr
    go_enter Try.func11, Try.ntmps11
    go_wp2
    go_loopw [6] (fun x wl => x = .int .u64 0 ∧ Hid (wl.rowIs w.heap.size 3 n (odRow fun _ => 0)) ∧ Hid (Below w.heap.size w wl)) (fun _ _ => 0)
    case atStart => exact ⟨rfl, HR0, HB0⟩
    case round =>
      clear HR0 HB0 hmk
      obtain ⟨rfl, HR, HB⟩ := hrel
      generalize wr = wo at *
      go_wp2
      go_loopw [14] (fun y wl => y = .int .i64 0 ∧ Hid (wl = wo)) (fun _ _ => 0)
      case atStart => exact ⟨rfl, rfl⟩
      case round =>
        obtain ⟨rfl, HW⟩ := hrel
        have hw := HW.out.symm
        subst hw
        clear HW
        have hk1 : (0 : Int) < (n : Int) := by omega
        have y0 := HR.out.cell hn0
        simp only [odRow] at y0
        go_wp2
        go_ret
        exact ⟨rfl, HB.out⟩
  · have HR0 : Hid ((w.alloc (.cells (madeCells #[.int .i64 0] n) 3)).rowIs w.heap.size 3 n (odRow fun _ => 0)) := hmr
    have HL0 : Hid (∀ j, j < n → (fun _ => 0 : Nat → Nat) j < d) := fun j hj => by show 0 < d; omega
    have HZ := hide hz
    clear hmr hz
    go_enter Try.func11, Try.ntmps11
    go_wp2
    go_loopw [6] (fun x wl => ∃ (c : Nat) (S : Nat → Nat), x = .int .u64 (c : Int) ∧ Hid (odo d S n = c ∧ ∀ j, j < n → S j < d) ∧ Hid (c < d ^ n) ∧ Hid (wl.rowIs w.heap.size 3 n (odRow S)) ∧ Hid (Below w.heap.size w wl)) (fun x _ => d ^ n - (intOf x).toNat)
    case atStart => exact ⟨0, fun _ => 0, rfl, ⟨odo_zero d n fun _ _ => rfl, HL0.out⟩, by show 0 < d ^ n; have := odo_lt n HL0.out; omega, HR0, HB0⟩
    case round =>
      clear HR0 HB0 HL0 hmk
      obtain ⟨c, S, rfl, HO, HC, HR, HB⟩ := hrel
      generalize wr = wo at *
      go_wp2
      go_loopw [14] (fun y wl => ∃ k : Nat, k ≤ n ∧ y = .int .i64 (k : Int) ∧ Hid (wl = wo)) (fun y _ => n - (intOf y).toNat)
      case atStart => exact ⟨0, by omega, rfl, rfl⟩
      case round =>
        obtain ⟨k, hk, rfl, HW⟩ := hrel
        have hw := HW.out.symm
        subst hw
        clear HW
        by_cases hlt : k < n
        · have hk1 : (k : Int) < (n : Int) := by omega
          have hk0 : (0 : Int) ≤ (k : Int) := by omega
          have y0 := HR.out.cell hlt
          have h1 := HO.out.2 k hlt
          have h2 : ¬ (d : Int) ≤ ((S k : Nat) : Int) := by omega
          go_wp2
          go_roundw
          case rel => exact ⟨k + 1, by omega, by go_num, trivial⟩
          case measure => simp [intOf]; omega
        · obtain rfl : k = n := by omega
          have hk1 : ¬ (k : Int) < (k : Int) := by omega
          obtain ⟨c1, hc1⟩ : ∃ c1, c + 1 = c1 := ⟨_, rfl⟩
          have e1 : IntKind.u64.wrap ((c : Int) + 1) = (c1 : Int) := by rw [IntKind.wrap_u64]; have := HC.out; have := HP.out; omega
          have HO1 : Hid (OdAt d k c1 S 0) := by rw [← hc1]; exact OdAt.start HO.out.2 HO.out.1
          have HC1 : Hid (c < c1 ∧ c1 ≤ d ^ k) := by show _ ∧ _; have := HC.out; omega
          clear hc1 HO HC
          go_wp2
          go_loopw [9] (fun y wl => ∃ (i : Nat) (T : Nat → Nat), y = .int .i64 (i : Int) ∧ i ≤ k ∧ Hid (OdAt d k c1 T i) ∧ Hid (wl.rowIs w.heap.size 3 k (odRow T)) ∧ Hid (Below w.heap.size w wl)) (fun y _ => k - (intOf y).toNat)
          case atStart => exact ⟨0, S, rfl, by omega, HO1, HR, HB⟩
          case round =>
            clear HO1 HR HB
            obtain ⟨i, T, rfl, hi, HO, HR, HB⟩ := hrel
            by_cases hik : i < k
            · have hi1 : (i : Int) < (k : Int) := by omega
              have hi0 : (0 : Int) ≤ (i : Int) := by omega
              have y0 := HR.out.cell hik
              have yf := HR.out.frozen i
              have hT := HO.out.low i hik
              obtain ⟨x, hx⟩ : ∃ x, T i = x := ⟨_, rfl⟩
              have HX := hide hx
              rw [hx] at hT
              simp only [odRow, hx] at y0
              by_cases hxd : x + 1 < d
              · have hxd' : (x : Int) + 1 < (d : Int) := by omega
                have HS := hide (HO.out.stop hik (by rw [hx]; exact hxd))
                have HRn : Hid ((wr.setCell ⟨w.heap.size, i, none⟩ (.int .i64 ((x : Int) + 1))).rowIs w.heap.size 3 k (odRow (updN T i (T i + 1)))) := by
                  refine (HR.out.set i _).congr fun j _ => ?_
                  unfold updN
                  simp only [odRow]
                  split
                  · rw [HX.out]; rfl
                  · rfl
                have HBn : Hid (Below w.heap.size w (wr.setCell ⟨w.heap.size, i, none⟩ (.int .i64 ((x : Int) + 1)))) := HB.out.setCell (Nat.le_refl _) _
                have hne : ((i : Int) == (k : Int)) = false := by simp; omega
                have HLt : Hid (c1 < d ^ k) := by show _ < _; have := odo_lt k HS.out.1; rw [HS.out.2] at this; exact this
                clear hx
                go_wp2
                go_roundw
                case rel => exact ⟨c1, _, by go_num, ⟨HS.out.2, HS.out.1⟩, HLt, HRn, HBn⟩
                case measure => simp only [intOf, Int.toNat_natCast]; have := HC1.out; have := HLt.out; omega
              · have hxd' : ¬ (x : Int) + 1 < (d : Int) := by omega
                have HS := hide (HO.out.next hik (by rw [hx]; exact hxd))
                have HRn : Hid (((wr.setCell ⟨w.heap.size, i, none⟩ (.int .i64 ((x : Int) + 1))).setCell ⟨w.heap.size, i, none⟩ (.int .i64 0)).rowIs w.heap.size 3 k (odRow (updN T i 0))) := by
                  refine ((HR.out.set i _).set i _).congr fun j _ => ?_
                  unfold updN
                  simp only [odRow]
                  split
                  · rfl
                  · rfl
                have HBn : Hid (Below w.heap.size w ((wr.setCell ⟨w.heap.size, i, none⟩ (.int .i64 ((x : Int) + 1))).setCell ⟨w.heap.size, i, none⟩ (.int .i64 0))) := (HB.out.setCell (Nat.le_refl _) _).setCell (Nat.le_refl _) _
                clear hx
                go_wp2
                go_roundw
                case rel => exact ⟨i + 1, _, by go_num, by omega, HS, HRn, HBn⟩
                case measure => simp [intOf]; omega
            · obtain rfl : i = k := by omega
              have hi1 : ¬ (i : Int) < (i : Int) := by omega
              have HE := hide (HO.out.full.trans HZz.out)
              go_wp2
              go_ret
              exact ⟨by rw [← HE.out]; rfl, HB.out⟩
end Go.Proofs.Ytihkhnljjegopaa
