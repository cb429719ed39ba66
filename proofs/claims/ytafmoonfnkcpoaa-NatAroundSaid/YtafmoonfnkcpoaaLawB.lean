/- NatAround, the law's walk: sums and products the other way round. -/
import Derived.Test.YtafmoonfnkcpoaaLawA
namespace Go.Proofs.Ytafmoonfnkcpoaa
open Go.RowKit

/-- Two lists that are the same are told to be. -/
theorem refSame_true {B1 B2 : Nat} (p1 p2 : Option Addr) (l1 l2 c1 c2 : Nat) (xs ys : List Nat) (w : World) (k1 : l1 ≤ 4000000) (k2 : l2 ≤ 4000000)
    (r1 : Rd .u64 W64 B1 w p1 l1 xs) (r2 : Rd .u64 W64 B2 w p2 l2 ys) (h : xs = ys) :
    Calls Try.prog 8 #[.slice p1 l1 c1, .slice p2 l2 c2] w fun e w' => e = .returned (.bool true) ∧ Below w.heap.size w w' :=
  (refSame_any p1 p2 l1 l2 c1 c2 xs ys w k1 k2 r1 r2).mono fun _ _ ⟨he, n, hw⟩ => ⟨by rw [he, decide_eq_true h], by rw [hw]; exact below_drewN (Below.refl _ _) n⟩
theorem mul_len {B1 B2 : Nat} {w : World} {p1 p2 : Option Addr} {l1 l2 : Nat} {xs ys : List Nat} (r1 : Rd .u64 W64 B1 w p1 l1 xs) (r2 : Rd .u64 W64 B2 w p2 l2 ys) (a1 : l1 ≤ 200) (a2 : l2 ≤ 200) :
    (digs W64 (val W64 xs)).length + (digs W64 (val W64 ys)).length ≤ 1024 := by
  have h1 := (digs_length_le two_le_W64 (val W64 xs) 200).2 (r1.val_lt W64_pos a1)
  have h2 := (digs_length_le two_le_W64 (val W64 ys) 200).2 (r2.val_lt W64_pos a2)
  omega
theorem add_lt {x y n : Nat} (hx : x < W64 ^ n) (hy : y < W64 ^ n) : x + y < W64 ^ (n + 1) := by
  have : 2 * W64 ^ n ≤ W64 ^ (n + 1) := by rw [Nat.pow_succ, Nat.mul_comm]; exact Nat.mul_le_mul_left _ two_le_W64
  omega

set_option maxHeartbeats 4000000 in
theorem natAround_walk (p1 p2 : Option Addr) (l1 l2 c1 c2 : Nat) (xs ys : List Nat) (w : World) (h1 : l1 ≤ c1) (h2 : l2 ≤ c2)
    (r1 : Rd .u64 W64 w.heap.size w p1 l1 xs) (r2 : Rd .u64 W64 w.heap.size w p2 l2 ys) :
    Calls Try.prog 4 #[.slice p1 l1 c1, .slice p2 l2 c2] w fun e w' => e = .returned (.bool true) ∧ Below w.heap.size w w' := by
  by_cases a1 : 40 < l1
  · go_enter Try.func4, Try.ntmps4
    go_wp2_with fail
    refine (awake_any w).mono ?_
    rintro e w1 ⟨rfl, hb1⟩
    go_wp2
    go_ret
    exact ⟨rfl, hb1⟩
  by_cases a2 : 40 < l2
  · go_enter Try.func4, Try.ntmps4
    go_wp2_with fail
    refine (awake_any w).mono ?_
    rintro e w1 ⟨rfl, hb1⟩
    go_wp2
    go_ret
    exact ⟨rfl, hb1⟩
  have a3 : l1 ≤ 40 := by omega
  have a4 : l2 ≤ 40 := by omega
  clear a1 a2
  obtain ⟨x, hx⟩ : ∃ x, x = val W64 xs := ⟨_, rfl⟩
  obtain ⟨y, hy⟩ : ∃ y, y = val W64 ys := ⟨_, rfl⟩
  have bx : Hid (x < W64 ^ 40) := Lib.hid (by rw [hx]; exact r1.val_lt W64_pos a3)
  have byy : Hid (y < W64 ^ 40) := Lib.hid (by rw [hy]; exact r2.val_lt W64_pos a4)
  have bxy : Hid (x * y < W64 ^ 80) := Lib.hid (by rw [show W64 ^ 80 = W64 ^ 40 * W64 ^ 40 from by rw [← Nat.pow_add]]; exact Nat.mul_lt_mul'' bx.out byy.out)
  have byx : Hid (y * x < W64 ^ 80) := Lib.hid (by rw [Nat.mul_comm]; exact bxy.out)
  have bs : Hid (x + y < W64 ^ 41) := Lib.hid (add_lt bx.out byy.out)
  have bs2 : Hid (y + x < W64 ^ 41) := Lib.hid (by rw [Nat.add_comm]; exact bs.out)
  have HX := Lib.hid hx
  have HY := Lib.hid hy
  clear hx hy
  go_enter Try.func4, Try.ntmps4
  go_wp2_with fail
  refine (awake_any w).mono ?_
  rintro e w1 ⟨rfl, hb1⟩
  replace r1 := r1.next hb1
  replace r2 := r2.next hb1
  go_wp2_with fail
  refine (natMul_any p1 p2 l1 l2 c1 c2 xs ys w1 h1 h2 (by omega) (by omega) r1 r2 (Nat.le_refl _) (Nat.le_refl _) (mul_len r1 r2 (by omega) (by omega))).mono ?_
  rintro e w2 ⟨q, m, c, rfl, hmc, hq, hR, hb⟩
  rw [← HX.out, ← HY.out] at hR
  replace r1 := r1.next hb
  replace r2 := r2.next hb
  replace hb1 := below_next hb1 hb
  have s2 : m ≤ 80 := hR.short two_le_W64 bxy.out
  clear hb hmc hq
  go_wp2_with fail
  refine (natMul_any p2 p1 l2 l1 c2 c1 ys xs w2 h2 h1 (by omega) (by omega) r2 r1 (Nat.le_refl _) (Nat.le_refl _) (mul_len r2 r1 (by omega) (by omega))).mono ?_
  rintro e w3 ⟨q3, m3, c3, rfl, hmc, hq, hR3, hb⟩
  rw [← HX.out, ← HY.out] at hR3
  replace r1 := r1.next hb
  replace r2 := r2.next hb
  replace hR := hR.next hb
  replace hb1 := below_next hb1 hb
  have s3 : m3 ≤ 80 := hR3.short two_le_W64 byx.out
  clear hb hmc hq
  go_wp2_with fail
  refine (natAdd_any p1 p2 l1 l2 c1 c2 xs ys w3 h1 h2 (by omega) (by omega) r1 r2 (Nat.le_refl _) (Nat.le_refl _)).mono ?_
  rintro e w4 ⟨q4, m4, c4, rfl, hmc4, hq, hR4, hb⟩
  rw [← HX.out, ← HY.out] at hR4
  replace r1 := r1.next hb
  replace r2 := r2.next hb
  replace hR := hR.next hb
  replace hR3 := hR3.next hb
  replace hb1 := below_next hb1 hb
  have s4 : m4 ≤ 41 := hR4.short two_le_W64 bs.out
  clear hb hq
  go_wp2_with fail
  refine (natSub_any q4 p2 m4 l2 c4 c2 _ ys w4 hmc4 h2 (by omega) (by omega) hR4 r2 (Nat.le_refl _) (by rw [val_digs two_le_W64, ← HY.out]; omega)).mono ?_
  rw [val_digs two_le_W64, ← HY.out, Nat.add_sub_cancel]
  rintro e w5 ⟨q5, m5, c5, rfl, hmc, hq, hR5, hb⟩
  replace r1 := r1.next hb
  replace r2 := r2.next hb
  replace hR := hR.next hb
  replace hR3 := hR3.next hb
  replace hb1 := below_next hb1 hb
  have s5 : m5 ≤ 40 := hR5.short two_le_W64 bx.out
  clear hb hq hmc hR4
  go_wp2_with fail
  have hal : ∀ o, Below w5.heap.size w5 (w5.alloc o) := fun o => (Below.refl _ _).alloc (Nat.le_refl _) o
  have rone : ∀ W, W = w5.alloc (.cells #[.int .u64 1, .int .u64 0] 34) → Rd .u64 W64 W.heap.size W (some ⟨w5.heap.size, 0, none⟩) 2 [1, 0] := by
    rintro W rfl
    have := two_le_W64
    refine ⟨rfl, fun i hi => ?_, fun i hi => ?_⟩
    · match i, hi with
      | 0, _ => rw [nth_cons_zero]; omega
      | 1, _ => rw [nth_cons_succ, nth_cons_zero]; omega
    · match i, hi with
      | 0, _ => exact ⟨_, _, rfl, by simp, by rw [nth_cons_zero]; simp [go_sem]⟩
      | 1, _ => exact ⟨_, _, rfl, by simp, by rw [nth_cons_succ, nth_cons_zero]; simp [go_sem]⟩
  obtain ⟨W6, hW6⟩ : ∃ W6, W6 = w5.alloc (.cells #[.int .u64 1, .int .u64 0] 34) := ⟨_, rfl⟩
  have ro := rone W6 hW6
  have hbW : Below w5.heap.size w5 W6 := by rw [hW6]; exact hal _
  rw [← hW6]
  replace r1 := r1.next hbW
  replace r2 := r2.next hbW
  replace hR := hR.next hbW
  replace hR3 := hR3.next hbW
  replace hR5 := hR5.next hbW
  replace hb1 := below_next hb1 hbW
  clear hW6 rone hal hbW
  refine (natMul_any p1 _ l1 2 c1 2 xs [1, 0] W6 h1 (by omega) (by omega) (by omega) r1 ro (Nat.le_refl _) (Nat.le_refl _) (mul_len r1 ro (by omega) (by omega))).mono ?_
  rw [show val W64 [1, 0] = 1 by simp [val_cons, val_nil], Nat.mul_one, ← HX.out]
  rintro e w7 ⟨q7, m7, c7, rfl, hmc, hq, hR7, hb⟩
  replace r1 := r1.next hb
  replace r2 := r2.next hb
  replace hR := hR.next hb
  replace hR3 := hR3.next hb
  replace hR5 := hR5.next hb
  replace hb1 := below_next hb1 hb
  have s7 : m7 ≤ 40 := hR7.short two_le_W64 bx.out
  clear hb hq hmc ro
  go_wp2_with fail
  refine (refSame_true q q3 m m3 c c3 _ _ w7 (by omega) (by omega) hR hR3 (by rw [Nat.mul_comm])).mono ?_
  rintro e w8 ⟨rfl, hb⟩
  replace r1 := r1.next hb
  replace r2 := r2.next hb
  replace hR5 := hR5.next hb
  replace hR7 := hR7.next hb
  replace hb1 := below_next hb1 hb
  clear hb hR hR3
  go_wp2_with fail
  refine (natAdd_any p1 p2 l1 l2 c1 c2 xs ys w8 h1 h2 (by omega) (by omega) r1 r2 (Nat.le_refl _) (Nat.le_refl _)).mono ?_
  rintro e w9 ⟨q9, m9, c9, rfl, hmc, hq, hR9, hb⟩
  rw [← HX.out, ← HY.out] at hR9
  replace r1 := r1.next hb
  replace r2 := r2.next hb
  replace hR5 := hR5.next hb
  replace hR7 := hR7.next hb
  replace hb1 := below_next hb1 hb
  have s9 : m9 ≤ 41 := hR9.short two_le_W64 bs.out
  clear hb hq hmc
  go_wp2_with fail
  refine (natAdd_any p2 p1 l2 l1 c2 c1 ys xs w9 h2 h1 (by omega) (by omega) r2 r1 (Nat.le_refl _) (Nat.le_refl _)).mono ?_
  rintro e w10 ⟨q10, m10, c10, rfl, hmc, hq, hR10, hb⟩
  rw [← HX.out, ← HY.out] at hR10
  replace r1 := r1.next hb
  replace hR5 := hR5.next hb
  replace hR7 := hR7.next hb
  replace hR9 := hR9.next hb
  replace hb1 := below_next hb1 hb
  have s10 : m10 ≤ 41 := hR10.short two_le_W64 bs2.out
  clear hb hq hmc r2
  go_wp2_with fail
  refine (refSame_true q9 q10 m9 m10 c9 c10 _ _ w10 (by omega) (by omega) hR9 hR10 (by rw [Nat.add_comm])).mono ?_
  rintro e w11 ⟨rfl, hb⟩
  replace r1 := r1.next hb
  replace hR5 := hR5.next hb
  replace hR7 := hR7.next hb
  replace hb1 := below_next hb1 hb
  clear hb hR9 hR10
  go_wp2_with fail
  refine (plain_any p1 l1 c1 xs w11 h1 (by omega) r1).mono ?_
  rintro e w12 ⟨q12, m12, c12, rfl, hmc, hq, hR12, hb⟩
  rw [← HX.out] at hR12
  replace r1 := r1.next hb
  replace hR5 := hR5.next hb
  replace hR7 := hR7.next hb
  replace hb1 := below_next hb1 hb
  have s12 : m12 ≤ 40 := hR12.short two_le_W64 bx.out
  clear hb hq hmc
  go_wp2_with fail
  refine (refSame_true q5 q12 m5 m12 c5 c12 _ _ w12 (by omega) (by omega) hR5 hR12 rfl).mono ?_
  rintro e w13 ⟨rfl, hb⟩
  replace r1 := r1.next hb
  replace hR7 := hR7.next hb
  replace hb1 := below_next hb1 hb
  clear hb hR5 hR12
  go_wp2_with fail
  refine (plain_any p1 l1 c1 xs w13 h1 (by omega) r1).mono ?_
  rintro e w14 ⟨q14, m14, c14, rfl, hmc, hq, hR14, hb⟩
  rw [← HX.out] at hR14
  replace hR7 := hR7.next hb
  replace hb1 := below_next hb1 hb
  have s14 : m14 ≤ 40 := hR14.short two_le_W64 bx.out
  clear hb hq hmc r1
  go_wp2_with fail
  refine (refSame_true q7 q14 m7 m14 c7 c14 _ _ w14 (by omega) (by omega) hR7 hR14 rfl).mono ?_
  rintro e w15 ⟨rfl, hb⟩
  replace hb1 := below_next hb1 hb
  go_wp2
  go_ret
  exact ⟨rfl, hb1⟩
end Go.Proofs.Ytafmoonfnkcpoaa
