/- NatOrder, the law's walk: a sum is no less; by so many bits it is at least and below a power of two. -/
import Derived.Test.YtafmoonfnkcpoaaLawB
namespace Go.Proofs.Ytafmoonfnkcpoaa
open Go.RowKit

theorem one_pow_lt (n m : Nat) (h : n < 64 * m) : 1 * 2 ^ n < W64 ^ m := by
  rw [Nat.one_mul, W64_pow, ← Nat.pow_mul]; exact Nat.pow_lt_pow_right (by omega) h
theorem nbits_bound {v : Nat} (m : Nat) (h : v < W64 ^ m) : nbits v ≤ 64 * m := (nbits_le v _).2 (by rw [W64_pow, ← Nat.pow_mul] at h; exact h)
theorem cmpN_neg_swap (x y : Nat) : cmpN x y = -cmpN y x := by
  unfold cmpN; split <;> split <;> omega
theorem cmpN_bd (x y : Nat) : -1 ≤ cmpN x y ∧ cmpN x y ≤ 1 := by
  unfold cmpN; split
  · omega
  · split <;> omega
/-- Cmp, where no more is asked of the world than that what was there stays. -/
theorem natCmp_keeps {B1 B2 : Nat} (p1 p2 : Option Addr) (l1 l2 c1 c2 : Nat) (xs ys : List Nat) (w : World) (h1 : l1 ≤ c1) (h2 : l2 ≤ c2) (k1 : l1 ≤ 1000000) (k2 : l2 ≤ 1000000)
    (r1 : Rd .u64 W64 B1 w p1 l1 xs) (r2 : Rd .u64 W64 B2 w p2 l2 ys) {c : Int} (hc : cmpN (val W64 xs) (val W64 ys) = c) :
    Calls Try.prog 18 #[.slice p1 l1 c1, .slice p2 l2 c2] w fun e w' => e = .returned (.int .i64 c) ∧ Below w.heap.size w w' :=
  (natCmp_any p1 p2 l1 l2 c1 c2 xs ys w h1 h2 k1 k2 r1 r2).mono fun _ _ ⟨he, n, hw⟩ => ⟨by rw [he, hc], by rw [hw]; exact below_drewN (Below.refl _ _) n⟩

set_option maxHeartbeats 4000000 in
theorem natOrder_walk (p1 p2 : Option Addr) (l1 l2 c1 c2 : Nat) (xs ys : List Nat) (w : World) (h1 : l1 ≤ c1) (h2 : l2 ≤ c2)
    (r1 : Rd .u64 W64 w.heap.size w p1 l1 xs) (r2 : Rd .u64 W64 w.heap.size w p2 l2 ys) :
    Calls Try.prog 5 #[.slice p1 l1 c1, .slice p2 l2 c2] w fun e w' => e = .returned (.bool true) ∧ Below w.heap.size w w' := by
  by_cases a1 : 40 < l1
  · go_enter Try.func5, Try.ntmps5
    go_wp2_with fail
    refine (awake_any w).mono ?_
    rintro e w1 ⟨rfl, hb1⟩
    go_wp2
    go_ret
    exact ⟨rfl, hb1⟩
  by_cases a2 : 40 < l2
  · go_enter Try.func5, Try.ntmps5
    go_wp2_with fail
    refine (awake_any w).mono ?_
    rintro e w1 ⟨rfl, hb1⟩
    go_wp2
    go_ret
    exact ⟨rfl, hb1⟩
  have a3 : l1 ≤ 40 := by omega
  have a4 : l2 ≤ 40 := by omega
  clear a1 a2
  obtain ⟨x, hx⟩ : ∃ x, x = val W64 xs := ⟨_, rfl⟩
  obtain ⟨y, hy⟩ : ∃ y, y = val W64 ys := ⟨_, rfl⟩
  have bx : Hid (x < W64 ^ 40) := Lib.hid (by rw [hx]; exact r1.val_lt W64_pos a3)
  have byy : Hid (y < W64 ^ 40) := Lib.hid (by rw [hy]; exact r2.val_lt W64_pos a4)
  have bs : Hid (x + y < W64 ^ 41) := Lib.hid (add_lt bx.out byy.out)
  have HX := Lib.hid hx
  have HY := Lib.hid hy
  clear hx hy
  obtain ⟨v, hv⟩ : ∃ v, v = x + y := ⟨_, rfl⟩
  obtain ⟨n, hn⟩ : ∃ n, n = nbits v := ⟨_, rfl⟩
  have hn41 : n ≤ 2624 := by
    rw [hn]
    exact nbits_bound 41 (by rw [hv]; exact bs.out)
  have HV := Lib.hid hv
  have HN := Lib.hid hn
  have bv : Hid (v < W64 ^ 41) := Lib.hid (by rw [hv]; exact bs.out)
  have bp : Hid (1 * 2 ^ n < W64 ^ 42) := Lib.hid (by
    exact one_pow_lt n 42 (by omega))
  have bq : Hid (1 * 2 ^ n / 2 ^ 1 < W64 ^ 42) := Lib.hid (Nat.lt_of_le_of_lt (Nat.div_le_self _ _) bp.out)
  have bq2 : Hid (1 * 2 ^ n / 2 ^ 1 * 2 ^ 0 < W64 ^ 42) := Lib.hid (by rw [Nat.pow_zero, Nat.mul_one]; exact bq.out)
  clear hv hn
  obtain ⟨k1, hk1⟩ : ∃ k1, cmpN v x = k1 := ⟨_, rfl⟩
  have k1p : 0 ≤ k1 := by rw [← hk1]; have := cmpN_nonneg (x := v) (y := x) (by have := HV.out; omega); omega
  obtain ⟨k2, hk2⟩ : ∃ k2, cmpN v (1 * 2 ^ n) = k2 := ⟨_, rfl⟩
  have k2n : k2 < 0 := by
    rw [← hk2]; exact cmpN_neg (by rw [Nat.one_mul]; exact (nbits_le v n).1 (by rw [HN.out]; exact Nat.le_refl _))
  obtain ⟨k3, hk3⟩ : ∃ k3, cmpN v (1 * 2 ^ n / 2 ^ 1 * 2 ^ 0) = k3 := ⟨_, rfl⟩
  have k3p : n = 0 ∨ 0 ≤ k3 := by
    by_cases h0 : n = 0
    · exact Or.inl h0
    · right
      have hvp : 0 < v := by
        rcases Nat.eq_zero_or_pos v with h | h
        · exfalso; apply h0; rw [HN.out, h, nbits_zero]
        · exact h
      obtain ⟨k, e1, e2, e3⟩ := nbits_pos hvp
      have hnk : n = k + 1 := by rw [HN.out, e1]
      rw [← hk3, hnk, Nat.one_mul, Nat.pow_succ, Nat.pow_one, Nat.mul_div_cancel _ (by omega), Nat.pow_zero, Nat.mul_one]
      have := cmpN_nonneg e2
      omega
  obtain ⟨k6, hk6⟩ : ∃ k6, cmpN y x = k6 := ⟨_, rfl⟩
  have hk5 : cmpN x y = -k6 := by rw [cmpN_neg_swap, hk6]
  have b6 := cmpN_bd y x
  rw [hk6] at b6
  obtain ⟨b6l, b6h⟩ := b6
  have K1 := Lib.hid hk1
  have K2 := Lib.hid hk2
  have K3 := Lib.hid hk3
  have K5 := Lib.hid hk5
  have K6 := Lib.hid hk6
  have K3P := Lib.hid k3p
  clear hk1 hk2 hk3 hk5 hk6 k3p
  go_enter Try.func5, Try.ntmps5
  go_wp2_with fail
  refine (awake_any w).mono ?_
  rintro e w1 ⟨rfl, hb1⟩
  replace r1 := r1.next hb1
  replace r2 := r2.next hb1
  go_wp2_with fail
  refine (natAdd_any p1 p2 l1 l2 c1 c2 xs ys w1 h1 h2 (by omega) (by omega) r1 r2 (Nat.le_refl _) (Nat.le_refl _)).mono ?_
  rintro e w2 ⟨q, m, c, rfl, hmc, hq, hR, hb⟩
  rw [← HX.out, ← HY.out, ← HV.out] at hR
  replace r1 := r1.next hb
  replace r2 := r2.next hb
  replace hb1 := below_next hb1 hb
  have s2 : m ≤ 41 := hR.short two_le_W64 bv.out
  clear hb hq
  go_wp2_with fail
  refine (natLen_any q m c _ w2 hmc (by omega) hR).mono ?_
  rw [val_digs two_le_W64, ← HN.out]
  rintro e w' ⟨rfl, rfl⟩
  go_wp2_with fail
  have hal : ∀ o, Below w2.heap.size w2 (w2.alloc o) := fun o => (Below.refl _ _).alloc (Nat.le_refl _) o
  have rone : ∀ W, W = w2.alloc (.cells #[.int .u64 1] 34) → Rd .u64 W64 W.heap.size W (some ⟨w2.heap.size, 0, none⟩) 1 [1] := by
    rintro W rfl
    have := two_le_W64
    refine ⟨rfl, fun i hi => ?_, fun i hi => ?_⟩
    · obtain rfl : i = 0 := by omega
      rw [nth_cons_zero]; omega
    · obtain rfl : i = 0 := by omega
      exact ⟨_, _, rfl, by simp, by rw [nth_cons_zero]; simp [go_sem]⟩
  obtain ⟨W3, hW3⟩ : ∃ W3, W3 = w2.alloc (.cells #[.int .u64 1] 34) := ⟨_, rfl⟩
  have ro := rone W3 hW3
  have hbW : Below w2.heap.size w2 W3 := by rw [hW3]; exact hal _
  rw [← hW3]
  replace r1 := r1.next hbW
  replace r2 := r2.next hbW
  replace hR := hR.next hbW
  replace hb1 := below_next hb1 hbW
  clear hW3 rone hal hbW
  refine (natShl_any _ 1 1 n (n / 64) (n % 64) [1] W3 (by omega) (by omega) ro (Nat.le_refl _) (by rw [val_one]; exact Nat.le_trans ((digs_length_le two_le_W64 1 1).2 (by have := two_le_W64; rw [Nat.pow_one]; omega)) (by omega)) (by omega) rfl rfl).mono ?_
  rw [val_one]
  rintro e w4 ⟨q4, m4, c4, rfl, hmc4, hq, hR4, hb⟩
  replace r1 := r1.next hb
  replace r2 := r2.next hb
  replace hR := hR.next hb
  replace hb1 := below_next hb1 hb
  have s4 : m4 ≤ 42 := hR4.short two_le_W64 bp.out
  clear hb hq ro
  go_wp2_with fail
  have C1 : Calls Try.prog 17 #[.slice q4 m4 c4, .int .i64 1] w4 _ := natShr_any q4 m4 c4 1 1 _ w4 hmc4 (by omega) hR4 (Nat.le_refl _) (Or.inl rfl) (by omega)
  refine C1.mono ?_
  clear C1
  rw [val_digs two_le_W64]
  rintro e w5 ⟨q5, m5, c5, rfl, hmc5, hq, hR5, hb⟩
  replace r1 := r1.next hb
  replace r2 := r2.next hb
  replace hR := hR.next hb
  replace hR4 := hR4.next hb
  replace hb1 := below_next hb1 hb
  have s5 : m5 ≤ 42 := hR5.short two_le_W64 bq.out
  clear hb hq
  go_wp2_with fail
  have C1 : Calls Try.prog 16 #[.slice q5 m5 c5, .int .i64 0] w5 _ := natShl_any q5 m5 c5 0 0 0 _ w5 hmc5 (by omega) hR5 (Nat.le_refl _) (by rw [val_digs two_le_W64]; exact Nat.le_trans ((digs_length_le two_le_W64 _ 42).2 bq.out) (by omega)) (by omega) rfl rfl
  refine C1.mono ?_
  clear C1
  rw [val_digs two_le_W64]
  rintro e w6 ⟨q6, m6, c6, rfl, hmc6, hq, hR6, hb⟩
  replace r1 := r1.next hb
  replace r2 := r2.next hb
  replace hR := hR.next hb
  replace hR4 := hR4.next hb
  replace hb1 := below_next hb1 hb
  have s6 : m6 ≤ 42 := hR6.short two_le_W64 bq2.out
  clear hb hq hR5
  go_wp2_with fail
  refine (natCmp_keeps q p1 m l1 c c1 _ xs w6 hmc h1 (by omega) (by omega) hR r1 (c := k1) (by rw [val_digs two_le_W64, ← HX.out, K1.out])).mono ?_
  rintro e w7 ⟨rfl, hb⟩
  replace r1 := r1.next hb
  replace r2 := r2.next hb
  replace hR := hR.next hb
  replace hR4 := hR4.next hb
  replace hR6 := hR6.next hb
  replace hb1 := below_next hb1 hb
  clear hb
  go_wp2_with fail
  refine (natCmp_keeps q q4 m m4 c c4 _ _ w7 hmc hmc4 (by omega) (by omega) hR hR4 (c := k2) (by rw [val_digs two_le_W64, val_digs two_le_W64, K2.out])).mono ?_
  rintro e w8 ⟨rfl, hb⟩
  replace r1 := r1.next hb
  replace r2 := r2.next hb
  replace hR := hR.next hb
  replace hR6 := hR6.next hb
  replace hb1 := below_next hb1 hb
  clear hb hR4
  by_cases h0 : n = 0
  · subst h0
    go_wp2_with fail
    refine (natCmp_keeps p1 p2 l1 l2 c1 c2 xs ys w8 h1 h2 (by omega) (by omega) r1 r2 (c := -k6) (by rw [← HX.out, ← HY.out, K5.out])).mono ?_
    rintro e w9 ⟨rfl, hb⟩
    replace r1 := r1.next hb
    replace r2 := r2.next hb
    replace hb1 := below_next hb1 hb
    clear hb
    go_wp2_with fail
    refine (natCmp_keeps p2 p1 l2 l1 c2 c1 ys xs w9 h2 h1 (by omega) (by omega) r2 r1 (c := k6) (by rw [← HX.out, ← HY.out, K6.out])).mono ?_
    rintro e w10 ⟨rfl, hb⟩
    replace hb1 := below_next hb1 hb
    go_wp2
    go_ret
    exact ⟨rfl, hb1⟩
  · have k3q : 0 ≤ k3 := by
      rcases K3P.out with h | h
      · exact absurd h h0
      · exact h
    have hnp : 0 < n := by omega
    clear h0
    go_wp2_with fail
    refine (natCmp_keeps q q6 m m6 c c6 _ _ w8 hmc hmc6 (by omega) (by omega) hR hR6 (c := k3) (by rw [val_digs two_le_W64, val_digs two_le_W64, K3.out])).mono ?_
    rintro e w8' ⟨rfl, hb⟩
    replace r1 := r1.next hb
    replace r2 := r2.next hb
    replace hb1 := below_next hb1 hb
    clear hb hR hR6
    go_wp2_with fail
    refine (natCmp_keeps p1 p2 l1 l2 c1 c2 xs ys w8' h1 h2 (by omega) (by omega) r1 r2 (c := -k6) (by rw [← HX.out, ← HY.out, K5.out])).mono ?_
    rintro e w9 ⟨rfl, hb⟩
    replace r1 := r1.next hb
    replace r2 := r2.next hb
    replace hb1 := below_next hb1 hb
    clear hb
    go_wp2_with fail
    refine (natCmp_keeps p2 p1 l2 l1 c2 c1 ys xs w9 h2 h1 (by omega) (by omega) r2 r1 (c := k6) (by rw [← HX.out, ← HY.out, K6.out])).mono ?_
    rintro e w10 ⟨rfl, hb⟩
    replace hb1 := below_next hb1 hb
    go_wp2
    go_ret
    exact ⟨rfl, hb1⟩
end Go.Proofs.Ytafmoonfnkcpoaa
