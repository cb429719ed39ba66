/- NatProducts, the law's walk: any two numbers of at most 40 limbs have the product that the document says. -/
import Derived.Test.YtafmoonfnkcpoaaAwake
import Derived.Test.YtafmoonfnkcpoaaNatG
namespace Go.Proofs.Ytafmoonfnkcpoaa
open Go.RowKit

theorem pow_W64 (n m : Nat) (h : m = 4 * n) : W64 ^ n = 65536 ^ m := by rw [W64_four, ← Nat.pow_mul, h]

set_option maxHeartbeats 2000000 in
theorem natProducts_walk (p1 p2 : Option Addr) (l1 l2 c1 c2 : Nat) (xs ys : List Nat) (w : World) (h1 : l1 ≤ c1) (h2 : l2 ≤ c2)
    (r1 : Rd .u64 W64 w.heap.size w p1 l1 xs) (r2 : Rd .u64 W64 w.heap.size w p2 l2 ys) :
    Calls Try.prog 3 #[.slice p1 l1 c1, .slice p2 l2 c2] w fun e w' => e = .returned (.bool true) ∧ Below w.heap.size w w' := by
  by_cases a1 : 40 < l1
  · go_enter Try.func3, Try.ntmps3
    go_wp2_with fail
    refine (awake_any w).mono ?_
    rintro e w1 ⟨rfl, hb1⟩
    go_wp2
    go_ret
    exact ⟨rfl, hb1⟩
  by_cases a2 : 40 < l2
  · go_enter Try.func3, Try.ntmps3
    go_wp2_with fail
    refine (awake_any w).mono ?_
    rintro e w1 ⟨rfl, hb1⟩
    go_wp2
    go_ret
    exact ⟨rfl, hb1⟩
  have a3 : l1 ≤ 40 := by omega
  have a4 : l2 ≤ 40 := by omega
  clear a1 a2
  obtain ⟨x, hx⟩ : ∃ x, x = val W64 xs := ⟨_, rfl⟩
  obtain ⟨y, hy⟩ : ∃ y, y = val W64 ys := ⟨_, rfl⟩
  have bx : Hid (x < W64 ^ 40) := Lib.hid (by rw [hx]; exact r1.val_lt W64_pos a3)
  have byy : Hid (y < W64 ^ 40) := Lib.hid (by rw [hy]; exact r2.val_lt W64_pos a4)
  have bxy : Hid (x * y < W64 ^ 80) := Lib.hid (by rw [show W64 ^ 80 = W64 ^ 40 * W64 ^ 40 from by rw [← Nat.pow_add]]; exact Nat.mul_lt_mul'' bx.out byy.out)
  have hlen : Hid ((digs W64 (val W64 xs)).length + (digs W64 (val W64 ys)).length ≤ 1024) := Lib.hid (by
    have h1 := (digs_length_le two_le_W64 (val W64 xs) 40).2 (by rw [← hx]; exact bx.out)
    have h2 := (digs_length_le two_le_W64 (val W64 ys) 40).2 (by rw [← hy]; exact byy.out)
    omega)
  have HX := Lib.hid hx
  have HY := Lib.hid hy
  clear hx hy
  go_enter Try.func3, Try.ntmps3
  go_wp2_with fail
  refine (awake_any w).mono ?_
  rintro e w1 ⟨rfl, hb1⟩
  replace r1 := r1.next hb1
  replace r2 := r2.next hb1
  go_wp2_with fail
  refine (natMul_any p1 p2 l1 l2 c1 c2 xs ys w1 h1 h2 (by omega) (by omega) r1 r2 (Nat.le_refl _) (Nat.le_refl _) hlen.out).mono ?_
  rintro e w2 ⟨q, m, c, rfl, hmc, hq, hR, hb⟩
  rw [← HX.out, ← HY.out] at hR
  replace r1 := r1.next hb
  replace r2 := r2.next hb
  replace hb1 := below_next hb1 hb
  clear hb
  go_wp2_with fail
  refine (refDigits_any p1 l1 c1 xs w2 h1 (by omega) r1 (Nat.le_refl _)).mono ?_
  rintro e w3 ⟨q3, n3, c3, rfl, hc3, hq3, hR3, hb⟩
  rw [← HX.out] at hR3
  replace r2 := r2.next hb
  replace hR := hR.next hb
  replace hb1 := below_next hb1 hb
  clear hb r1
  go_wp2_with fail
  refine (refDigits_any p2 l2 c2 ys w3 h2 (by omega) r2 (Nat.le_refl _)).mono ?_
  rintro e w4 ⟨q4, n4, c4, rfl, hc4, hq4, hR4, hb⟩
  rw [← HY.out] at hR4
  replace hR := hR.next hb
  replace hR3 := hR3.next hb
  replace hb1 := below_next hb1 hb
  have s3 : n3 ≤ 160 := hR3.short (by omega) (by rw [← pow_W64 40 160 rfl]; exact bx.out)
  have s4 : n4 ≤ 160 := hR4.short (by omega) (by rw [← pow_W64 40 160 rfl]; exact byy.out)
  clear hb r2
  go_wp2_with fail
  refine (refMul_any q3 q4 n3 n4 c3 c4 _ _ w4 hc3 hc4 (by omega) (by omega) hR3 hR4 (Nat.le_refl _) (Nat.le_refl _)).mono ?_
  rintro e w5 ⟨q5, n5, c5, rfl, hc5, hq5, hR5, hb⟩
  rw [val_digs (by omega), val_digs (by omega)] at hR5
  replace hR := hR.next hb
  replace hb1 := below_next hb1 hb
  have s5 : n5 ≤ 320 := hR5.short (by omega) (by rw [← pow_W64 80 320 rfl]; exact bxy.out)
  clear hb hR3 hR4
  go_wp2_with fail
  refine (refLimbs_any q5 n5 c5 _ w5 hc5 (by omega) hR5 (Nat.le_refl _)).mono ?_
  rintro e w6 ⟨q6, n6, c6, rfl, hc6, hq6, hR6, hb⟩
  rw [val_digs (by omega)] at hR6
  replace hR := hR.next hb
  replace hb1 := below_next hb1 hb
  have s6 : n6 ≤ 80 := hR6.short two_le_W64 bxy.out
  have s2 : m ≤ 80 := hR.short two_le_W64 bxy.out
  clear hb hR5
  go_wp2_with fail
  refine (refSame_any q q6 m n6 c c6 _ _ w6 (by omega) (by omega) hR hR6).mono ?_
  rintro e w7 ⟨rfl, n, rfl⟩
  have ht : Hid (decide (digs W64 (x * y) = digs W64 (x * y)) = true) := Lib.hid (by simp)
  rw [ht.out]
  go_wp2
  go_ret
  exact ⟨rfl, below_draws hb1 n⟩
end Go.Proofs.Ytafmoonfnkcpoaa
