/- NatShifts, the law's walk: any number of at most 100 limbs is moved up and down as the document says; what is moved up is moved down again. -/
import Derived.Test.YtafmoonfnkcpoaaDoorTools
import Derived.Test.YtafmoonfnkcpoaaDoorRefE
import Derived.Test.YtafmoonfnkcpoaaDoorAs
namespace Go.Proofs.YtafmoonfnkcpoaaDoor
open Go.RowKit

theorem times_pow_lt {x n a b c : Nat} (hx : x < W64 ^ a) (hn : n ≤ 64 * b) (hc : c = a + b) : x * 2 ^ n < W64 ^ c := by
  have h1 : 2 ^ n ≤ W64 ^ b := by rw [W64_pow, ← Nat.pow_mul]; exact Nat.pow_le_pow_right (by omega) hn
  rw [hc, Nat.pow_add]
  exact Nat.lt_of_lt_of_le (Nat.mul_lt_mul_of_pos_right hx (Nat.pow_pos (by omega))) (Nat.mul_le_mul_left _ h1)

set_option maxHeartbeats 8000000 in
theorem natShifts_walk (p1 : Option Addr) (l1 c1 : Nat) (N : Int) (xs : List Nat) (w : World) (h1 : l1 ≤ c1) (hN2 : N ≤ 9223372036854775807)
    (r1 : Rd .u64 W64 w.heap.size w p1 l1 xs) (hg : ErrVar w) :
    Calls Tryd.prog 4 #[.slice p1 l1 c1, .int .i64 N] w fun e w' => e = .returned (.bool true) ∧ Below w.heap.size w w' := by
  have HN2 := Lib.hid hN2
  clear hN2
  by_cases a1 : 100 < l1
  · go_enter Tryd.func4, Tryd.ntmps4
    go_wp2_with fail
    refine (awake_any w).mono ?_
    rintro e w1 ⟨rfl, hb1⟩
    go_wp2
    go_ret
    exact ⟨rfl, hb1⟩
  have a3 : l1 ≤ 100 := by omega
  clear a1
  by_cases a2 : 5000 < N ∧ N ≤ 65536
  · obtain ⟨a4, a5⟩ := a2
    go_enter Tryd.func4, Tryd.ntmps4
    go_wp2_with fail
    refine (awake_any w).mono ?_
    rintro e w1 ⟨rfl, hb1⟩
    go_wp2
    go_ret
    exact ⟨rfl, hb1⟩
  obtain ⟨x, hx⟩ : ∃ x, x = val W64 xs := ⟨_, rfl⟩
  have bx : Hid (x < W64 ^ 100) := Lib.hid (by rw [hx]; exact r1.val_lt W64_pos a3)
  have HX := Lib.hid hx
  clear hx
  by_cases hbad : N < 0 ∨ 65536 < N
  · obtain ⟨m, hm⟩ : ∃ m : Nat, m = N.toNat := ⟨_, rfl⟩
    have hmax : max N 0 = (m : Int) := by omega
    have HM : Hid (N = m ∨ N < 0 ∧ m = 0) := Lib.hid (by omega)
    have HM2 : Hid (m ≤ 9223372036854775807) := Lib.hid (by have := HN2.out; omega)
    have bd : Hid (x / 2 ^ m < W64 ^ 100) := Lib.hid (Nat.lt_of_le_of_lt (Nat.div_le_self _ _) bx.out)
    have HB : Hid (N < 0 ∨ 65536 < N ∨ 1024 < (digs W64 (val W64 xs)).length) := Lib.hid (by omega)
    clear hm a2
    rcases hbad with hN | hN
    all_goals
      go_enter Tryd.func4, Tryd.ntmps4
      go_wp2_with fail
      refine (awake_any w).mono ?_
      rintro e w1 ⟨rfl, hb1⟩
      replace hg := hg.below hb1
      replace r1 := r1.next hb1
      go_wp2_with fail
      refine (natShl_range p1 l1 c1 N xs w1 h1 (by omega) r1 HB.out).mono ?_
      rintro e w2 ⟨rfl, hb⟩
      replace r1 := r1.next hb
      replace hg := hg.below hb
      replace hb1 := below_next hb1 hb
      clear hb
      go_wp2_with fail
      refine (natShr_any p1 l1 c1 m N xs w2 h1 (by omega) r1 (Nat.le_refl _) HM.out HN2.out).mono ?_
      rintro e w3 ⟨q2, n2, c2, rfl, hc2, _, R2, hb⟩
      rw [← HX.out] at R2
      have s2 : n2 ≤ 100 := R2.short two_le_W64 bd.out
      replace r1 := r1.next hb
      replace hg := hg.below hb
      replace hb1 := below_next hb1 hb
      clear hb
      go_wp2_with fail
      refine (code_hit 7 (by omega) (by omega) w3 hg).mono ?_
      rintro e w4 ⟨rfl, hb⟩
      replace r1 := r1.next hb
      replace R2 := R2.next hb
      replace hg := hg.below hb
      replace hb1 := below_next hb1 hb
      clear hb
      go_wp2_with fail
      refine (refDigits_any p1 l1 c1 _ w4 h1 (by omega) r1 (Nat.le_refl _)).mono ?_
      rintro e w5 ⟨q3, n3, c3, rfl, hc3, _, R3, hb⟩
      rw [← HX.out] at R3
      have s3 : n3 ≤ 400 := R3.short (by omega) (by rw [← pow_W64 100 400 rfl]; exact bx.out)
      replace R2 := R2.next hb
      replace hg := hg.below hb
      replace hb1 := below_next hb1 hb
      clear hb r1
      go_wp2_with fail
      refine (refShr_any q3 n3 c3 m (m / 16) (m % 16) _ w5 hc3 (by omega) R3 (Nat.le_refl _) HM2.out rfl rfl).mono ?_
      rintro e w6 ⟨q4, n4, c4, rfl, hc4, _, R4, hb⟩
      rw [val_digs (by omega)] at R4
      have s4 : n4 ≤ 400 := R4.short (by omega) (by rw [← pow_W64 100 400 rfl]; exact bd.out)
      replace R2 := R2.next hb
      replace hg := hg.below hb
      replace hb1 := below_next hb1 hb
      clear hb R3
      go_wp2_with fail
      refine (refLimbs_any q4 n4 c4 _ w6 hc4 (by omega) R4 (Nat.le_refl _)).mono ?_
      rintro e w7 ⟨q5, n5, c5, rfl, hc5, _, R5, hb⟩
      rw [val_digs (by omega)] at R5
      have s5 : n5 ≤ 100 := R5.short two_le_W64 bd.out
      replace R2 := R2.next hb
      replace hg := hg.below hb
      replace hb1 := below_next hb1 hb
      clear hb R4
      go_wp2_with fail
      refine (refSame_true q2 q5 n2 n5 c2 c5 _ _ w7 (by omega) (by omega) R2 R5 rfl).mono ?_
      rintro e w8 ⟨rfl, hb⟩
      replace hg := hg.below hb
      replace hb1 := below_next hb1 hb
      clear hb R2 R5
      go_wp2
      go_ret
      exact ⟨rfl, hb1⟩
  · obtain ⟨n, rfl⟩ : ∃ n : Nat, N = n := ⟨N.toNat, by omega⟩
    have hn : n ≤ 5000 := by omega
    have hnI : (n : Int) ≤ 5000 := by omega
    have bd : Hid (x / 2 ^ n < W64 ^ 100) := Lib.hid (Nat.lt_of_le_of_lt (Nat.div_le_self _ _) bx.out)
    have bu : Hid (x * 2 ^ n < W64 ^ 179) := Lib.hid (times_pow_lt (b := 79) bx.out (by omega) rfl)
    have HD : Hid (x * 2 ^ n / 2 ^ n = x) := Lib.hid (Nat.mul_div_cancel _ (Nat.pow_pos (by omega)))
    have bq : Hid (x * 2 ^ n / 2 ^ n < W64 ^ 100) := Lib.hid (by rw [HD.out]; exact bx.out)
    have HL : Hid ((digs W64 (val W64 xs)).length ≤ 1024) := Lib.hid (Nat.le_trans ((digs_length_le two_le_W64 _ 100).2 (by rw [← HX.out]; exact bx.out)) (by omega))
    clear hbad a2
    go_enter Tryd.func4, Tryd.ntmps4
    go_wp2_with fail
    refine (awake_any w).mono ?_
    rintro e w1 ⟨rfl, hb1⟩
    replace hg := hg.below hb1
    replace r1 := r1.next hb1
    go_wp2_with fail
    refine (natShl_any p1 l1 c1 n (n / 64) (n % 64) xs w1 h1 (by omega) r1 (Nat.le_refl _) HL.out (by omega) rfl rfl).mono ?_
    rintro e w2 ⟨q2, n2, c2, rfl, hc2, _, R2, hb⟩
    rw [← HX.out] at R2
    have s2 : n2 ≤ 179 := R2.short two_le_W64 bu.out
    replace r1 := r1.next hb
    replace hg := hg.below hb
    replace hb1 := below_next hb1 hb
    clear hb
    go_wp2_with fail
    refine (natShr_any p1 l1 c1 n n xs w2 h1 (by omega) r1 (Nat.le_refl _) (Or.inl rfl) (by omega)).mono ?_
    rintro e w3 ⟨q3, n3, c3, rfl, hc3, _, R3, hb⟩
    rw [← HX.out] at R3
    have s3 : n3 ≤ 100 := R3.short two_le_W64 bd.out
    replace r1 := r1.next hb
    replace R2 := R2.next hb
    replace hg := hg.below hb
    replace hb1 := below_next hb1 hb
    clear hb
    go_wp2_with fail
    refine (refDigits_any p1 l1 c1 _ w3 h1 (by omega) r1 (Nat.le_refl _)).mono ?_
    rintro e w4 ⟨q4, n4, c4, rfl, hc4, _, R4, hb⟩
    rw [← HX.out] at R4
    have s4 : n4 ≤ 400 := R4.short (by omega) (by rw [← pow_W64 100 400 rfl]; exact bx.out)
    replace r1 := r1.next hb
    replace R2 := R2.next hb
    replace R3 := R3.next hb
    replace hg := hg.below hb
    replace hb1 := below_next hb1 hb
    clear hb
    go_wp2_with fail
    refine (refShl_any q4 n4 c4 n (n / 16) (n % 16) _ w4 hc4 (by omega) R4 (Nat.le_refl _) (by omega) rfl rfl).mono ?_
    rintro e w5 ⟨q5, n5, c5, rfl, hc5, _, R5, hb⟩
    rw [val_digs (by omega)] at R5
    have s5 : n5 ≤ 716 := R5.short (by omega) (by rw [← pow_W64 179 716 rfl]; exact bu.out)
    replace r1 := r1.next hb
    replace R2 := R2.next hb
    replace R3 := R3.next hb
    replace hg := hg.below hb
    replace hb1 := below_next hb1 hb
    clear hb R4
    go_wp2_with fail
    refine (refLimbs_any q5 n5 c5 _ w5 hc5 (by omega) R5 (Nat.le_refl _)).mono ?_
    rintro e w6 ⟨q6, n6, c6, rfl, hc6, _, R6, hb⟩
    rw [val_digs (by omega)] at R6
    have s6 : n6 ≤ 179 := R6.short two_le_W64 bu.out
    replace r1 := r1.next hb
    replace R2 := R2.next hb
    replace R3 := R3.next hb
    replace hg := hg.below hb
    replace hb1 := below_next hb1 hb
    clear hb R5
    go_wp2_with fail
    refine (refSame_true q2 q6 n2 n6 c2 c6 _ _ w6 (by omega) (by omega) R2 R6 rfl).mono ?_
    rintro e w7 ⟨rfl, hb⟩
    replace r1 := r1.next hb
    replace R2 := R2.next hb
    replace R3 := R3.next hb
    replace hg := hg.below hb
    replace hb1 := below_next hb1 hb
    clear hb R6
    go_wp2_with fail
    refine (refDigits_any p1 l1 c1 _ w7 h1 (by omega) r1 (Nat.le_refl _)).mono ?_
    rintro e w8 ⟨q7, n7, c7, rfl, hc7, _, R7, hb⟩
    rw [← HX.out] at R7
    have s7 : n7 ≤ 400 := R7.short (by omega) (by rw [← pow_W64 100 400 rfl]; exact bx.out)
    replace r1 := r1.next hb
    replace R2 := R2.next hb
    replace R3 := R3.next hb
    replace hg := hg.below hb
    replace hb1 := below_next hb1 hb
    clear hb
    go_wp2_with fail
    refine (refShr_any q7 n7 c7 n (n / 16) (n % 16) _ w8 hc7 (by omega) R7 (Nat.le_refl _) (by omega) rfl rfl).mono ?_
    rintro e w9 ⟨q8, n8, c8, rfl, hc8, _, R8, hb⟩
    rw [val_digs (by omega)] at R8
    have s8 : n8 ≤ 400 := R8.short (by omega) (by rw [← pow_W64 100 400 rfl]; exact bd.out)
    replace r1 := r1.next hb
    replace R2 := R2.next hb
    replace R3 := R3.next hb
    replace hg := hg.below hb
    replace hb1 := below_next hb1 hb
    clear hb R7
    go_wp2_with fail
    refine (refLimbs_any q8 n8 c8 _ w9 hc8 (by omega) R8 (Nat.le_refl _)).mono ?_
    rintro e w10 ⟨q9, n9, c9, rfl, hc9, _, R9, hb⟩
    rw [val_digs (by omega)] at R9
    have s9 : n9 ≤ 100 := R9.short two_le_W64 bd.out
    replace r1 := r1.next hb
    replace R2 := R2.next hb
    replace R3 := R3.next hb
    replace hg := hg.below hb
    replace hb1 := below_next hb1 hb
    clear hb R8
    go_wp2_with fail
    refine (refSame_true q3 q9 n3 n9 c3 c9 _ _ w10 (by omega) (by omega) R3 R9 rfl).mono ?_
    rintro e w11 ⟨rfl, hb⟩
    replace r1 := r1.next hb
    replace R2 := R2.next hb
    replace hg := hg.below hb
    replace hb1 := below_next hb1 hb
    clear hb R3 R9
    go_wp2_with fail
    refine (natShr_any q2 n2 c2 n n _ w11 hc2 (by omega) R2 (Nat.le_refl _) (Or.inl rfl) (by omega)).mono ?_
    rintro e w12 ⟨q10, n10, c10, rfl, hc10, _, R10, hb⟩
    rw [val_digs two_le_W64] at R10
    have s10 : n10 ≤ 100 := R10.short two_le_W64 bq.out
    replace r1 := r1.next hb
    replace hg := hg.below hb
    replace hb1 := below_next hb1 hb
    clear hb R2
    go_wp2_with fail
    refine (plain_any p1 l1 c1 xs w12 h1 (by omega) r1).mono ?_
    rintro e w13 ⟨q11, n11, c11, rfl, hc11, _, R11, hb⟩
    rw [← HX.out] at R11
    have s11 : n11 ≤ 100 := R11.short two_le_W64 bx.out
    replace R10 := R10.next hb
    replace hg := hg.below hb
    replace hb1 := below_next hb1 hb
    clear hb r1
    go_wp2_with fail
    refine (refSame_true q10 q11 n10 n11 c10 c11 _ _ w13 (by omega) (by omega) R10 R11 (by rw [HD.out])).mono ?_
    rintro e w14 ⟨rfl, hb⟩
    replace hg := hg.below hb
    replace hb1 := below_next hb1 hb
    clear hb R10 R11
    go_wp2
    go_ret
    exact ⟨rfl, hb1⟩
end Go.Proofs.YtafmoonfnkcpoaaDoor
