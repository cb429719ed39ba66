/- The document's own answers for layers 2 and 5: From2, a float's number times 2^1074. -/
import Derived.Test.YtknkakkdhihngaaFltR
import Derived.Test.YtknkakkdhihngaaRefX
import Derived.Deep.DeepCutAuto
namespace Go.Proofs.Ytknkakkdhihngaa
open Go.RowKit

set_option maxHeartbeats 4000000 in
theorem refFrom2_any (u : Nat) (w : World) (hu : u < W64) :
    Calls Try.prog 34 #[.int .u64 (u : Int)] w (GivesNum w (u : Int)) := by
  obtain ⟨W0, hW0, hW, tZ⟩ := enter1 w (.bool false) (.slice none 0 0) 36
  have hs : W0.heap.size = w.heap.size + 1 := by rw [hW0]; simp
  have HW := Lib.hid hW0
  have mk := one_rd (W := W0) (k := .u64) (T := 22) hu rfl
  have hal : Below W0.heap.size W0 (W0.alloc (.cells #[.int .u64 (u : Int)] 22)) := (Below.refl _ _).alloc (Nat.le_refl _) _
  have hW1 := below_next hW hal
  have tZ1 := tZ.next hal
  have HZ : Hid (wv false u = (u : Int)) := Lib.hid rfl
  have L : (digs 65536 u).length ≤ 4 := (digs_length_le (by omega) _ _).2 (by rw [← W64_four]; exact hu)
  rw [hs] at mk
  clear hs hu hal tZ hW
  go_enter Try.func34, Try.ntmps34
  go_wp2_with fail
  rw [← hW0]
  clear hW0
  refine (refDigits_any _ 1 1 _ _ (Nat.le_refl _) (by omega) mk (by rw [HW.out]; simp)).mono ?_
  rw [val_one_digit]
  rintro e W2 ⟨q1, m1, c1, rfl, hmc1, _, hR1, hb⟩
  replace tZ1 := tZ1.next hb
  replace hW1 := below_next hW1 hb
  clear hb mk
  go_wp2_with fail
  refine (refNew_any false q1 m1 c1 _ _ hmc1 (by have := hR1.count; omega) hR1 (Nat.le_refl _) (val_digs (by omega) _)).mono ?_
  rintro e W9 ⟨v, rfl, ⟨q9, m9, c9, rfl, hm9, hR9⟩, hb⟩
  have tZ := tZ1.next hb
  have hW := below_next hW1 hb
  clear hb tZ1 hW1
  have t90 := tZ.c0; have t91 := tZ.c1; have t92 := tZ.f0; have t93 := tZ.f1
  have hr := (tZ.set0 (.bool (decide (wv false u < 0)))).set1 (.slice q9 m9 c9)
  have r0 := hr.c0
  have r1 := hr.c1
  go_wp2
  exact bodyPost_ret (v := .agg #[.bool (decide (wv false u < 0)), .slice q9 m9 c9]) (by simp [results, Try.results34, go_sem, r0, r1]) rfl
    ⟨_, rfl, by rw [← HZ.out]; exact NumAt.set2 hm9 hR9 tZ _ _, below_set2 hW (by omega)⟩

/-- The number times 2^1074, as the document's answer spells it. -/
structure RefPart (b m k : Nat) (s : Bool) (x : Int) : Prop where
  hm : m < 9007199254740992
  hk : k ≤ 2100
  hx : x + 1074 = (k : Int)
  hz : wv s (m * 2 ^ k) = fZ b
  call : ∀ w, Calls Try.prog 33 #[.int .u64 (b : Int)] w fun e w' => e = .returned (.tuple #[.bool s, .int .u64 (m : Int), .int .i64 x]) ∧ Below w.heap.size w w'
theorem refParts_is (b : Nat) (hb : b < 18446744073709551616) : ∃ m k s x, RefPart b m k s x := by
  by_cases h0 : fM b = 0
  · obtain ⟨k, hk⟩ : ∃ k, k = 1074 := ⟨_, rfl⟩
    exact ⟨0, k, false, 0, by omega, by omega, by omega, by unfold fZ fV; rw [h0, Nat.zero_mul, Nat.zero_mul, wv_zero, wv_zero], fun w => refParts_zero b hb h0 w⟩
  · obtain ⟨t, m, h1, h2⟩ := odd_part (fM b) (by omega)
    have h3 := odd_small h1 h2 (fM_lt b)
    have h4 := fX_lt b
    refine ⟨m, fX b + t, fS b, (fX b : Int) - 1074 + t, ?_, by omega, by omega, ?_, fun w => refParts_any b m t _ _ hb h1 h2 rfl rfl w⟩
    · have := h3.1; unfold P52 at this; omega
    · unfold fZ fV
      rw [h1, Nat.mul_assoc, ← Nat.pow_add, Nat.add_comm t]
theorem pow_room {m k j : Nat} (hm : m < 9007199254740992) (hk : k ≤ 2100) (hj : 4000 ≤ j) : m * 2 ^ k < 2 ^ (16 * j) := by
  have h1 : m * 2 ^ k < 2 ^ 53 * 2 ^ k := Nat.mul_lt_mul_of_pos_right (by omega) (Nat.pow_pos (by omega))
  rw [← Nat.pow_add] at h1
  exact Nat.lt_of_lt_of_le h1 (Nat.pow_le_pow_right (by omega) (by omega))
set_option maxHeartbeats 4000000 in
theorem refNum_any (b : Nat) (hb : b < 18446744073709551616) (w : World) :
    Calls Try.prog 16 #[.int .u64 (b : Int)] w (GivesNum w (fZ b)) := by
  obtain ⟨m, k, s, x, hp⟩ := refParts_is b hb
  have HZ := Lib.hid hp.hz
  have HP := Lib.hid hp.call
  have hp0 := hp.hx
  have hx := hp.hx
  have hk := hp.hk
  have hm := hp.hm
  obtain ⟨z, hz⟩ : ∃ z, z = fZ b := ⟨_, rfl⟩
  rw [← hz] at HZ ⊢
  clear hp hz
  obtain ⟨W0, hW0, hW, tZ⟩ := enter1 w (.bool false) (.slice none 0 0) 36
  have hmw : m < W64 := by unfold W64; omega
  have hml : (digs 65536 (m : Int).natAbs).length ≤ 4 := num_len (L := 1) (by rw [Int.natAbs_natCast, Nat.pow_one]; exact hmw) rfl
  have hV : Hid (((m : Int) * 2 ^ k).natAbs = m * 2 ^ k) := Lib.hid (by rw [show (m : Int) * 2 ^ k = ((m * 2 ^ k : Nat) : Int) by simp, Int.natAbs_natCast])
  go_enter Try.func16, Try.ntmps16
  go_wp2_with fail
  rw [← hW0]
  clear hW0
  refine (HP.out _).mono ?_
  rintro e W0' ⟨rfl, hb⟩
  replace tZ := tZ.next hb
  replace hW := below_next hW hb
  clear hb HP
  have tZ0 := tZ.c0; have tZ1 := tZ.c1
  clear hx
  have hx : x + 1074 = (k : Int) := hp0
  go_wp2_with fail
  refine (refFrom2_any m _ hmw).mono ?_
  rintro e W1 ⟨v1, rfl, p1, hb⟩
  replace tZ := tZ.next hb
  replace hW := below_next hW hb
  clear hb tZ0 tZ1
  go_wp2_with fail
  refine (refIntShl_any _ (m : Int) k (k / 16) (k % 16) _ p1 (by omega) (by omega) rfl rfl).mono ?_
  rintro e W2 ⟨v2, rfl, p2, hb⟩
  obtain ⟨Z, hZ⟩ : ∃ Z : Int, Z = (m : Int) * 2 ^ k := ⟨_, rfl⟩
  rw [← hZ] at p2
  have hV : Hid (Z.natAbs = m * 2 ^ k) := Lib.hid (by rw [hZ]; exact hV.out)
  replace tZ := tZ.next hb
  replace hW := below_next hW hb
  clear hb p1 hZ hx hp0
  obtain ⟨q5, m5, c5, rfl, h5, R5⟩ := p2
  have tX := Two.new W2 (.bool false) (.slice none 0 0) 36
  have x0 := tX.c0; have x1 := tX.c1; have x2 := tX.f0; have x3 := tX.f1
  have hl5 : m5 ≤ 4000 := by
    obtain ⟨j, hj1, hj2⟩ : ∃ j : Nat, 4000 ≤ j ∧ j ≤ 4000 := ⟨4000, Nat.le_refl _, Nat.le_refl _⟩
    have h1 := R5.count
    have h2 := (digs_length_le (β := 65536) (by omega) Z.natAbs j).2 (by
      rw [hV.out, show (65536 : Nat) = 2 ^ 16 by rfl, ← Nat.pow_mul]
      exact pow_room hm hk hj1)
    omega
  have bA : Below W2.heap.size W2 (W2.alloc (.cells #[.bool (decide (Z < 0)), .slice q5 m5 c5] 36)) := bal
  go_wp2_with fail
  replace R5 := R5.next bA
  replace tZ := tZ.next bA
  replace hW := below_next hW bA
  obtain ⟨W3, hW3⟩ : ∃ W3, W3 = W2.alloc (.cells #[.bool (decide (Z < 0)), .slice q5 m5 c5] 36) := ⟨_, rfl⟩
  rw [← hW3] at R5 tZ hW ⊢
  clear hW3 bA x0 x1 x2 x3 tX
  refine (refNew_any s q5 m5 c5 _ _ h5 (by omega) R5 (Nat.le_refl _) (x := m * 2 ^ k) (by rw [val_digs (by omega), hV.out])).mono ?_
  rw [HZ.out]
  rintro e W9 ⟨v, rfl, ⟨q9, m9, c9, rfl, hm9, hR9⟩, hb⟩
  replace tZ := tZ.next hb
  replace hW := below_next hW hb
  clear hb R5
  have t90 := tZ.c0; have t91 := tZ.c1; have t92 := tZ.f0; have t93 := tZ.f1
  have hr := (tZ.set0 (.bool (decide (z < 0)))).set1 (.slice q9 m9 c9)
  have r0 := hr.c0
  have r1 := hr.c1
  go_wp2
  exact bodyPost_ret (v := .agg #[.bool (decide (z < 0)), .slice q9 m9 c9]) (by simp [results, Try.results16, go_sem, r0, r1]) rfl
    ⟨_, rfl, NumAt.set2 hm9 hR9 tZ _ _, below_set2 hW (by omega)⟩
end Go.Proofs.Ytknkakkdhihngaa
