/- The document's own answers for layer 2: Small, Mul, Shl. -/
import Derived.Test.YtndcaajebomkhaaGreatDoorRefW
namespace Go.Proofs.YtndcaajebomkhaaGreatDoor
open Go.RowKit

/-- A slice of one number that the call has just made. -/
theorem one_rd {W : World} {k : IntKind} {β x : Nat} {T : TypeId} {z : Int} (hx : x < β) (hz : z = (x : Int)) : Rd k β (W.heap.size + 1) (W.alloc (.cells #[.int k z] T)) (some ⟨W.heap.size, 0, none⟩) 1 [x] := by
  subst hz
  refine ⟨rfl, fun i hi => ?_, fun i hi => ?_⟩
  · obtain rfl : i = 0 := by omega
    rw [nth_cons_zero]; exact hx
  · obtain rfl : i = 0 := by omega
    refine ⟨_, _, rfl, by omega, ?_⟩
    rw [nth_cons_zero]; simp [go_sem]
theorem val_one_digit (β x : Nat) : val β [x] = x := by simp [val_cons, val_nil]

set_option maxHeartbeats 4000000 in
theorem refSmall_any (z : Int) (w : World) (h1 : -9223372036854775808 ≤ z) (h2 : z ≤ 9223372036854775807) :
    Calls Tryz.prog 40 #[.int .i64 z] w (GivesNum w z) := by
  obtain ⟨W0, hW0, hW, tZ⟩ := enter1 w (.bool false) (.slice none 0 0) 28
  have hs : W0.heap.size = w.heap.size + 1 := by rw [hW0]; simp
  have HW := Lib.hid hW0
  by_cases h0 : 0 ≤ z
  · obtain ⟨u, hu⟩ : ∃ u : Nat, z = (u : Int) := ⟨z.natAbs, by omega⟩
    subst hu
    have hu : u < W64 := by unfold W64; omega
    have mk := one_rd (W := W0) (k := .u64) (T := 53) hu rfl
    have hal : Below W0.heap.size W0 (W0.alloc (.cells #[.int .u64 (u : Int)] 53)) := (Below.refl _ _).alloc (Nat.le_refl _) _
    have hW1 := below_next hW hal
    have tZ1 := tZ.next hal
    have HZ : Hid (wv false u = (u : Int)) := Lib.hid rfl
    have L : (digs 65536 u).length ≤ 4 := (digs_length_le (by omega) _ _).2 (by rw [← W64_four]; exact hu)
    rw [hs] at mk
    clear hs hu hal tZ hW
    go_enter Tryz.func40, Tryz.ntmps40
    go_wp2_with fail
    rw [← hW0]
    clear hW0
    refine (refDigits_any _ 1 1 _ _ (Nat.le_refl _) (by omega) mk (by rw [HW.out]; simp)).mono ?_
    rw [val_one_digit]
    rintro e W2 ⟨q1, m1, c1, rfl, hmc1, _, hR1, hb⟩
    replace tZ1 := tZ1.next hb
    replace hW1 := below_next hW1 hb
    clear hb mk
    go_wp2_with fail
    refine (refNew_any false q1 m1 c1 _ _ hmc1 (by have := hR1.count; omega) hR1 (Nat.le_refl _) (val_digs (by omega) _)).mono ?_
    rintro e W9 ⟨v, rfl, ⟨q9, m9, c9, rfl, hm9, hR9⟩, hb⟩
    have tZ := tZ1.next hb
    have hW := below_next hW1 hb
    clear hb tZ1 hW1
    have t90 := tZ.c0; have t91 := tZ.c1; have t92 := tZ.f0; have t93 := tZ.f1
    have hr := (tZ.set0 (.bool (decide (wv false u < 0)))).set1 (.slice q9 m9 c9)
    have r0 := hr.c0
    have r1 := hr.c1
    go_wp2
    exact bodyPost_ret (v := .agg #[.bool (decide (wv false u < 0)), .slice q9 m9 c9]) (by simp [results, Tryz.results40, go_sem, r0, r1]) rfl
      ⟨_, rfl, by rw [← HZ.out]; exact NumAt.set2 hm9 hR9 tZ _ _, below_set2 hW (by omega)⟩
  · obtain ⟨u, hz⟩ : ∃ u : Nat, -(z + 1) = (u : Int) := ⟨(-(z + 1)).natAbs, by omega⟩
    have hu : u < W64 := by unfold W64; omega
    have mk := one_rd (W := W0) (k := .u64) (T := 53) hu hz
    have hal : Below W0.heap.size W0 (W0.alloc (.cells #[.int .u64 (-(z + 1))] 53)) := (Below.refl _ _).alloc (Nat.le_refl _) _
    have hW1 := below_next hW hal
    have tZ1 := tZ.next hal
    have HZ : Hid (wv true (u + 1) = z) := Lib.hid (by rw [wv_true]; omega)
    have L : (digs 65536 u).length ≤ 4 := (digs_length_le (by omega) _ _).2 (by rw [← W64_four]; exact hu)
    have L2 : (digs 65536 (u + 1)).length ≤ 4 + 1 := digs_sum_len (x := u) (y := 1) (by omega) L (by rw [digs_pos (by omega) (by omega)]; simp [digs_zero]) (by omega)
    have b1 : z < 0 := by omega
    have b2 : 0 ≤ -(z + 1) := by omega
    have b3 : -(z + 1) ≤ 9223372036854775807 := by omega
    rw [hs] at mk
    clear hs hu hal tZ hW h0 hz
    go_enter Tryz.func40, Tryz.ntmps40
    go_wp2_with fail
    rw [← hW0]
    clear hW0
    refine (refDigits_any _ 1 1 _ _ (Nat.le_refl _) (by omega) mk (by rw [HW.out]; simp)).mono ?_
    rw [val_one_digit]
    rintro e W2 ⟨q1, m1, c1, rfl, hmc1, _, hR1, hb⟩
    replace tZ1 := tZ1.next hb
    replace hW1 := below_next hW1 hb
    clear hb mk
    have hm1 : m1 ≤ 4 := by have := hR1.count; omega
    have mk := one_rd (W := W2) (k := .u32) (T := 75) (β := 65536) (x := 1) (by omega) rfl
    have hal : Below W2.heap.size W2 (W2.alloc (.cells #[.int .u32 1] 75)) := (Below.refl _ _).alloc (Nat.le_refl _) _
    replace hR1 := hR1.next hal
    replace tZ1 := tZ1.next hal
    replace hW1 := below_next hW1 hal
    go_wp2_with fail
    refine (refAdd_any q1 _ m1 1 c1 1 _ _ _ (by omega) (by omega) hR1 mk (Nat.le_refl _) (by simp)).mono ?_
    rw [val_one_digit, val_digs (by omega)]
    rintro e W3 ⟨q2, m2, c2, rfl, hmc2, _, hR2, hb⟩
    replace tZ1 := tZ1.next hb
    replace hW1 := below_next hW1 hb
    clear hb mk hR1 hal
    go_wp2_with fail
    refine (refNew_any true q2 m2 c2 _ _ hmc2 (by have := hR2.count; omega) hR2 (Nat.le_refl _) (val_digs (by omega) _)).mono ?_
    rintro e W9 ⟨v, rfl, ⟨q9, m9, c9, rfl, hm9, hR9⟩, hb⟩
    have tZ := tZ1.next hb
    have hW := below_next hW1 hb
    clear hb tZ1 hW1
    have t90 := tZ.c0; have t91 := tZ.c1; have t92 := tZ.f0; have t93 := tZ.f1
    have hr := (tZ.set0 (.bool (decide (wv true (u + 1) < 0)))).set1 (.slice q9 m9 c9)
    have r0 := hr.c0
    have r1 := hr.c1
    go_wp2
    exact bodyPost_ret (v := .agg #[.bool (decide (wv true (u + 1) < 0)), .slice q9 m9 c9]) (by simp [results, Tryz.results40, go_sem, r0, r1]) rfl
      ⟨_, rfl, by rw [← HZ.out]; exact NumAt.set2 hm9 hR9 tZ _ _, below_set2 hW (by omega)⟩


end Go.Proofs.YtndcaajebomkhaaGreatDoor
