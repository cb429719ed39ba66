/- SplitScale, the law's walk: both times a third number. -/
import Derived.Test.YtomkefnnhbghjaaDoorLawD
namespace Go.Proofs.YtomkefnnhbghjaaDoor
open Go.RowKit

set_option maxRecDepth 100000 in
set_option maxHeartbeats 8000000 in
theorem splitScale_walk (p1 p2 p3 : Option Addr) (l1 l2 l3 c1 c2 c3 : Nat) (xs ys zs : List Nat) (w : World) (h1 : l1 ≤ c1) (h2 : l2 ≤ c2) (h3 : l3 ≤ c3)
    (r1 : Rd .u64 W64 w.heap.size w p1 l1 xs) (r2 : Rd .u64 W64 w.heap.size w p2 l2 ys) (r3 : Rd .u64 W64 w.heap.size w p3 l3 zs) (hT : TabVar w) (hP : PowVar w) :
    Calls Tryd.prog 6 #[.slice p1 l1 c1, .slice p2 l2 c2, .slice p3 l3 c3] w fun e w' => e = .returned (.bool true) ∧ Below w.heap.size w w' := by
  have HA := Lib.hid (awakeC_any w hT hP)
  clear hP
  by_cases b1 : 8 < l1
  · go_enter Tryd.func6, Tryd.ntmps6
    go_wp2_with fail
    refine (HA.out).mono ?_
    rintro e w1 ⟨rfl, hb1⟩
    go_wp2
    go_ret
    exact ⟨rfl, hb1⟩
  by_cases b2 : 8 < l2
  · go_enter Tryd.func6, Tryd.ntmps6
    go_wp2_with fail
    refine (HA.out).mono ?_
    rintro e w1 ⟨rfl, hb1⟩
    go_wp2
    go_ret
    exact ⟨rfl, hb1⟩
  by_cases b3 : 8 < l3
  · go_enter Tryd.func6, Tryd.ntmps6
    go_wp2_with fail
    refine (HA.out).mono ?_
    rintro e w1 ⟨rfl, hb1⟩
    go_wp2
    go_ret
    exact ⟨rfl, hb1⟩
  have a1 : l1 ≤ 8 := by omega
  have a2 : l2 ≤ 8 := by omega
  have a3 : l3 ≤ 8 := by omega
  clear b1 b2 b3
  obtain ⟨x, hx⟩ : ∃ x, x = val W64 xs := ⟨_, rfl⟩
  obtain ⟨y, hy⟩ : ∃ y, y = val W64 ys := ⟨_, rfl⟩
  obtain ⟨z, hz⟩ : ∃ z, z = val W64 zs := ⟨_, rfl⟩
  have HX := Lib.hid hx
  have HY := Lib.hid hy
  have HZ := Lib.hid hz
  have bx : Hid (x < W64 ^ 8) := Lib.hid (by rw [hx]; exact r1.val_lt W64_pos a1)
  have bY : Hid (y < W64 ^ 8) := Lib.hid (by rw [hy]; exact r2.val_lt W64_pos a2)
  have bz : Hid (z < W64 ^ 8) := Lib.hid (by rw [hz]; exact r3.val_lt W64_pos a3)
  clear hx hy hz
  go_enter Tryd.func6, Tryd.ntmps6
  go_wp2_with fail
  refine (HA.out).mono ?_
  rintro e w1 ⟨rfl, hW⟩
  replace r1 := r1.next hW
  replace r2 := r2.next hW
  replace r3 := r3.next hW
  replace hT := hT.below hW
  clear HA
  have hL2 := natLen_any p2 l2 c2 ys w1 h2 (by omega) r2
  rw [← HY.out] at hL2
  have hL3 := natLen_any p3 l3 c3 zs w1 h3 (by omega) r3
  rw [← HZ.out] at hL3
  by_cases hy0 : y = 0
  · rw [hy0, nbits_zero] at hL2
    have HL := Lib.hid hL2
    clear hL2 hL3
    go_wp2_with (go_at_call 14; refine (HL.out).mono ?_; rintro e w' ⟨rfl, rfl⟩)
    go_ret
    exact ⟨rfl, hW⟩
  have hyp : 0 < y := by omega
  obtain ⟨nb, hnb⟩ : ∃ nb, nb = nbits y := ⟨_, rfl⟩
  rw [← hnb] at hL2
  have hnb0 : ¬ (nb : Int) = 0 := by
    obtain ⟨k, hk, _⟩ := nbits_pos hyp
    omega
  have hnb1 : ((nb : Int) == 0) = false := by simpa using hnb0
  have hnb2 : ¬ nb = 0 := by omega
  have HL2 := Lib.hid hL2
  clear hL2 hnb hy0
  by_cases hz0 : z = 0
  · rw [hz0, nbits_zero] at hL3
    have HL3 := Lib.hid hL3
    clear hL3
    go_wp2_with (go_at_call 14; (first | (with_reducible refine (HL2.out).mono ?_) | (with_reducible refine (HL3.out).mono ?_)); rintro e w' ⟨rfl, rfl⟩)
    go_ret
    exact ⟨rfl, hW⟩
  have hzp : 0 < z := by omega
  obtain ⟨nc, hnc⟩ : ∃ nc, nc = nbits z := ⟨_, rfl⟩
  rw [← hnc] at hL3
  have hnc0 : ¬ (nc : Int) = 0 := by
    obtain ⟨k, hk, _⟩ := nbits_pos hzp
    omega
  have hnc1 : ((nc : Int) == 0) = false := by simpa using hnc0
  have hnc2 : ¬ nc = 0 := by omega
  have HL3 := Lib.hid hL3
  clear hL3 hnc hz0
  have bxz : Hid (x * z < W64 ^ 16) := Lib.hid (by rw [show W64 ^ 16 = W64 ^ 8 * W64 ^ 8 from by rw [← Nat.pow_add]]; exact Nat.mul_lt_mul'' bx.out bz.out)
  have byz : Hid (y * z < W64 ^ 16) := Lib.hid (by rw [show W64 ^ 16 = W64 ^ 8 * W64 ^ 8 from by rw [← Nat.pow_add]]; exact Nat.mul_lt_mul'' bY.out bz.out)
  have sx := (digs_length_le two_le_W64 x 8).2 bx.out
  have sy := (digs_length_le two_le_W64 y 8).2 bY.out
  have sz := (digs_length_le two_le_W64 z 8).2 bz.out
  have hyz : 0 < y * z := Nat.mul_pos hyp hzp
  go_wp2_with (go_at_call 14; (first | (with_reducible refine (HL2.out).mono ?_) | (with_reducible refine (HL3.out).mono ?_)); rintro e w' ⟨rfl, rfl⟩)
  refine (natMul_any p1 p3 l1 l3 c1 c3 xs zs w1 h1 h3 (by omega) (by omega) r1 r3 (Nat.le_refl _) (Nat.le_refl _) (by rw [← HX.out, ← HZ.out]; omega)).mono ?_
  rw [← HX.out, ← HZ.out]
  rintro e w2 ⟨qx, mx, cx, rfl, hmx, _, hRx, hb⟩
  have ux : mx ≤ 16 := hRx.short two_le_W64 bxz.out
  replace r1 := r1.next hb
  replace r2 := r2.next hb
  replace r3 := r3.next hb
  replace hT := hT.below hb
  replace hW := below_next hW hb
  clear hb
  go_wp2_with fail
  refine (natMul_any p2 p3 l2 l3 c2 c3 ys zs w2 h2 h3 (by omega) (by omega) r2 r3 (Nat.le_refl _) (Nat.le_refl _) (by rw [← HY.out, ← HZ.out]; omega)).mono ?_
  rw [← HY.out, ← HZ.out]
  rintro e w3 ⟨qy, my, cy, rfl, hmy, _, hRy, hb⟩
  have uy : my ≤ 16 := hRy.short two_le_W64 byz.out
  replace r1 := r1.next hb
  replace r2 := r2.next hb
  replace r3 := r3.next hb
  replace hRx := hRx.next hb
  replace hT := hT.below hb
  replace hW := below_next hW hb
  clear hb
  go_wp2_with fail
  refine (splitQuo_any p1 p2 l1 l2 c1 c2 xs ys w3 h1 h2 (by omega) (by omega) r1 r2 (Nat.le_refl _) (Nat.le_refl _) (by rw [← HY.out]; exact hyp)).mono ?_
  rw [← HX.out, ← HY.out]
  rintro e w4 ⟨qq, mq, cq, qr, mr, cr, rfl, hmq, _, hRq, hmr, _, hRr, hb⟩
  have uq : mq ≤ 8 := hRq.short two_le_W64 (Nat.lt_of_le_of_lt (Nat.div_le_self _ _) bx.out)
  clear hRr
  replace r1 := r1.next hb
  replace r2 := r2.next hb
  replace r3 := r3.next hb
  replace hRx := hRx.next hb
  replace hRy := hRy.next hb
  replace hT := hT.below hb
  replace hW := below_next hW hb
  clear hb
  go_wp2_with fail
  refine (splitQuo_any qx qy mx my cx cy _ _ w4 hmx hmy (by omega) (by omega) hRx hRy (Nat.le_refl _) (Nat.le_refl _) (by rw [val_digs two_le_W64]; exact hyz)).mono ?_
  rw [val_digs two_le_W64, val_digs two_le_W64]
  rintro e w5 ⟨qp, mp, cp, qs, ms, cs, rfl, hmp, _, hRp, hms, _, hRs, hb⟩
  have up : mp ≤ 16 := hRp.short two_le_W64 (Nat.lt_of_le_of_lt (Nat.div_le_self _ _) bxz.out)
  clear hRs
  replace r1 := r1.next hb
  replace r2 := r2.next hb
  replace r3 := r3.next hb
  replace hRx := hRx.next hb
  replace hRy := hRy.next hb
  replace hRq := hRq.next hb
  replace hT := hT.below hb
  replace hW := below_next hW hb
  clear hb
  go_wp2_with fail
  refine (splitGcd_any p1 p2 l1 l2 c1 c2 xs ys w5 h1 h2 (by omega) (by omega) r1 r2 (Nat.le_refl _) (Nat.le_refl _) hT).mono ?_
  rw [← HX.out, ← HY.out]
  rintro e w6 ⟨qg, mg, cg, rfl, hmg, _, hRg, hb⟩
  have hgy : Nat.gcd x y ≤ y := Nat.le_of_dvd hyp (Nat.gcd_dvd_right _ _)
  have ug : mg ≤ 8 := hRg.short two_le_W64 (Nat.lt_of_le_of_lt hgy bY.out)
  replace r3 := r3.next hb
  replace hRx := hRx.next hb
  replace hRy := hRy.next hb
  replace hRq := hRq.next hb
  replace hRp := hRp.next hb
  replace hT := hT.below hb
  replace hW := below_next hW hb
  clear hb r1 r2
  go_wp2_with fail
  refine (splitGcd_any qx qy mx my cx cy _ _ w6 hmx hmy (by omega) (by omega) hRx hRy (Nat.le_refl _) (Nat.le_refl _) hT).mono ?_
  rw [val_digs two_le_W64, val_digs two_le_W64]
  rintro e w7 ⟨qh, mh, ch, rfl, hmh, _, hRh, hb⟩
  have uh : mh ≤ 16 := hRh.short two_le_W64 (Nat.lt_of_le_of_lt (Nat.le_of_dvd hyz (Nat.gcd_dvd_right _ _)) byz.out)
  replace r3 := r3.next hb
  replace hRq := hRq.next hb
  replace hRp := hRp.next hb
  replace hRg := hRg.next hb
  replace hT := hT.below hb
  replace hW := below_next hW hb
  clear hb hRx hRy
  go_wp2_with fail
  refine (natMul_any qg p3 mg l3 cg c3 _ zs w7 hmg h3 (by omega) (by omega) hRg r3 (Nat.le_refl _) (Nat.le_refl _) (by rw [val_digs two_le_W64, ← HZ.out, hRg.count]; omega)).mono ?_
  rw [val_digs two_le_W64, ← HZ.out]
  rintro e w8 ⟨qk, mk, ck, rfl, hmk, _, hRk, hb⟩
  have uk : mk ≤ 16 := hRk.short two_le_W64 (Nat.lt_of_le_of_lt (Nat.mul_le_mul_right _ hgy) byz.out)
  replace hRq := hRq.next hb
  replace hRp := hRp.next hb
  replace hRh := hRh.next hb
  replace hT := hT.below hb
  replace hW := below_next hW hb
  clear hb hRg r3
  go_wp2_with fail
  refine (natCmp_below qq qp mq mp cq cp _ _ w8 hmq hmp (by omega) (by omega) hRq hRp (c := 0) (by rw [val_digs two_le_W64, val_digs two_le_W64]; exact cmpN_eq (Nat.mul_div_mul_right _ _ hzp).symm)).mono ?_
  rintro e w9 ⟨rfl, hb⟩
  replace hRh := hRh.next hb
  replace hRk := hRk.next hb
  replace hT := hT.below hb
  replace hW := below_next hW hb
  clear hb hRq hRp
  go_wp2_with fail
  refine (natCmp_below qh qk mh mk ch ck _ _ w9 hmh hmk (by omega) (by omega) hRh hRk (c := 0) (by rw [val_digs two_le_W64, val_digs two_le_W64]; exact cmpN_eq (Nat.gcd_mul_right _ _ _))).mono ?_
  rintro e w10 ⟨rfl, hb⟩
  replace hT := hT.below hb
  replace hW := below_next hW hb
  clear hb hRh hRk
  go_wp2
  go_ret
  exact ⟨rfl, hW⟩
end Go.Proofs.YtomkefnnhbghjaaDoor
