/- SplitGcd, the law's walk: the greatest number that goes into both is the document's. -/
import Derived.Test.YtomkefnnhbghjaaDoorLawD
import Derived.Test.YtomkefnnhbghjaaDoorRefS
import Derived.Test.YtomkefnnhbghjaaDoorRefB
namespace Go.Proofs.YtomkefnnhbghjaaDoor
open Go.RowKit

theorem pow_W64d (n m : Nat) (h : m = 4 * n) : W64 ^ n = 65536 ^ m := by rw [W64_four, ← Nat.pow_mul, h]

set_option maxRecDepth 100000 in
set_option maxHeartbeats 8000000 in
theorem splitGcdLaw_walk (p1 p2 : Option Addr) (l1 l2 c1 c2 : Nat) (xs ys : List Nat) (w : World) (h1 : l1 ≤ c1) (h2 : l2 ≤ c2)
    (r1 : Rd .u64 W64 w.heap.size w p1 l1 xs) (r2 : Rd .u64 W64 w.heap.size w p2 l2 ys) (hT : TabVar w) (hP : PowVar w) :
    Calls Tryd.prog 5 #[.slice p1 l1 c1, .slice p2 l2 c2] w fun e w' => e = .returned (.bool true) ∧ Below w.heap.size w w' := by
  have HA := Lib.hid (awakeC_any w hT hP)
  clear hP
  by_cases b1 : 8 < l1
  · go_enter Tryd.func5, Tryd.ntmps5
    go_wp2_with fail
    refine (HA.out).mono ?_
    rintro e w1 ⟨rfl, hb1⟩
    go_wp2
    go_ret
    exact ⟨rfl, hb1⟩
  by_cases b2 : 8 < l2
  · go_enter Tryd.func5, Tryd.ntmps5
    go_wp2_with fail
    refine (HA.out).mono ?_
    rintro e w1 ⟨rfl, hb1⟩
    go_wp2
    go_ret
    exact ⟨rfl, hb1⟩
  have a1 : l1 ≤ 8 := by omega
  have a2 : l2 ≤ 8 := by omega
  clear b1 b2
  have two : 2 ≤ 65536 := by omega
  obtain ⟨x, hx⟩ : ∃ x, x = val W64 xs := ⟨_, rfl⟩
  obtain ⟨y, hy⟩ : ∃ y, y = val W64 ys := ⟨_, rfl⟩
  have HX := Lib.hid hx
  have HY := Lib.hid hy
  have bx : Hid (x < W64 ^ 8) := Lib.hid (by rw [hx]; exact r1.val_lt W64_pos a1)
  have bY : Hid (y < W64 ^ 8) := Lib.hid (by rw [hy]; exact r2.val_lt W64_pos a2)
  clear hx hy
  go_enter Tryd.func5, Tryd.ntmps5
  go_wp2_with fail
  refine (HA.out).mono ?_
  rintro e w1 ⟨rfl, hW⟩
  replace r1 := r1.next hW
  replace r2 := r2.next hW
  replace hT := hT.below hW
  clear HA
  go_wp2_with fail
  refine (splitGcd_any p1 p2 l1 l2 c1 c2 xs ys w1 h1 h2 (by omega) (by omega) r1 r2 (Nat.le_refl _) (Nat.le_refl _) hT).mono ?_
  rw [← HX.out, ← HY.out]
  rintro e w2 ⟨qg, mg, cg, rfl, hmg, _, hRg, hb⟩
  have bg : Hid (Nat.gcd x y < W64 ^ 8) := Lib.hid (by
    by_cases h : x = 0
    · rw [h, Nat.gcd_zero_left]; exact bY.out
    · exact Nat.lt_of_le_of_lt (Nat.le_of_dvd (by omega) (Nat.gcd_dvd_left _ _)) bx.out)
  have ug : mg ≤ 8 := hRg.short two_le_W64 bg.out
  obtain ⟨g, hgd⟩ : ∃ g, g = Nat.gcd x y := ⟨_, rfl⟩
  rw [← hgd] at hRg bg
  have HGD := Lib.hid hgd
  clear hgd
  replace r1 := r1.next hb
  replace r2 := r2.next hb
  replace hT := hT.below hb
  replace hW := below_next hW hb
  clear hb
  go_wp2_with fail
  refine (refDigits_any p1 l1 c1 xs w2 h1 (by omega) r1 (Nat.le_refl _)).mono ?_
  rw [← HX.out]
  rintro e w3 ⟨qa, ma, ca, rfl, hma, na, hRa, hb⟩
  have ua : ma ≤ 32 := hRa.short two (by rw [← pow_W64d 8 32 rfl]; exact bx.out)
  replace r1 := r1.next hb
  replace r2 := r2.next hb
  replace hRg := hRg.next hb
  replace hT := hT.below hb
  replace hW := below_next hW hb
  clear hb
  go_wp2_with fail
  refine (refDigits_any p2 l2 c2 ys w3 h2 (by omega) r2 (Nat.le_refl _)).mono ?_
  rw [← HY.out]
  rintro e w4 ⟨qb, mb, cb, rfl, hmb, nb, hRb, hb⟩
  have ub : mb ≤ 32 := hRb.short two (by rw [← pow_W64d 8 32 rfl]; exact bY.out)
  replace r1 := r1.next hb
  replace r2 := r2.next hb
  replace hRg := hRg.next hb
  replace hRa := hRa.next hb
  replace hT := hT.below hb
  replace hW := below_next hW hb
  clear hb
  go_wp2_with fail
  refine (refGcd_any qa qb ma mb ca cb _ _ w4 hma hmb (by omega) (by omega) na nb hRa hRb (Nat.le_refl _) (Nat.le_refl _)).mono ?_
  rw [val_digs two, val_digs two, ← HGD.out]
  rintro e w5 ⟨qc, mc, cc, rfl, hmc, _, hRc, hb⟩
  have uc : mc ≤ 32 := hRc.short two (by rw [← pow_W64d 8 32 rfl]; exact bg.out)
  replace r1 := r1.next hb
  replace r2 := r2.next hb
  replace hRg := hRg.next hb
  replace hT := hT.below hb
  replace hW := below_next hW hb
  clear hb hRa hRb
  go_wp2_with fail
  refine (refLimbs_any qc mc cc _ w5 hmc (by omega) hRc (Nat.le_refl _)).mono ?_
  rw [val_digs two]
  rintro e w6 ⟨qd, md, cd, rfl, hmd, _, hRd, hb⟩
  have ud : md ≤ 8 := hRd.short two_le_W64 bg.out
  replace r1 := r1.next hb
  replace r2 := r2.next hb
  replace hRg := hRg.next hb
  replace hT := hT.below hb
  replace hW := below_next hW hb
  clear hb hRc
  go_wp2_with fail
  refine (refSame_yes qg qd mg md cg cd _ _ w6 (by omega) (by omega) hRg hRd rfl).mono ?_
  rintro e w7 ⟨rfl, hb⟩
  replace r1 := r1.next hb
  replace r2 := r2.next hb
  replace hRg := hRg.next hb
  replace hT := hT.below hb
  replace hW := below_next hW hb
  clear hb hRd
  by_cases hg0 : g = 0
  · have hm0 : mg = 0 := by rw [hg0, digs_zero] at hRg; exact hRg.count.symm
    subst hm0
    have hx0 : x = 0 := Nat.eq_zero_of_gcd_eq_zero_left (by rw [← HGD.out]; exact hg0)
    have hy0 : y = 0 := Nat.eq_zero_of_gcd_eq_zero_right (by rw [← HGD.out]; exact hg0)
    have hL1 := natLen_any p1 l1 c1 xs w7 h1 (by omega) r1
    rw [← HX.out, hx0, nbits_zero] at hL1
    have hL2 := natLen_any p2 l2 c2 ys w7 h2 (by omega) r2
    rw [← HY.out, hy0, nbits_zero] at hL2
    have HL1 := Lib.hid hL1
    have HL2 := Lib.hid hL2
    clear hL1 hL2
    go_wp2_with (go_at_call 14; (first | (with_reducible refine (HL1.out).mono ?_) | (with_reducible refine (HL2.out).mono ?_)); rintro e w' ⟨rfl, rfl⟩)
    go_ret
    exact ⟨rfl, hW⟩
  have hgp : 0 < g := by omega
  have hmz : ¬ (mg : Int) = 0 := by
    have := digs_length_pos two_le_W64 g
    have := hRg.count
    omega
  have hmz2 : ¬ mg = 0 := by omega
  have hmz3 : ((mg : Int) == 0) = false := by simpa using hmz
  have HM1 : Hid (x % g = 0) := Lib.hid (Nat.mod_eq_zero_of_dvd (by rw [HGD.out]; exact Nat.gcd_dvd_left _ _))
  have HM2 : Hid (y % g = 0) := Lib.hid (Nat.mod_eq_zero_of_dvd (by rw [HGD.out]; exact Nat.gcd_dvd_right _ _))
  have HC : Hid (Nat.gcd (x / g) (y / g) = 1) := Lib.hid (by rw [HGD.out]; exact Nat.coprime_div_gcd_div_gcd (by rw [← HGD.out]; exact hgp))
  clear hg0
  go_wp2_with fail
  refine (splitQuo_any p1 qg l1 mg c1 cg xs _ w7 h1 hmg (by omega) (by omega) r1 hRg (Nat.le_refl _) (Nat.le_refl _) (by rw [val_digs two_le_W64]; exact hgp)).mono ?_
  rw [val_digs two_le_W64, ← HX.out, HM1.out]
  rintro e w8 ⟨qx, mx, cx, qr, mr, cr, rfl, hmx, _, hRx, _, _, hRr, hb⟩
  have ux : mx ≤ 8 := hRx.short two_le_W64 (Nat.lt_of_le_of_lt (Nat.div_le_self _ _) bx.out)
  rw [digs_zero] at hRr
  obtain rfl : 0 = mr := hRr.count
  clear hRr
  replace r2 := r2.next hb
  replace hRg := hRg.next hb
  replace hT := hT.below hb
  replace hW := below_next hW hb
  clear hb r1
  go_wp2_with fail
  refine (splitQuo_any p2 qg l2 mg c2 cg ys _ w8 h2 hmg (by omega) (by omega) r2 hRg (Nat.le_refl _) (Nat.le_refl _) (by rw [val_digs two_le_W64]; exact hgp)).mono ?_
  rw [val_digs two_le_W64, ← HY.out, HM2.out]
  rintro e w9 ⟨qy, my, cy, qs, ms, cs, rfl, hmy, _, hRy, _, _, hRs, hb⟩
  have uy : my ≤ 8 := hRy.short two_le_W64 (Nat.lt_of_le_of_lt (Nat.div_le_self _ _) bY.out)
  rw [digs_zero] at hRs
  obtain rfl : 0 = ms := hRs.count
  clear hRs
  replace hRx := hRx.next hb
  replace hT := hT.below hb
  replace hW := below_next hW hb
  clear hb r2 hRg
  go_wp2_with fail
  refine (splitGcd_any qx qy mx my cx cy _ _ w9 hmx hmy (by omega) (by omega) hRx hRy (Nat.le_refl _) (Nat.le_refl _) hT).mono ?_
  rw [val_digs two_le_W64, val_digs two_le_W64, HC.out]
  rintro e w10 ⟨qo, mo, co, rfl, hmo, _, hRo, hb⟩
  rw [digs_lone (by omega) (by have := two_le_W64; omega)] at hRo
  obtain rfl : 1 = mo := hRo.count
  clear hRx hRy
  replace hT := hT.below hb
  replace hW := below_next hW hb
  clear hb
  obtain ⟨bo, oo, rfl, _, hco⟩ := hRo.cell 0 (by omega)
  rw [nth_cons_zero, Nat.add_zero] at hco
  replace hco : w10.cell? ⟨bo, oo, none⟩ = some (.int .u64 1) := hco
  clear hRo
  go_wp2
  go_ret
  exact ⟨rfl, hW⟩
end Go.Proofs.YtomkefnnhbghjaaDoor
