/- SplitBack, the law's walk: what is left is less, and with the product comes to the number. -/
import Derived.Test.YtomkefnnhbghjaaDoorAwakeC
import Derived.Test.YtomkefnnhbghjaaDoorRefA
import Derived.Test.YtomkefnnhbghjaaDoorNatG
namespace Go.Proofs.YtomkefnnhbghjaaDoor
open Go.RowKit

/-- Two lists that are the same are told to be. -/
theorem refSame_yes {B1 B2 : Nat} (p1 p2 : Option Addr) (l1 l2 c1 c2 : Nat) (xs ys : List Nat) (w : World) (k1 : l1 ≤ 4000000) (k2 : l2 ≤ 4000000)
    (r1 : Rd .u64 W64 B1 w p1 l1 xs) (r2 : Rd .u64 W64 B2 w p2 l2 ys) (h : xs = ys) :
    Calls Tryd.prog 12 #[.slice p1 l1 c1, .slice p2 l2 c2] w fun e w' => e = .returned (.bool true) ∧ Below w.heap.size w w' :=
  (refSame_any p1 p2 l1 l2 c1 c2 xs ys w k1 k2 r1 r2).mono fun _ _ ⟨he, n, hw⟩ => ⟨by rw [he, decide_eq_true h], by rw [hw]; exact below_drewN (Below.refl _ _) n⟩

set_option maxRecDepth 100000 in
set_option maxHeartbeats 4000000 in
theorem splitBack_walk (p1 p2 : Option Addr) (l1 l2 c1 c2 : Nat) (xs ys : List Nat) (w : World) (h1 : l1 ≤ c1) (h2 : l2 ≤ c2)
    (r1 : Rd .u64 W64 w.heap.size w p1 l1 xs) (r2 : Rd .u64 W64 w.heap.size w p2 l2 ys) (hT : TabVar w) (hP : PowVar w) :
    Calls Tryd.prog 4 #[.slice p1 l1 c1, .slice p2 l2 c2] w fun e w' => e = .returned (.bool true) ∧ Below w.heap.size w w' := by
  have HA := Lib.hid (awakeC_any w hT hP)
  clear hT hP
  by_cases a1 : 200 < l1
  · go_enter Tryd.func4, Tryd.ntmps4
    go_wp2_with fail
    refine (HA.out).mono ?_
    rintro e w1 ⟨rfl, hb1⟩
    go_wp2
    go_ret
    exact ⟨rfl, hb1⟩
  by_cases a2 : 200 < l2
  · go_enter Tryd.func4, Tryd.ntmps4
    go_wp2_with fail
    refine (HA.out).mono ?_
    rintro e w1 ⟨rfl, hb1⟩
    go_wp2
    go_ret
    exact ⟨rfl, hb1⟩
  have a3 : l1 ≤ 200 := by omega
  have a4 : l2 ≤ 200 := by omega
  clear a1 a2
  obtain ⟨x, hx⟩ : ∃ x, x = val W64 xs := ⟨_, rfl⟩
  obtain ⟨y, hy⟩ : ∃ y, y = val W64 ys := ⟨_, rfl⟩
  have HX := Lib.hid hx
  have HY := Lib.hid hy
  clear hx hy
  go_enter Tryd.func4, Tryd.ntmps4
  go_wp2_with fail
  refine (HA.out).mono ?_
  rintro e w1 ⟨rfl, hW⟩
  replace r1 := r1.next hW
  replace r2 := r2.next hW
  clear HA
  have hL := natLen_any p2 l2 c2 ys w1 h2 (by omega) r2
  rw [← HY.out] at hL
  by_cases hy0 : y = 0
  · rw [hy0, nbits_zero] at hL
    have HL := Lib.hid hL
    clear hL
    go_wp2_with (go_at_call 14; refine (HL.out).mono ?_; rintro e w' ⟨rfl, rfl⟩)
    go_ret
    exact ⟨rfl, hW⟩
  have hyp : 0 < y := by omega
  obtain ⟨nb, hnb⟩ : ∃ nb, nb = nbits y := ⟨_, rfl⟩
  rw [← hnb] at hL
  have hnb0 : ¬ (nb : Int) = 0 := by
    obtain ⟨k, hk, _⟩ := nbits_pos hyp
    omega
  have hnb1 : ((nb : Int) == 0) = false := by simpa using hnb0
  have hnb2 : ¬ nb = 0 := by omega
  have HL := Lib.hid hL
  clear hL hnb hy0
  go_wp2_with (go_at_call 14; refine (HL.out).mono ?_; rintro e w' ⟨rfl, rfl⟩)
  refine (splitQuo_any p1 p2 l1 l2 c1 c2 xs ys w1 h1 h2 (by omega) (by omega) r1 r2 (Nat.le_refl _) (Nat.le_refl _) (by rw [← HY.out]; exact hyp)).mono ?_
  rw [← HX.out, ← HY.out]
  rintro e w2 ⟨qq, mq, cq, qr, mr, cr, rfl, hmq, _, hRq, hmr, _, hRr, hb⟩
  have sq : mq ≤ l1 := hRq.short two_le_W64 (Nat.lt_of_le_of_lt (Nat.div_le_self _ _) (by rw [HX.out]; exact r1.val_lt W64_pos (Nat.le_refl _)))
  have sr : mr ≤ l1 := hRr.short two_le_W64 (Nat.lt_of_le_of_lt (Nat.mod_le _ _) (by rw [HX.out]; exact r1.val_lt W64_pos (Nat.le_refl _)))
  have sy : (digs W64 y).length ≤ l2 := (digs_length_le two_le_W64 y l2).2 (by rw [HY.out]; exact r2.val_lt W64_pos (Nat.le_refl _))
  replace r1 := r1.next hb
  replace r2 := r2.next hb
  replace hW := below_next hW hb
  clear hb HL
  go_wp2_with fail
  refine (natMul_any qq p2 mq l2 cq c2 _ ys w2 hmq h2 (by omega) (by omega) hRq r2 (Nat.le_refl _) (Nat.le_refl _) (by rw [val_digs two_le_W64, ← HY.out, hRq.count]; omega)).mono ?_
  rw [val_digs two_le_W64, ← HY.out]
  rintro e w3 ⟨qp, mp, cp, rfl, hmp, _, hRp, hb⟩
  have hpx : x / y * y ≤ x := Nat.div_mul_le_self _ _
  have sp : mp ≤ l1 := hRp.short two_le_W64 (Nat.lt_of_le_of_lt hpx (by rw [HX.out]; exact r1.val_lt W64_pos (Nat.le_refl _)))
  replace r1 := r1.next hb
  replace r2 := r2.next hb
  replace hRr := hRr.next hb
  replace hW := below_next hW hb
  clear hb hRq sy hpx
  go_wp2_with fail
  refine (natCmp_below qr p2 mr l2 cr c2 _ ys w3 hmr h2 (by omega) (by omega) hRr r2 (c := -1) (by rw [val_digs two_le_W64, ← HY.out]; exact cmpN_lt (Nat.mod_lt _ hyp))).mono ?_
  rintro e w4 ⟨rfl, hb⟩
  replace r1 := r1.next hb
  replace hRr := hRr.next hb
  replace hRp := hRp.next hb
  replace hW := below_next hW hb
  clear hb r2
  go_wp2_with fail
  refine (natAdd_any qp qr mp mr cp cr _ _ w4 hmp hmr (by omega) (by omega) hRp hRr (Nat.le_refl _) (Nat.le_refl _)).mono ?_
  rw [val_digs two_le_W64, val_digs two_le_W64, Nat.mul_comm (x / y), Nat.div_add_mod]
  rintro e w5 ⟨qs, ms, cs, rfl, hms, _, hRs, hb⟩
  have ss : ms ≤ l1 := hRs.short two_le_W64 (by rw [HX.out]; exact r1.val_lt W64_pos (Nat.le_refl _))
  replace r1 := r1.next hb
  replace hW := below_next hW hb
  clear hb hRr hRp
  go_wp2_with fail
  refine (plain_any p1 l1 c1 xs w5 h1 (by omega) r1).mono ?_
  rw [← HX.out]
  rintro e w6 ⟨qt, mt, ct, rfl, hmt, _, hRt, hb⟩
  have st : mt ≤ l1 := hRt.short two_le_W64 (by rw [HX.out]; exact r1.val_lt W64_pos (Nat.le_refl _))
  replace hRs := hRs.next hb
  replace hW := below_next hW hb
  clear hb r1
  go_wp2_with fail
  refine (refSame_yes qs qt ms mt cs ct _ _ w6 (by omega) (by omega) hRs hRt rfl).mono ?_
  rintro e w7 ⟨rfl, hb⟩
  replace hW := below_next hW hb
  go_wp2
  go_ret
  exact ⟨rfl, hW⟩
end Go.Proofs.YtomkefnnhbghjaaDoor
