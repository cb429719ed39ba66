/- SplitQuo, the law's walk: how often, and what is left, are the document's; by 0 it is refused. -/
import Derived.Test.YtomkefnnhbghjaaDoorLawF
import Derived.Test.YtomkefnnhbghjaaDoorRefS
import Derived.Test.YtomkefnnhbghjaaDoorAs
import Derived.Test.YtomkefnnhbghjaaDoorRefB
namespace Go.Proofs.YtomkefnnhbghjaaDoor
open Go.RowKit

set_option maxRecDepth 100000 in
set_option maxHeartbeats 8000000 in
theorem splitQuoLaw_walk (p1 p2 : Option Addr) (l1 l2 c1 c2 : Nat) (xs ys : List Nat) (w : World) (h1 : l1 ≤ c1) (h2 : l2 ≤ c2)
    (r1 : Rd .u64 W64 w.heap.size w p1 l1 xs) (r2 : Rd .u64 W64 w.heap.size w p2 l2 ys) (hT : TabVar w) (hP : PowVar w) (hg : ErrVar w) :
    Calls Tryd.prog 3 #[.slice p1 l1 c1, .slice p2 l2 c2] w fun e w' => e = .returned (.bool true) ∧ Below w.heap.size w w' := by
  have HA := Lib.hid (awakeC_any w hT hP)
  clear hP
  by_cases b1 : 20 < l1
  · go_enter Tryd.func3, Tryd.ntmps3
    go_wp2_with fail
    refine (HA.out).mono ?_
    rintro e w1 ⟨rfl, hb1⟩
    go_wp2
    go_ret
    exact ⟨rfl, hb1⟩
  by_cases b2 : 20 < l2
  · go_enter Tryd.func3, Tryd.ntmps3
    go_wp2_with fail
    refine (HA.out).mono ?_
    rintro e w1 ⟨rfl, hb1⟩
    go_wp2
    go_ret
    exact ⟨rfl, hb1⟩
  have a1 : l1 ≤ 20 := by omega
  have a2 : l2 ≤ 20 := by omega
  clear b1 b2
  have two : 2 ≤ 65536 := by omega
  obtain ⟨x, hx⟩ : ∃ x, x = val W64 xs := ⟨_, rfl⟩
  obtain ⟨y, hy⟩ : ∃ y, y = val W64 ys := ⟨_, rfl⟩
  have HX := Lib.hid hx
  have HY := Lib.hid hy
  have bx : Hid (x < W64 ^ 20) := Lib.hid (by rw [hx]; exact r1.val_lt W64_pos a1)
  have bY : Hid (y < W64 ^ 20) := Lib.hid (by rw [hy]; exact r2.val_lt W64_pos a2)
  clear hx hy
  go_enter Tryd.func3, Tryd.ntmps3
  go_wp2_with fail
  refine (HA.out).mono ?_
  rintro e w1 ⟨rfl, hW⟩
  replace r1 := r1.next hW
  replace r2 := r2.next hW
  replace hT := hT.below hW
  clear HA hT
  replace hg := hg.below hW
  by_cases hy0 : y = 0
  · skip
    go_wp2_with fail
    refine (splitQuo_zero p1 p2 l1 l2 c1 c2 xs ys w1 h1 h2 (by omega) (by omega) r1 r2 (Nat.le_refl _) (Nat.le_refl _) (by rw [← HY.out]; exact hy0)).mono ?_
    rintro e w2 ⟨rfl, hb⟩
    replace r2 := r2.next hb
    replace hg := hg.below hb
    replace hW := below_next hW hb
    clear hb r1
    go_wp2_with fail
    refine (refDigits_any p2 l2 c2 ys w2 h2 (by omega) r2 (Nat.le_refl _)).mono ?_
    rw [← HY.out, hy0]
    rintro e w3 ⟨qb, mb, cb, rfl, hmb, nb, hRb, hb⟩
    rw [digs_zero] at hRb
    obtain rfl : 0 = mb := hRb.count
    replace hg := hg.below hb
    replace hW := below_next hW hb
    clear hb r2 hRb
    go_wp2_with fail
    refine (code_hit 6 (by omega) (by omega) w3 hg).mono ?_
    rintro e w4 ⟨rfl, hb⟩
    replace hW := below_next hW hb
    go_wp2
    go_ret
    exact ⟨rfl, hW⟩
  have hyp : 0 < y := by omega
  clear hy0
  go_wp2_with fail
  refine (splitQuo_any p1 p2 l1 l2 c1 c2 xs ys w1 h1 h2 (by omega) (by omega) r1 r2 (Nat.le_refl _) (Nat.le_refl _) (by rw [← HY.out]; exact hyp)).mono ?_
  rw [← HX.out, ← HY.out]
  rintro e w2 ⟨qq, mq, cq, qr, mr, cr, rfl, hmq, _, hRq, hmr, _, hRr, hb⟩
  have bq : Hid (x / y < W64 ^ 20) := Lib.hid (Nat.lt_of_le_of_lt (Nat.div_le_self _ _) bx.out)
  have br : Hid (x % y < W64 ^ 20) := Lib.hid (Nat.lt_of_le_of_lt (Nat.mod_le _ _) bx.out)
  have uq : mq ≤ 20 := hRq.short two_le_W64 bq.out
  have ur : mr ≤ 20 := hRr.short two_le_W64 br.out
  replace r1 := r1.next hb
  replace r2 := r2.next hb
  replace hW := below_next hW hb
  clear hb
  go_wp2_with fail
  refine (refDigits_any p2 l2 c2 ys w2 h2 (by omega) r2 (Nat.le_refl _)).mono ?_
  rw [← HY.out]
  rintro e w3 ⟨qb, mb, cb, rfl, hmb, nb, hRb, hb⟩
  have ub : mb ≤ 80 := hRb.short two (by rw [← pow_W64d 20 80 rfl]; exact bY.out)
  have hmbz : ¬ (mb : Int) = 0 := by
    have := digs_length_pos two y
    have := hRb.count
    omega
  have hmbz2 : ¬ mb = 0 := by omega
  have hmbz3 : ((mb : Int) == 0) = false := by simpa using hmbz
  replace r1 := r1.next hb
  replace hRq := hRq.next hb
  replace hRr := hRr.next hb
  replace hW := below_next hW hb
  clear hb r2
  go_wp2_with fail
  refine (refDigits_any p1 l1 c1 xs w3 h1 (by omega) r1 (Nat.le_refl _)).mono ?_
  rw [← HX.out]
  rintro e w4 ⟨qa, ma, ca, rfl, hma, na, hRa, hb⟩
  have ua : ma ≤ 80 := hRa.short two (by rw [← pow_W64d 20 80 rfl]; exact bx.out)
  replace hRq := hRq.next hb
  replace hRr := hRr.next hb
  replace hRb := hRb.next hb
  replace hW := below_next hW hb
  clear hb r1
  go_wp2_with fail
  refine (refQuo_any qa qb ma mb ca cb _ _ w4 hma hmb (by omega) (by omega) hRa hRb (Nat.le_refl _) (Nat.le_refl _) (by rw [val_digs two]; exact hyp)).mono ?_
  rw [val_digs two, val_digs two]
  rintro e w5 ⟨qp, mp, cp, qs, ms, cs, rfl, hmp, _, hRp, hms, _, hRs, hb⟩
  have up : mp ≤ 80 := hRp.short two (by rw [← pow_W64d 20 80 rfl]; exact bq.out)
  have us : ms ≤ 80 := hRs.short two (by rw [← pow_W64d 20 80 rfl]; exact br.out)
  replace hRq := hRq.next hb
  replace hRr := hRr.next hb
  replace hW := below_next hW hb
  clear hb hRa hRb
  go_wp2_with fail
  refine (refLimbs_any qp mp cp _ w5 hmp (by omega) hRp (Nat.le_refl _)).mono ?_
  rw [val_digs two]
  rintro e w6 ⟨qc, mc, cc, rfl, hmc, _, hRc, hb⟩
  have uc : mc ≤ 20 := hRc.short two_le_W64 bq.out
  replace hRq := hRq.next hb
  replace hRr := hRr.next hb
  replace hRs := hRs.next hb
  replace hW := below_next hW hb
  clear hb hRp
  go_wp2_with fail
  refine (refSame_yes qq qc mq mc cq cc _ _ w6 (by omega) (by omega) hRq hRc rfl).mono ?_
  rintro e w7 ⟨rfl, hb⟩
  replace hRr := hRr.next hb
  replace hRs := hRs.next hb
  replace hW := below_next hW hb
  clear hb hRc hRq
  go_wp2_with fail
  refine (refLimbs_any qs ms cs _ w7 hms (by omega) hRs (Nat.le_refl _)).mono ?_
  rw [val_digs two]
  rintro e w8 ⟨qd, md, cd, rfl, hmd, _, hRd, hb⟩
  have ud : md ≤ 20 := hRd.short two_le_W64 br.out
  replace hRr := hRr.next hb
  replace hW := below_next hW hb
  clear hb hRs
  go_wp2_with fail
  refine (refSame_yes qr qd mr md cr cd _ _ w8 (by omega) (by omega) hRr hRd rfl).mono ?_
  rintro e w9 ⟨rfl, hb⟩
  replace hW := below_next hW hb
  clear hb hRr hRd
  go_wp2
  go_ret
  exact ⟨rfl, hW⟩
end Go.Proofs.YtomkefnnhbghjaaDoor
