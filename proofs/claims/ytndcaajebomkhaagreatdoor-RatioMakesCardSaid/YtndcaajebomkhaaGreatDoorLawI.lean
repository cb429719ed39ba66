/- RatioMakes, the law's walk: any number over any other one is the ratio that the document says, or none. -/
import Derived.Test.YtndcaajebomkhaaGreatDoorRatC
import Derived.Test.YtndcaajebomkhaaGreatDoorRatB
import Derived.Test.YtndcaajebomkhaaGreatDoorRefR
import Derived.Test.YtndcaajebomkhaaGreatDoorRefX
import Derived.Test.YtndcaajebomkhaaGreatDoorAs
namespace Go.Proofs.YtndcaajebomkhaaGreatDoor
open Go.RowKit

theorem num64 : numOf 6 (-4) = -3 := by unfold numOf; decide
theorem den64 : denOf 6 (-4) = 2 := by unfold denOf; decide
theorem small_len {z : Int} {L : Nat} (h : z.natAbs < 65536) (hL : 1 ≤ L) : (digs W64 z.natAbs).length ≤ L :=
  Nat.le_trans ((digs_length_le two_le_W64 _ _).2 (by rw [Nat.pow_one]; unfold W64; omega)) hL
theorem small_len16 {z : Int} {L : Nat} (h : z.natAbs < 65536) (hL : 1 ≤ L) : (digs 65536 z.natAbs).length ≤ L :=
  Nat.le_trans ((digs_length_le (by omega) _ _).2 (by rw [Nat.pow_one]; exact h)) hL
theorem ratNil (w : World) : RatAt w (.agg #[.bool false, .slice none 0 0, .bool false, .slice none 0 0]) 0 0 :=
  ⟨none, 0, 0, none, 0, 0, rfl, Nat.le_refl _, Nat.le_refl _, by rw [show (0 : Int).natAbs = 0 from rfl, digs_zero]; exact Rd.nil _ _ _ _ _, by rw [show (0 : Int).natAbs = 0 from rfl, digs_zero]; exact Rd.nil _ _ _ _ _⟩
theorem text3 : textB (-3) = [45, 51] := by unfold textB; rw [if_pos (by omega), show (-3 : Int).natAbs = 3 from rfl, dec_small (by decide)]; rfl
theorem text2 : textB 2 = [50] := by unfold textB; rw [if_neg (by omega), show (2 : Int).natAbs = 2 from rfl, dec_small (by decide)]; rfl
theorem PlainAt.open {w : World} {v : Value} {z : Int} (h : PlainAt w v z) : ∃ q m c, v = .agg #[.bool (decide (z < 0)), .slice q m c] ∧ m ≤ c ∧ Rd .u64 W64 w.heap.size w q m (digs W64 z.natAbs) := h

set_option maxRecDepth 100000 in
set_option maxHeartbeats 4000000 in
theorem awake4_any (w : World) (hT : TabVar w) (hP : PowVar w) : Calls Tryz.prog 14 #[] w fun e w' => e = .returned (.bool true) ∧ Below w.heap.size w w' := by
  go_enter Tryz.func14, Tryz.ntmps14
  go_wp2_with fail
  refine (refSmall_any 6 w (by omega) (by omega)).mono ?_
  rintro e w1 ⟨v1, rfl, p1, hW⟩
  replace hT := hT.below hW
  replace hP := hP.below hW
  go_wp2_with fail
  refine (refTo_any v1 6 w1 p1 (small_len16 (by decide) (by omega))).mono ?_
  rintro e w2 ⟨v2, rfl, p2, hb⟩
  replace hT := hT.below hb
  replace hP := hP.below hb
  replace hW := below_next hW hb
  clear hb p1
  go_wp2_with fail
  refine (refSmall_any (-4) w2 (by omega) (by omega)).mono ?_
  rintro e w3 ⟨v3, rfl, p3, hb⟩
  replace p2 := p2.next hb
  replace hT := hT.below hb
  replace hP := hP.below hb
  replace hW := below_next hW hb
  clear hb
  go_wp2_with fail
  refine (refTo_any v3 (-4) w3 p3 (small_len16 (by decide) (by omega))).mono ?_
  rintro e w4 ⟨v4, rfl, p4, hb⟩
  replace p2 := p2.next hb
  replace hT := hT.below hb
  replace hP := hP.below hb
  replace hW := below_next hW hb
  clear hb p3
  obtain ⟨q, m, c, rfl, h1, hR⟩ := p2
  obtain ⟨q', m', c', rfl, h2, hR'⟩ := p4
  have k1 : m ≤ 1024 := by have := hR.count; have := small_len (z := 6) (L := 1) (by decide) (by omega); omega
  have k2 : m' ≤ 1024 := by have := hR'.count; have := small_len (z := -4) (L := 1) (by decide) (by omega); omega
  go_wp2_with fail
  refine (ratioMake_any _ _ q q' m m' c c' _ _ w4 h1 h2 k1 k2 hR hR' hT (z := 6) (d := -4) (by rw [val_digs two_le_W64]; rfl) (by rw [val_digs two_le_W64]; rfl) (by omega)).mono ?_
  rw [num64, den64]
  rintro e w5 ⟨vr, rfl, pr, hb⟩
  replace hT := hT.below hb
  replace hP := hP.below hb
  replace hW := below_next hW hb
  clear hb hR hR' h1 h2 k1 k2
  obtain ⟨q1, m1, c1, q2, m2, c2, rfl, e1, e2, e3, e4⟩ := pr
  have pr : RatAt w5 (.agg #[.bool true, .slice q1 m1 c1, .bool false, .slice q2 m2 c2]) (-3) 2 := ⟨q1, m1, c1, q2, m2, c2, rfl, e1, e2, e3, e4⟩
  rw [show decide ((-3 : Int) < 0) = true from rfl, show decide ((2 : Int) < 0) = false from rfl]
  clear e1 e2 e3 e4
  have tR := Four.new w5 (.bool true) (.slice q1 m1 c1) (.bool false) (.slice q2 m2 c2) 44
  have hal : Below w5.heap.size w5 (w5.alloc (.cells #[.bool true, .slice q1 m1 c1, .bool false, .slice q2 m2 c2] 44)) := bal
  go_wp2_with fail
  obtain ⟨R, hR⟩ : ∃ R, R = w5.heap.size := ⟨_, rfl⟩
  obtain ⟨w6, hw6⟩ : ∃ w6, w6 = w5.alloc (.cells #[.bool true, .slice q1 m1 c1, .bool false, .slice q2 m2 c2] 44) := ⟨_, rfl⟩
  rw [← hw6] at tR hal ⊢
  rw [← hR] at tR ⊢
  clear hw6 hR
  replace pr := pr.next hal
  replace hT := hT.below hal
  replace hP := hP.below hal
  replace hW := below_next hW hal
  clear hal
  refine (ratioText_over _ (-3) 2 w6 pr (by omega) (by decide) (small_len (by decide) (by omega)) (small_len (by decide) (by omega)) (by rw [text3]; simp) (by rw [text2]; simp) hT hP).mono ?_
  rw [text3, text2]
  rintro e w7 ⟨rfl, hb⟩
  replace pr := pr.next hb
  replace tR := tR.next hb
  replace hT := hT.below hb
  replace hW := below_next hW hb
  clear hb hP
  have t0 := tR.c0; have t1 := tR.c1; have t2 := tR.c2; have t3 := tR.c3
  rw [show (⟨([45, 51] ++ 47 :: [50] : List UInt8).toArray⟩ : ByteArray) = ⟨#[45, 51, 47, 50]⟩ from rfl]
  go_wp2_with fail
  refine (ratioRight_yes _ (-3) 2 w7 pr (by omega) (by decide) (small_len (by decide) (by omega)) (small_len (by decide) (by omega)) hT).mono ?_
  rintro e w8 ⟨rfl, hb⟩
  replace hW := below_next hW hb
  clear hb t0 t1 t2 t3 tR pr hT
  go_wp2_with fail
  refine (ratioRight_zero _ w8 (ratNil w8)).mono ?_
  rintro e w9 ⟨rfl, hb⟩
  replace hW := below_next hW hb
  clear hb
  go_wp2
  go_ret
  exact ⟨rfl, hW⟩

set_option maxRecDepth 100000 in
set_option maxHeartbeats 8000000 in
theorem ratioMakes_walk (n n' : Bool) (q q' : Option Addr) (m m' c c' : Nat) (xs ys : List Nat) (w : World) (h1 : m ≤ c) (h2 : m' ≤ c')
    (hR : Rd .u64 W64 w.heap.size w q m xs) (hR' : Rd .u64 W64 w.heap.size w q' m' ys) (hT : TabVar w) (hP : PowVar w) (hg : ErrVar w) :
    Calls Tryz.prog 4 #[.agg #[.bool n, .slice q m c], .agg #[.bool n', .slice q' m' c']] w fun e w' => e = .returned (.bool true) ∧ Below w.heap.size w w' := by
  obtain ⟨W0, hW0, hW, tA, tB⟩ := enter2 w (.bool n) (.slice q m c) 24 (.bool n') (.slice q' m' c') 24
  have HA := Lib.hid (awake4_any W0 (hT.below hW) (hP.below hW))
  by_cases b1 : 8 < m
  · go_enter Tryz.func4, Tryz.ntmps4
    go_wp2_with fail
    rw [← hW0]
    clear hW0
    refine (HA.out).mono ?_
    rintro e w1 ⟨rfl, hb1⟩
    have c1 := (tA.next hb1).c1
    have c2 := (tB.next hb1).c1
    go_wp2
    go_ret
    exact ⟨rfl, below_next hW hb1⟩
  by_cases b2 : 8 < m'
  · go_enter Tryz.func4, Tryz.ntmps4
    go_wp2_with fail
    rw [← hW0]
    clear hW0
    refine (HA.out).mono ?_
    rintro e w1 ⟨rfl, hb1⟩
    have c1 := (tA.next hb1).c1
    have c2 := (tB.next hb1).c1
    go_wp2
    go_ret
    exact ⟨rfl, below_next hW hb1⟩
  have a1 : m ≤ 8 := by omega
  have a2 : m' ≤ 8 := by omega
  clear b1 b2
  obtain ⟨z, hz⟩ : ∃ z, wv n (val W64 xs) = z := ⟨_, rfl⟩
  obtain ⟨d, hd⟩ : ∃ d, wv n' (val W64 ys) = d := ⟨_, rfl⟩
  have bz : Hid (z.natAbs < W64 ^ 8) := Lib.hid (by rw [← hz, wv_abs]; exact hR.val_lt W64_pos a1)
  have bd : Hid (d.natAbs < W64 ^ 8) := Lib.hid (by rw [← hd, wv_abs]; exact hR'.val_lt W64_pos a2)
  have HZ := Lib.hid hz
  have HD := Lib.hid hd
  replace hR := hR.next hW
  replace hR' := hR'.next hW
  replace hT := hT.below hW
  replace hg := hg.below hW
  have iA : IntAt W0 (.agg #[.bool n, .slice q m c]) 900000 z := ⟨n, q, m, c, xs, rfl, h1, by omega, hR, hz⟩
  have iB : IntAt W0 (.agg #[.bool n', .slice q' m' c']) 900000 d := ⟨n', q', m', c', ys, rfl, h2, by omega, hR', hd⟩
  clear hz hd hP
  go_enter Tryz.func4, Tryz.ntmps4
  go_wp2_with fail
  rw [← hW0]
  clear hW0
  refine (HA.out).mono ?_
  rintro e w1 ⟨rfl, hb⟩
  replace hR := hR.next hb
  replace hR' := hR'.next hb
  replace hT := hT.below hb
  replace hg := hg.below hb
  replace iA := iA.next hb
  replace iB := iB.next hb
  replace tA := tA.next hb
  replace tB := tB.next hb
  replace hW := below_next hW hb
  clear hb HA
  have cA0 := tA.c0; have cA1 := tA.c1; have cB0 := tB.c0; have cB1 := tB.c1
  by_cases hd0 : d = 0
  · subst hd0
    go_wp2_with fail
    refine (ratioMake_zero n n' q q' m m' c c' ys w1 h2 (by omega) hR' HD.out).mono ?_
    rintro e w2 ⟨rfl, hb⟩
    replace hg := hg.below hb
    replace iB := iB.next hb
    replace tB := tB.next hb
    replace hW := below_next hW hb
    clear hb cA0 cA1 cB0 cB1 hR hR' hT iA tA
    have cB0 := tB.c0; have cB1 := tB.c1
    have cB0a : (w2.alloc (.cells #[.bool false, .slice none 0 0, .bool false, .slice none 0 0] 44)).cell? ⟨w.heap.size + 1, 0, none⟩ = some (.bool n') := kal cB0
    have cB1a : (w2.alloc (.cells #[.bool false, .slice none 0 0, .bool false, .slice none 0 0] 44)).cell? ⟨w.heap.size + 1, 1, none⟩ = some (.slice q' m' c') := kal cB1
    have tR := Four.new w2 (.bool false) (.slice none 0 0) (.bool false) (.slice none 0 0) 44
    have hal : Below w2.heap.size w2 (w2.alloc (.cells #[.bool false, .slice none 0 0, .bool false, .slice none 0 0] 44)) := bal
    go_wp2_with fail
    obtain ⟨R, hRR⟩ : ∃ R, R = w2.heap.size := ⟨_, rfl⟩
    obtain ⟨w3, hw3⟩ : ∃ w3, w3 = w2.alloc (.cells #[.bool false, .slice none 0 0, .bool false, .slice none 0 0] 44) := ⟨_, rfl⟩
    rw [← hw3] at tR hal ⊢
    rw [← hRR] at tR ⊢
    clear hw3 hRR cB0 cB1 cB0a cB1a tB
    replace hg := hg.below hal
    replace iB := iB.next hal
    replace hW := below_next hW hal
    clear hal
    refine (refFromN_any _ 0 w3 iB).mono ?_
    rintro e w4 ⟨vd, rfl, pD, hb⟩
    replace hg := hg.below hb
    replace tR := tR.next hb
    replace hW := below_next hW hb
    clear hb iB
    obtain ⟨qd, md, cd, rfl⟩ := pD.num.parts
    rw [decide_eq_false (show ¬ (0 : Int) < 0 by omega)] at pD ⊢
    have hal : Below w4.heap.size w4 (w4.alloc (.cells #[.bool false, .slice qd md cd] 28)) := bal
    go_wp2_with fail
    obtain ⟨w5, hw5⟩ : ∃ w5, w5 = w4.alloc (.cells #[.bool false, .slice qd md cd] 28) := ⟨_, rfl⟩
    rw [← hw5] at hal ⊢
    clear hw5
    replace hg := hg.below hal
    replace pD := pD.next hal
    replace tR := tR.next hal
    replace hW := below_next hW hal
    clear hal
    refine (refSign_any _ 0 0 w5 pD.num rfl).mono ?_
    rintro e w6 ⟨rfl, hb⟩
    replace hg := hg.below hb
    replace tR := tR.next hb
    replace hW := below_next hW hb
    clear hb pD
    go_wp2_with fail
    refine (code_hit 6 (by omega) (by omega) w6 hg).mono ?_
    rintro e w7 ⟨rfl, hb⟩
    replace tR := tR.next hb
    replace hW := below_next hW hb
    clear hb hg
    have t0 := tR.c0; have t1 := tR.c1; have t2 := tR.c2; have t3 := tR.c3
    go_wp2_with fail
    refine (refRatioSame_any _ _ 0 0 w7 (ratNil w7) (ratNil w7) (small_len (by decide) (by omega)) (small_len (by decide) (by omega))).mono ?_
    rintro e w8 ⟨rfl, hb⟩
    replace hW := below_next hW hb
    clear hb t0 t1 t2 t3 tR
    go_wp2
    go_ret
    exact ⟨rfl, hW⟩
  · have hs0 : ¬ d.sign = 0 := by
      have := sign_cases d
      omega
    obtain ⟨s, hs⟩ : ∃ s, d.sign = s := ⟨_, rfl⟩
    rw [hs] at hs0
    have HS := Lib.hid hs
    have HD0 := Lib.hid hd0
    clear hs hd0
    go_wp2_with fail
    refine (ratioMake_any n n' q q' m m' c c' xs ys w1 h1 h2 (by omega) (by omega) hR hR' hT HZ.out HD.out HD0.out).mono ?_
    have HB : Hid ((digs W64 (numOf z d).natAbs).length ≤ 8 ∧ (digs W64 (denOf z d).natAbs).length ≤ 8) := Lib.hid ⟨len_of (k := 8) (by rw [numOf_abs]; exact Nat.lt_of_le_of_lt (Nat.div_le_self _ _) bz.out) (by omega), len_of (k := 8) (by rw [denOf_abs]; exact Nat.lt_of_le_of_lt (Nat.div_le_self _ _) bd.out) (by omega)⟩
    have HRT : Hid (0 < denOf z d ∧ Nat.gcd (numOf z d).natAbs (denOf z d).natAbs = 1) := Lib.hid ⟨denOf_pos HD0.out, gcd_least HD0.out⟩
    have HMK := Lib.hid (fun v v' W (hv : NumN W v z) (hv' : NumN W v' d) => refRatioMake_any v v' z d W hv hv' HD0.out (by have := num_len (k := 32) bz.out rfl; omega) (by have := num_len (k := 32) bd.out rfl; omega))
    obtain ⟨zn, hzn⟩ : ∃ zn, zn = numOf z d := ⟨_, rfl⟩
    obtain ⟨dn, hdn⟩ : ∃ dn, dn = denOf z d := ⟨_, rfl⟩
    rw [← hzn, ← hdn] at HB HRT HMK ⊢
    clear hzn hdn HD0 HZ HD bz bd
    rintro e w2 ⟨vr, rfl, pR, hb⟩
    obtain ⟨q1, m1, c1, q2, m2, c2, rfl, e1, e2, e3, e4⟩ := pR
    have pR : RatAt w2 (.agg #[.bool (decide (zn < 0)), .slice q1 m1 c1, .bool (decide (dn < 0)), .slice q2 m2 c2]) zn dn := ⟨q1, m1, c1, q2, m2, c2, rfl, e1, e2, e3, e4⟩
    obtain ⟨f1, hf1⟩ : ∃ f1, f1 = decide (zn < 0) := ⟨_, rfl⟩
    obtain ⟨f2, hf2⟩ : ∃ f2, f2 = decide (dn < 0) := ⟨_, rfl⟩
    rw [← hf1, ← hf2] at pR ⊢
    clear e1 e2 e3 e4 hf1 hf2
    replace hT := hT.below hb
    replace iA := iA.next hb
    replace iB := iB.next hb
    replace tA := tA.next hb
    replace tB := tB.next hb
    replace hW := below_next hW hb
    clear hb cA0 cA1 cB0 cB1 hR hR' hg
    have cB0 := tB.c0; have cB1 := tB.c1
    have cB0a : (w2.alloc (.cells #[.bool f1, .slice q1 m1 c1, .bool f2, .slice q2 m2 c2] 44)).cell? ⟨w.heap.size + 1, 0, none⟩ = some (.bool n') := kal cB0
    have cB1a : (w2.alloc (.cells #[.bool f1, .slice q1 m1 c1, .bool f2, .slice q2 m2 c2] 44)).cell? ⟨w.heap.size + 1, 1, none⟩ = some (.slice q' m' c') := kal cB1
    have tR := Four.new w2 (.bool f1) (.slice q1 m1 c1) (.bool f2) (.slice q2 m2 c2) 44
    have hal : Below w2.heap.size w2 (w2.alloc (.cells #[.bool f1, .slice q1 m1 c1, .bool f2, .slice q2 m2 c2] 44)) := bal
    go_wp2_with fail
    obtain ⟨R, hRR⟩ : ∃ R, R = w2.heap.size := ⟨_, rfl⟩
    obtain ⟨w3, hw3⟩ : ∃ w3, w3 = w2.alloc (.cells #[.bool f1, .slice q1 m1 c1, .bool f2, .slice q2 m2 c2] 44) := ⟨_, rfl⟩
    rw [← hw3] at tR hal ⊢
    rw [← hRR] at tR ⊢
    clear hw3 hRR cB0 cB1 cB0a cB1a tB
    replace hT := hT.below hal
    replace iA := iA.next hal
    replace iB := iB.next hal
    replace pR := pR.next hal
    replace tA := tA.next hal
    replace hW := below_next hW hal
    clear hal
    refine (refFromN_any _ d w3 iB).mono ?_
    rintro e w4 ⟨vd, rfl, pD, hb⟩
    replace hT := hT.below hb
    replace iA := iA.next hb
    replace pR := pR.next hb
    replace tA := tA.next hb
    replace tR := tR.next hb
    replace hW := below_next hW hb
    clear hb iB
    obtain ⟨qd, md, cd, rfl⟩ := pD.num.parts
    obtain ⟨fd, hfd⟩ : ∃ fd, fd = decide (d < 0) := ⟨_, rfl⟩
    rw [← hfd] at pD ⊢
    clear hfd
    have tD := Two.new w4 (.bool fd) (.slice qd md cd) 28
    have hal : Below w4.heap.size w4 (w4.alloc (.cells #[.bool fd, .slice qd md cd] 28)) := bal
    go_wp2_with fail
    obtain ⟨D, hDD⟩ : ∃ D, D = w4.heap.size := ⟨_, rfl⟩
    obtain ⟨w5, hw5⟩ : ∃ w5, w5 = w4.alloc (.cells #[.bool fd, .slice qd md cd] 28) := ⟨_, rfl⟩
    rw [← hw5] at tD hal ⊢
    rw [← hDD] at tD ⊢
    clear hw5 hDD
    replace hT := hT.below hal
    replace iA := iA.next hal
    replace pD := pD.next hal
    replace pR := pR.next hal
    replace tA := tA.next hal
    replace tR := tR.next hal
    replace hW := below_next hW hal
    clear hal
    refine (refSign_any _ d s w5 pD.num HS.out).mono ?_
    rintro e w6 ⟨rfl, hb⟩
    replace hT := hT.below hb
    replace iA := iA.next hb
    replace pD := pD.next hb
    replace pR := pR.next hb
    replace tA := tA.next hb
    replace tR := tR.next hb
    replace tD := tD.next hb
    replace hW := below_next hW hb
    clear hb
    have cA0 := tA.c0; have cA1 := tA.c1
    have t0 := tR.c0; have t1 := tR.c1; have t2 := tR.c2; have t3 := tR.c3
    have u0 := tD.c0; have u1 := tD.c1
    have hS := Below.refl w6.heap.size w6
    clear tA tR tD
    have HB1 : Hid ((digs W64 zn.natAbs).length ≤ 900000 ∧ (digs W64 dn.natAbs).length ≤ 900000) := Lib.hid ⟨by have := HB.out.1; omega, by have := HB.out.2; omega⟩
    have HB2 : Hid ((digs W64 zn.natAbs).length ≤ 1024 ∧ (digs W64 dn.natAbs).length ≤ 1024) := Lib.hid ⟨by have := HB.out.1; omega, by have := HB.out.2; omega⟩
    go_wp2_with fail
    go_region_held3 (fun w' => Below w6.heap.size w6 w' ∧ w'.cell? ⟨w.heap.size, 0, none⟩ = some (.bool n) ∧ w'.cell? ⟨w.heap.size, 1, none⟩ = some (.slice q m c) ∧ w'.cell? ⟨R, 0, none⟩ = some (.bool f1) ∧ w'.cell? ⟨R, 1, none⟩ = some (.slice q1 m1 c1) ∧ w'.cell? ⟨R, 2, none⟩ = some (.bool f2) ∧ w'.cell? ⟨R, 3, none⟩ = some (.slice q2 m2 c2) ∧ w'.cell? ⟨D, 0, none⟩ = some (.bool fd) ∧ w'.cell? ⟨D, 1, none⟩ = some (.slice qd md cd))
      (((try go_split_ands); ((repeat' apply And.intro) <;> with_reducible first | assumption | exact below_next (by assumption) hb | exact kd (by assumption) | exact kp hb (by assumption) | exact kdc (by assumption))))
      (first
        | (go_at_call 6; (try go_split_ands); refine (refFromN_any _ z _ (iA.next (by assumption))).mono ?_; rintro e W1 ⟨vx, rfl, pX, hb⟩; obtain ⟨qx, mx, cx, rfl⟩ := pX.num.parts)
        | (go_at_call 18; (try go_split_ands); refine (HMK.out _ _ _ (by first | exact pX | exact pX.next (kd (Below.refl _ _))) (pD.next (by assumption))).mono ?_; rintro e W2 ⟨vm, rfl, pM, hb⟩; obtain ⟨q7, m7, c7, q8, m8, c8, rfl, _⟩ := pM.parts)
        | (go_at_call 17; (try go_split_ands); refine (refRatioSame_any _ _ zn dn _ (pR.next (by assumption)) (by first | exact pM | exact pM.next (kd (Below.refl _ _))) HB1.out.1 HB1.out.2).mono ?_; rintro e W3 ⟨rfl, hb⟩)
        | (go_at_call 19; (try go_split_ands); refine (ratioRight_yes _ zn dn _ (pR.next (by assumption)) HRT.out.1 HRT.out.2 HB2.out.1 HB2.out.2 (hT.below (by assumption))).mono ?_; rintro e W4 ⟨rfl, hb⟩))
    go_split_ands
    have hfin : Below w6.heap.size w6 W4 := by assumption
    replace hW := below_next hW hfin
    clear hfin hS cA0 cA1 t0 t1 t2 t3 u0 u1 pD pR pM pX iA hT HMK
    go_wp2
    go_ret
    exact ⟨rfl, hW⟩
end Go.Proofs.YtndcaajebomkhaaGreatDoor
