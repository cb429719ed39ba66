/- FilterSure: where it is sure, it is the turn, exactly; sure is nothing of which a point's bits are none. -/
import Derived.Test.YtknkakkdhihngaaLawN
import Derived.Test.YtknkakkdhihngaaFwN
namespace Go.Proofs.Ytknkakkdhihngaa
open Go.RowKit Ieee

theorem fin_of {b : Nat} (h : FinB b) : fin b = true := by unfold fin; exact decide_eq_true (by have := h.2; omega)
set_option maxHeartbeats 4000000 in
theorem filterSure_walk (ax ay bx b2 cx cy : Nat) (w : World) (h1 : ax < 18446744073709551616) (h2 : ay < 18446744073709551616) (h3 : bx < 18446744073709551616) (h4 : b2 < 18446744073709551616) (h5 : cx < 18446744073709551616) (h6 : cy < 18446744073709551616) :
    Calls Try.prog 4 #[.agg #[.int .u64 (ax : Int), .int .u64 (ay : Int)], .agg #[.int .u64 (bx : Int), .int .u64 (b2 : Int)], .agg #[.int .u64 (cx : Int), .int .u64 (cy : Int)]] w fun e w' => e = .returned (.bool true) ∧ Below w.heap.size w w' := by
  have T1 := fun W => turn_any ax ay bx b2 cx cy h1 h2 h3 h4 h5 h6 W
  have T2 := fun W => refTurn_any ax ay bx b2 cx cy h1 h2 h3 h4 h5 h6 _ _ _ _ _ _ rfl rfl rfl rfl rfl rfl W
  have GA := fun W => good_any ax ay _ _ h1 h2 rfl rfl W
  have GB := fun W => good_any bx b2 _ _ h3 h4 rfl rfl W
  have GC := fun W => good_any cx cy _ _ h5 h6 rfl rfl W
  have ho := @sign_sure ax ay bx b2 cx cy h1 h2 h3 h4 h5 h6
  have hn := @sign_not (prodC (Cls ax) (Cls cx) (Cls b2) (Cls cy)) (prodC (Cls ay) (Cls cy) (Cls bx) (Cls cx))
  obtain ⟨z, hz⟩ : ∃ z, z = signC (prodC (Cls ax) (Cls cx) (Cls b2) (Cls cy)) (prodC (Cls ay) (Cls cy) (Cls bx) (Cls cx)) := ⟨_, rfl⟩
  obtain ⟨s, hs⟩ : ∃ s, s = sureC (prodC (Cls ax) (Cls cx) (Cls b2) (Cls cy)) (prodC (Cls ay) (Cls cy) (Cls bx) (Cls cx)) := ⟨_, rfl⟩
  simp only [← hz, ← hs] at T1
  rw [← hz, ← hs] at ho hn
  clear hz hs
  cases s
  · have hz := hn rfl
    subst hz
    obtain ⟨ga, hga⟩ : ∃ g, g = (fin ax && fin ay) := ⟨_, rfl⟩
    obtain ⟨gb, hgb⟩ : ∃ g, g = (fin bx && fin b2) := ⟨_, rfl⟩
    obtain ⟨gc, hgc⟩ : ∃ g, g = (fin cx && fin cy) := ⟨_, rfl⟩
    simp only [← hga] at GA
    simp only [← hgb] at GB
    simp only [← hgc] at GC
    have H1 := Lib.hid T1; have HA := Lib.hid GA; have HB := Lib.hid GB; have HC := Lib.hid GC
    clear T1 T2 GA GB GC ho hn hga hgb hgc h1 h2 h3 h4 h5 h6
    obtain ⟨W0, hW0, hW, tA, tB, tC⟩ := enter3 w (.int .u64 (ax : Int)) (.int .u64 (ay : Int)) 24 (.int .u64 (bx : Int)) (.int .u64 (b2 : Int)) 24 (.int .u64 (cx : Int)) (.int .u64 (cy : Int)) 24
    have a0 := tA.c0; have a1 := tA.c1; have b0 := tB.c0; have b1 := tB.c1; have c0 := tC.c0; have c1 := tC.c1
    go_enter Try.func4, Try.ntmps4
    go_wp2_with fail
    rw [← hW0]
    clear hW0
    refine (awake7_any _).mono ?_
    rintro e W1 ⟨rfl, hb⟩
    replace tA := tA.next hb
    replace tB := tB.next hb
    replace tC := tC.next hb
    replace hW := below_next hW hb
    clear a0 a1 b0 b1 c0 c1 hb
    have a0 := tA.c0; have a1 := tA.c1; have b0 := tB.c0; have b1 := tB.c1; have c0 := tC.c0; have c1 := tC.c1
    go_wp2_with fail
    refine (H1.out _).mono ?_
    rintro e W2 ⟨rfl, hb⟩
    replace tA := tA.next hb
    replace tB := tB.next hb
    replace tC := tC.next hb
    replace hW := below_next hW hb
    clear a0 a1 b0 b1 c0 c1 hb
    have a0 := tA.c0; have a1 := tA.c1; have b0 := tB.c0; have b1 := tB.c1; have c0 := tC.c0; have c1 := tC.c1
    go_wp2_with fail
    refine (HA.out _).mono ?_
    rintro e W3 ⟨rfl, hb⟩
    replace tA := tA.next hb
    replace tB := tB.next hb
    replace tC := tC.next hb
    replace hW := below_next hW hb
    clear a0 a1 b0 b1 c0 c1 hb
    have a0 := tA.c0; have a1 := tA.c1; have b0 := tB.c0; have b1 := tB.c1; have c0 := tC.c0; have c1 := tC.c1
    cases ga
    · go_wp2
      go_ret
      exact ⟨rfl, hW⟩
    · go_wp2_with fail
      refine (HB.out _).mono ?_
      rintro e W4 ⟨rfl, hb⟩
      replace tA := tA.next hb
      replace tB := tB.next hb
      replace tC := tC.next hb
      replace hW := below_next hW hb
      clear a0 a1 b0 b1 c0 c1 hb
      have a0 := tA.c0; have a1 := tA.c1; have b0 := tB.c0; have b1 := tB.c1; have c0 := tC.c0; have c1 := tC.c1
      cases gb
      · go_wp2
        go_ret
        exact ⟨rfl, hW⟩
      · go_wp2_with fail
        refine (HC.out _).mono ?_
        rintro e W5 ⟨rfl, hb⟩
        replace tA := tA.next hb
        replace tB := tB.next hb
        replace tC := tC.next hb
        replace hW := below_next hW hb
        clear a0 a1 b0 b1 c0 c1 hb
        have a0 := tA.c0; have a1 := tA.c1; have b0 := tB.c0; have b1 := tB.c1; have c0 := tC.c0; have c1 := tC.c1
        cases gc
        · go_wp2
          go_ret
          exact ⟨rfl, hW⟩
        · go_wp2
          go_ret
          exact ⟨rfl, hW⟩
  · obtain ⟨g1, g2, g3, g4, g5, g6, hz, h0⟩ := ho rfl
    rw [fin_of g1, fin_of g2] at GA
    rw [fin_of g3, fin_of g4] at GB
    rw [fin_of g5, fin_of g6] at GC
    simp only [← hz] at T2
    have hz0 : z ≠ 0 := by
      intro h
      rw [h] at hz
      exact h0 (Int.sign_eq_zero_iff_zero.1 hz.symm)
    have H1 := Lib.hid T1; have HA := Lib.hid GA; have HB := Lib.hid GB; have HC := Lib.hid GC; have H2 := Lib.hid T2
    clear T1 T2 GA GB GC ho hn h1 h2 h3 h4 h5 h6 g1 g2 g3 g4 g5 g6 h0 hz
    obtain ⟨W0, hW0, hW, tA, tB, tC⟩ := enter3 w (.int .u64 (ax : Int)) (.int .u64 (ay : Int)) 24 (.int .u64 (bx : Int)) (.int .u64 (b2 : Int)) 24 (.int .u64 (cx : Int)) (.int .u64 (cy : Int)) 24
    have a0 := tA.c0; have a1 := tA.c1; have b0 := tB.c0; have b1 := tB.c1; have c0 := tC.c0; have c1 := tC.c1
    go_enter Try.func4, Try.ntmps4
    go_wp2_with fail
    rw [← hW0]
    clear hW0
    refine (awake7_any _).mono ?_
    rintro e W1 ⟨rfl, hb⟩
    replace tA := tA.next hb
    replace tB := tB.next hb
    replace tC := tC.next hb
    replace hW := below_next hW hb
    clear a0 a1 b0 b1 c0 c1 hb
    have a0 := tA.c0; have a1 := tA.c1; have b0 := tB.c0; have b1 := tB.c1; have c0 := tC.c0; have c1 := tC.c1
    go_wp2_with fail
    refine (H1.out _).mono ?_
    rintro e W2 ⟨rfl, hb⟩
    replace tA := tA.next hb
    replace tB := tB.next hb
    replace tC := tC.next hb
    replace hW := below_next hW hb
    clear a0 a1 b0 b1 c0 c1 hb
    have a0 := tA.c0; have a1 := tA.c1; have b0 := tB.c0; have b1 := tB.c1; have c0 := tC.c0; have c1 := tC.c1
    go_wp2_with fail
    refine (HA.out _).mono ?_
    rintro e W3 ⟨rfl, hb⟩
    replace tA := tA.next hb
    replace tB := tB.next hb
    replace tC := tC.next hb
    replace hW := below_next hW hb
    clear a0 a1 b0 b1 c0 c1 hb
    have a0 := tA.c0; have a1 := tA.c1; have b0 := tB.c0; have b1 := tB.c1; have c0 := tC.c0; have c1 := tC.c1
    go_wp2_with fail
    refine (HB.out _).mono ?_
    rintro e W4 ⟨rfl, hb⟩
    replace tA := tA.next hb
    replace tB := tB.next hb
    replace tC := tC.next hb
    replace hW := below_next hW hb
    clear a0 a1 b0 b1 c0 c1 hb
    have a0 := tA.c0; have a1 := tA.c1; have b0 := tB.c0; have b1 := tB.c1; have c0 := tC.c0; have c1 := tC.c1
    go_wp2_with fail
    refine (HC.out _).mono ?_
    rintro e W5 ⟨rfl, hb⟩
    replace tA := tA.next hb
    replace tB := tB.next hb
    replace tC := tC.next hb
    replace hW := below_next hW hb
    clear a0 a1 b0 b1 c0 c1 hb
    have a0 := tA.c0; have a1 := tA.c1; have b0 := tB.c0; have b1 := tB.c1; have c0 := tC.c0; have c1 := tC.c1
    go_wp2_with fail
    refine (H2.out _).mono ?_
    rintro e W6 ⟨rfl, hb⟩
    replace hW := below_next hW hb
    clear a0 a1 b0 b1 c0 c1 hb tA tB tC H1 H2 HA HB HC
    go_wp2
    all_goals
      go_ret
      first
        | exact ⟨rfl, hW⟩
        | (refine ⟨?_, hW⟩; simp [hz0]; done)
end Go.Proofs.Ytknkakkdhihngaa
