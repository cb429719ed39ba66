/- FilterTurned: by floats the turn of two points the other way round is the other one, where both are sure; alike points are never sure. -/
import Derived.Test.YtknkakkdhihngaaFwQ
namespace Go.Proofs.Ytknkakkdhihngaa
open Go.RowKit Ieee

/-- Sure: the sign of the exact turn, and it isn't 0. -/
theorem sign_sure {ax ay bx b2 cx cy : Nat} (h1 : ax < 18446744073709551616) (h2 : ay < 18446744073709551616) (h3 : bx < 18446744073709551616) (h4 : b2 < 18446744073709551616) (h5 : cx < 18446744073709551616) (h6 : cy < 18446744073709551616) (h : sureC (prodC (Cls ax) (Cls cx) (Cls b2) (Cls cy)) (prodC (Cls ay) (Cls cy) (Cls bx) (Cls cx)) = true) :
    FinB ax ∧ FinB ay ∧ FinB bx ∧ FinB b2 ∧ FinB cx ∧ FinB cy ∧ signC (prodC (Cls ax) (Cls cx) (Cls b2) (Cls cy)) (prodC (Cls ay) (Cls cy) (Cls bx) (Cls cx)) = ((fZ ax - fZ cx) * (fZ b2 - fZ cy) - (fZ ay - fZ cy) * (fZ bx - fZ cx)).sign ∧ (fZ ax - fZ cx) * (fZ b2 - fZ cy) - (fZ ay - fZ cy) * (fZ bx - fZ cx) ≠ 0 := by
  obtain ⟨xa, ya, xb, yb, xc, yc, f1, f2, f3, f4, f5, f6, s, hs, ho⟩ := turn_sure (cls_ok ax h1) (cls_ok ay h2) (cls_ok bx h3) (cls_ok b2 h4) (cls_ok cx h5) (cls_ok cy h6) h
  obtain ⟨g1, rfl⟩ := cls_fin f1
  obtain ⟨g2, rfl⟩ := cls_fin f2
  obtain ⟨g3, rfl⟩ := cls_fin f3
  obtain ⟨g4, rfl⟩ := cls_fin f4
  obtain ⟨g5, rfl⟩ := cls_fin f5
  obtain ⟨g6, rfl⟩ := cls_fin f6
  refine ⟨g1, g2, g3, g4, g5, g6, ?_, ?_⟩
  · unfold signC
    rw [h, hs]
    rcases ho with ⟨rfl, ho⟩ | ⟨rfl, ho⟩ <;> rw [ho] <;> rfl
  · intro h0
    rw [h0] at hs
    simp at hs
    omega
theorem sign_not {L R : Option Nat} (h : sureC L R = false) : signC L R = 0 := by unfold signC; rw [h]; rfl
/-- Alike points: never. -/
theorem turn_alike {ax ay cx cy : Nat} (h1 : ax < 18446744073709551616) (h2 : ay < 18446744073709551616) (h5 : cx < 18446744073709551616) (h6 : cy < 18446744073709551616) : sureC (prodC (Cls ax) (Cls cx) (Cls ay) (Cls cy)) (prodC (Cls ay) (Cls cy) (Cls ax) (Cls cx)) = false := by
  cases h : sureC (prodC (Cls ax) (Cls cx) (Cls ay) (Cls cy)) (prodC (Cls ay) (Cls cy) (Cls ax) (Cls cx))
  · rfl
  · exfalso
    obtain ⟨_, _, _, _, _, _, _, h0⟩ := sign_sure h1 h2 h1 h2 h5 h6 h
    rw [Int.mul_comm (fZ ay - fZ cy)] at h0
    omega
theorem far_alike {ax ay : Nat} (h1 : ax < 18446744073709551616) (h2 : ay < 18446744073709551616) : firmC (farC (Cls ax) (Cls ay) (Cls ax) (Cls ay)) = false := by
  cases h : firmC (farC (Cls ax) (Cls ay) (Cls ax) (Cls ay))
  · rfl
  · exfalso
    obtain ⟨xa, ya, xb, yb, d, f1, f2, f3, f4, f5, h0, h7⟩ := far_sure (cls_ok ax h1) (cls_ok ay h2) (cls_ok ax h1) (cls_ok ay h2) h
    obtain ⟨K, hK⟩ := isK_ex
    have e1 := finc_one f1 f3
    have e2 := finc_one f2 f4
    subst e1 e2
    have := (h7 K hK).2
    simp at this
theorem turn_other {ax ay bx b2 cx cy : Nat} (h1 : ax < 18446744073709551616) (h2 : ay < 18446744073709551616) (h3 : bx < 18446744073709551616) (h4 : b2 < 18446744073709551616) (h5 : cx < 18446744073709551616) (h6 : cy < 18446744073709551616) (h : sureC (prodC (Cls ax) (Cls cx) (Cls b2) (Cls cy)) (prodC (Cls ay) (Cls cy) (Cls bx) (Cls cx)) = true) (h' : sureC (prodC (Cls bx) (Cls cx) (Cls ay) (Cls cy)) (prodC (Cls b2) (Cls cy) (Cls ax) (Cls cx)) = true) :
    signC (prodC (Cls ax) (Cls cx) (Cls b2) (Cls cy)) (prodC (Cls ay) (Cls cy) (Cls bx) (Cls cx)) = -signC (prodC (Cls bx) (Cls cx) (Cls ay) (Cls cy)) (prodC (Cls b2) (Cls cy) (Cls ax) (Cls cx)) := by
  obtain ⟨_, _, _, _, _, _, e1, _⟩ := sign_sure h1 h2 h3 h4 h5 h6 h
  obtain ⟨_, _, _, _, _, _, e2, _⟩ := sign_sure h3 h4 h1 h2 h5 h6 h'
  rw [e1, e2, ← Int.sign_neg, Int.neg_sub, Int.mul_comm (fZ b2 - fZ cy), Int.mul_comm (fZ bx - fZ cx)]
theorem sign_bound (L R : Option Nat) : -1 ≤ signC L R ∧ signC L R ≤ 1 := by
  unfold signC
  split
  · split <;> omega
  · omega
set_option maxHeartbeats 4000000 in
theorem filterTurned_walk (ax ay bx b2 cx cy : Nat) (w : World) (h1 : ax < 18446744073709551616) (h2 : ay < 18446744073709551616) (h3 : bx < 18446744073709551616) (h4 : b2 < 18446744073709551616) (h5 : cx < 18446744073709551616) (h6 : cy < 18446744073709551616) :
    Calls Try.prog 6 #[.agg #[.int .u64 (ax : Int), .int .u64 (ay : Int)], .agg #[.int .u64 (bx : Int), .int .u64 (b2 : Int)], .agg #[.int .u64 (cx : Int), .int .u64 (cy : Int)]] w fun e w' => e = .returned (.bool true) ∧ Below w.heap.size w w' := by
  have T1 := fun W => turn_any ax ay bx b2 cx cy h1 h2 h3 h4 h5 h6 W
  have T2 := fun W => turn_any bx b2 ax ay cx cy h3 h4 h1 h2 h5 h6 W
  have T3 := fun W => turn_any ax ay ax ay cx cy h1 h2 h1 h2 h5 h6 W
  have T4 := fun W => far_any ax ay ax ay h1 h2 h1 h2 W
  have ho := turn_other h1 h2 h3 h4 h5 h6
  rw [turn_alike h1 h2 h5 h6, sign_not (turn_alike h1 h2 h5 h6)] at T3
  rw [far_alike h1 h2] at T4
  have hb := sign_bound (prodC (Cls bx) (Cls cx) (Cls ay) (Cls cy)) (prodC (Cls b2) (Cls cy) (Cls ax) (Cls cx))
  obtain ⟨z, hz⟩ : ∃ z, z = signC (prodC (Cls ax) (Cls cx) (Cls b2) (Cls cy)) (prodC (Cls ay) (Cls cy) (Cls bx) (Cls cx)) := ⟨_, rfl⟩
  obtain ⟨s, hs⟩ : ∃ s, s = sureC (prodC (Cls ax) (Cls cx) (Cls b2) (Cls cy)) (prodC (Cls ay) (Cls cy) (Cls bx) (Cls cx)) := ⟨_, rfl⟩
  obtain ⟨z2, hz2⟩ : ∃ z, z = signC (prodC (Cls bx) (Cls cx) (Cls ay) (Cls cy)) (prodC (Cls b2) (Cls cy) (Cls ax) (Cls cx)) := ⟨_, rfl⟩
  obtain ⟨s2, hs2⟩ : ∃ s, s = sureC (prodC (Cls bx) (Cls cx) (Cls ay) (Cls cy)) (prodC (Cls b2) (Cls cy) (Cls ax) (Cls cx)) := ⟨_, rfl⟩
  simp only [← hz, ← hs] at T1
  simp only [← hz2, ← hs2] at T2
  rw [← hz, ← hz2, ← hs, ← hs2] at ho
  rw [← hz2] at hb
  have hw : IntKind.i64.wrap (-z2) = -z2 := IntWalk.i64_in _ (by omega)
  have H1 := Lib.hid T1; have H2 := Lib.hid T2; have H3 := Lib.hid T3; have H4 := Lib.hid T4
  have HO := Lib.hid ho
  clear T1 T2 T3 T4 hz hs hz2 hs2 ho hb h1 h2 h3 h4 h5 h6
  obtain ⟨W0, hW0, hW, tA, tB, tC⟩ := enter3 w (.int .u64 (ax : Int)) (.int .u64 (ay : Int)) 24 (.int .u64 (bx : Int)) (.int .u64 (b2 : Int)) 24 (.int .u64 (cx : Int)) (.int .u64 (cy : Int)) 24
  have a0 := tA.c0; have a1 := tA.c1; have b0 := tB.c0; have b1 := tB.c1; have c0 := tC.c0; have c1 := tC.c1
  go_enter Try.func6, Try.ntmps6
  go_wp2_with fail
  rw [← hW0]
  clear hW0
  refine (awake7_any _).mono ?_
  rintro e W1 ⟨rfl, hb⟩
  replace tA := tA.next hb
  replace tB := tB.next hb
  replace tC := tC.next hb
  replace hW := below_next hW hb
  clear a0 a1 b0 b1 c0 c1 hb
  have a0 := tA.c0; have a1 := tA.c1; have b0 := tB.c0; have b1 := tB.c1; have c0 := tC.c0; have c1 := tC.c1
  go_wp2_with fail
  refine (H1.out _).mono ?_
  rintro e W2 ⟨rfl, hb⟩
  replace tA := tA.next hb
  replace tB := tB.next hb
  replace tC := tC.next hb
  replace hW := below_next hW hb
  clear a0 a1 b0 b1 c0 c1 hb
  have a0 := tA.c0; have a1 := tA.c1; have b0 := tB.c0; have b1 := tB.c1; have c0 := tC.c0; have c1 := tC.c1
  go_wp2_with fail
  refine (H2.out _).mono ?_
  rintro e W3 ⟨rfl, hb⟩
  replace tA := tA.next hb
  replace tB := tB.next hb
  replace tC := tC.next hb
  replace hW := below_next hW hb
  clear a0 a1 b0 b1 c0 c1 hb
  have a0 := tA.c0; have a1 := tA.c1; have b0 := tB.c0; have b1 := tB.c1; have c0 := tC.c0; have c1 := tC.c1
  go_wp2_with fail
  refine (H3.out _).mono ?_
  rintro e W4 ⟨rfl, hb⟩
  replace tA := tA.next hb
  replace tB := tB.next hb
  replace tC := tC.next hb
  replace hW := below_next hW hb
  clear a0 a1 b0 b1 c0 c1 hb
  have a0 := tA.c0; have a1 := tA.c1; have b0 := tB.c0; have b1 := tB.c1; have c0 := tC.c0; have c1 := tC.c1
  go_wp2_with fail
  refine (H4.out _).mono ?_
  rintro e W5 ⟨f, rfl, hf, hb⟩
  replace hW := below_next hW hb
  clear a0 a1 b0 b1 c0 c1 hb tA tB tC hf H1 H2 H3 H4
  cases s
  · cases s2
    · go_wp2
      all_goals
        go_ret
        first
          | exact ⟨rfl, hW⟩
          | (refine ⟨?_, hW⟩; simp; done)
    · go_wp2
      all_goals
        go_ret
        first
          | exact ⟨rfl, hW⟩
          | (refine ⟨?_, hW⟩; simp; done)
  · cases s2
    · go_wp2
      all_goals
        go_ret
        first
          | exact ⟨rfl, hW⟩
          | (refine ⟨?_, hW⟩; simp; done)
    · have hz := HO.out rfl rfl
      go_wp2
      all_goals
        go_ret
        first
          | exact ⟨rfl, hW⟩
          | (refine ⟨?_, hW⟩; simp [hz]; done)
end Go.Proofs.Ytknkakkdhihngaa
