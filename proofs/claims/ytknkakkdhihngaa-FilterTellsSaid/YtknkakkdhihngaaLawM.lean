/- FilterTells: by floats any three points turn, and any two lie apart, as the document says. -/
import Derived.Test.YtknkakkdhihngaaFwQ
import Derived.Test.YtknkakkdhihngaaFwK
namespace Go.Proofs.Ytknkakkdhihngaa
open Go.RowKit Ieee

theorem far_same {T : Option Nat} {d f : Nat} (h : FarIs T d) (h' : FarIs T f) : FloatKind.f64.format.order d f = some .eq := by
  unfold FarIs at h h'
  by_cases hf : firmC T = true
  · rw [if_pos hf] at h h'
    have hT : Okc T := by rw [← h.2]; exact cls_ok d h.1
    obtain ⟨z, ⟨a, h1, h2, _⟩, _⟩ := firm_fin hT hf
    have e1 : d = a := by
      have := h.2; rw [h1] at this; unfold Cls at this
      split at this <;> cases this; rfl
    have e2 : f = a := by
      have := h'.2; rw [h1] at this; unfold Cls at this
      split at this <;> cases this; rfl
    subst e1 e2
    show double.order _ _ = _
    rw [order_fin h2 h2, cmp_eq]
  · rw [if_neg hf] at h h'
    subst h h'
    show double.order _ _ = _
    rw [order_fin zero_fin.1 zero_fin.1, cmp_eq]
set_option maxHeartbeats 4000000 in
theorem filterTells_walk (ax ay bx b2 cx cy : Nat) (w : World) (h1 : ax < 18446744073709551616) (h2 : ay < 18446744073709551616) (h3 : bx < 18446744073709551616) (h4 : b2 < 18446744073709551616) (h5 : cx < 18446744073709551616) (h6 : cy < 18446744073709551616) :
    Calls Try.prog 3 #[.agg #[.int .u64 (ax : Int), .int .u64 (ay : Int)], .agg #[.int .u64 (bx : Int), .int .u64 (b2 : Int)], .agg #[.int .u64 (cx : Int), .int .u64 (cy : Int)]] w fun e w' => e = .returned (.bool true) ∧ Below w.heap.size w w' := by
  have T1 := fun W => turn_any ax ay bx b2 cx cy h1 h2 h3 h4 h5 h6 W
  have T2 := fun W => refFloats_any ax ay bx b2 cx cy h1 h2 h3 h4 h5 h6 W
  have T3 := fun W => far_any ax ay bx b2 h1 h2 h3 h4 W
  have T4 := fun W => refFar_any ax ay bx b2 h1 h2 h3 h4 W
  obtain ⟨z, hz⟩ : ∃ z, z = signC (prodC (Cls ax) (Cls cx) (Cls b2) (Cls cy)) (prodC (Cls ay) (Cls cy) (Cls bx) (Cls cx)) := ⟨_, rfl⟩
  obtain ⟨s, hs⟩ : ∃ s, s = sureC (prodC (Cls ax) (Cls cx) (Cls b2) (Cls cy)) (prodC (Cls ay) (Cls cy) (Cls bx) (Cls cx)) := ⟨_, rfl⟩
  obtain ⟨T, hT⟩ : ∃ T, T = farC (Cls ax) (Cls ay) (Cls bx) (Cls b2) := ⟨_, rfl⟩
  obtain ⟨p, hp⟩ : ∃ p, p = firmC T := ⟨_, rfl⟩
  simp only [← hz, ← hs] at T1 T2
  simp only [← hT, ← hp] at T3 T4
  have H1 := Lib.hid T1; have H2 := Lib.hid T2; have H3 := Lib.hid T3; have H4 := Lib.hid T4
  clear T1 T2 T3 T4 hz hs hT hp h1 h2 h3 h4 h5 h6
  obtain ⟨W0, hW0, hW, tA, tB, tC⟩ := enter3 w (.int .u64 (ax : Int)) (.int .u64 (ay : Int)) 24 (.int .u64 (bx : Int)) (.int .u64 (b2 : Int)) 24 (.int .u64 (cx : Int)) (.int .u64 (cy : Int)) 24
  have a0 := tA.c0; have a1 := tA.c1; have b0 := tB.c0; have b1 := tB.c1; have c0 := tC.c0; have c1 := tC.c1
  go_enter Try.func3, Try.ntmps3
  go_wp2_with fail
  rw [← hW0]
  clear hW0
  refine (awake7_any _).mono ?_
  rintro e W1 ⟨rfl, hb⟩
  replace tA := tA.next hb
  replace tB := tB.next hb
  replace tC := tC.next hb
  replace hW := below_next hW hb
  clear a0 a1 b0 b1 c0 c1 hb
  have a0 := tA.c0; have a1 := tA.c1; have b0 := tB.c0; have b1 := tB.c1; have c0 := tC.c0; have c1 := tC.c1
  go_wp2_with fail
  refine (H1.out _).mono ?_
  rintro e W2 ⟨rfl, hb⟩
  replace tA := tA.next hb
  replace tB := tB.next hb
  replace tC := tC.next hb
  replace hW := below_next hW hb
  clear a0 a1 b0 b1 c0 c1 hb
  have a0 := tA.c0; have a1 := tA.c1; have b0 := tB.c0; have b1 := tB.c1; have c0 := tC.c0; have c1 := tC.c1
  go_wp2_with fail
  refine (H2.out _).mono ?_
  rintro e W3 ⟨rfl, hb⟩
  replace tA := tA.next hb
  replace tB := tB.next hb
  replace tC := tC.next hb
  replace hW := below_next hW hb
  clear a0 a1 b0 b1 c0 c1 hb
  have a0 := tA.c0; have a1 := tA.c1; have b0 := tB.c0; have b1 := tB.c1; have c0 := tC.c0; have c1 := tC.c1
  go_wp2_with fail
  refine (H3.out _).mono ?_
  rintro e W4 ⟨d, rfl, hd, hb⟩
  have HD := Lib.hid hd
  clear hd
  replace tA := tA.next hb
  replace tB := tB.next hb
  replace tC := tC.next hb
  replace hW := below_next hW hb
  clear a0 a1 b0 b1 c0 c1 hb
  have a0 := tA.c0; have a1 := tA.c1; have b0 := tB.c0; have b1 := tB.c1; have c0 := tC.c0; have c1 := tC.c1
  go_wp2_with fail
  refine (H4.out _).mono ?_
  rintro e W5 ⟨f, rfl, hf, hb⟩
  replace hW := below_next hW hb
  have he := far_same HD.out hf
  clear a0 a1 b0 b1 c0 c1 hb tA tB tC hf HD H1 H2 H3 H4
  go_wp2
  all_goals
    go_ret
    first
      | exact ⟨rfl, hW⟩
      | (refine ⟨?_, hW⟩; simp; done)
      | (exfalso; simp_all; done)
end Go.Proofs.Ytknkakkdhihngaa
