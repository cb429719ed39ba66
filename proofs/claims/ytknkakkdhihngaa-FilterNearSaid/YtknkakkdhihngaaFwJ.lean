/- Layer 7 (filter): Turn. -/
import Derived.Test.YtknkakkdhihngaaFwH
import Derived.Test.YtknkakkdhihngaaFwI
namespace Go.Proofs.Ytknkakkdhihngaa
open Go.RowKit Ieee
attribute [local go_sem] run_fadd run_fsub run_fmul run_store_float run_store_func

/-- A point, as a value. -/
def ptV (x y : Nat) : Value := .agg #[.int .u64 (x : Int), .int .u64 (y : Int)]
set_option maxHeartbeats 4000000 in
theorem turn_any (ax ay bx b2 cx cy : Nat) (h1 : ax < 18446744073709551616) (h2 : ay < 18446744073709551616) (h3 : bx < 18446744073709551616) (h4 : b2 < 18446744073709551616) (h5 : cx < 18446744073709551616) (h6 : cy < 18446744073709551616) (w : World) :
    Calls Try.prog 8 #[.agg #[.int .u64 (ax : Int), .int .u64 (ay : Int)], .agg #[.int .u64 (bx : Int), .int .u64 (b2 : Int)], .agg #[.int .u64 (cx : Int), .int .u64 (cy : Int)]] w fun e w' =>
      e = .returned (.tuple #[.int .i64 (signC (prodC (Cls ax) (Cls cx) (Cls b2) (Cls cy)) (prodC (Cls ay) (Cls cy) (Cls bx) (Cls cx))), .bool (sureC (prodC (Cls ax) (Cls cx) (Cls b2) (Cls cy)) (prodC (Cls ay) (Cls cy) (Cls bx) (Cls cx)))]) ∧ Below w.heap.size w w' := by
  obtain ⟨W0, hW0, hW, tA, tB, tC⟩ := enter3 w (.int .u64 (ax : Int)) (.int .u64 (ay : Int)) 24 (.int .u64 (bx : Int)) (.int .u64 (b2 : Int)) 24 (.int .u64 (cx : Int)) (.int .u64 (cy : Int)) 24
  have a0 := tA.c0; have a1 := tA.c1; have b0 := tB.c0; have b1 := tB.c1; have c0 := tC.c0; have c1 := tC.c1
  have H1 := Lib.hid h1; have H2 := Lib.hid h2; have H3 := Lib.hid h3; have H4 := Lib.hid h4; have H5 := Lib.hid h5; have H6 := Lib.hid h6
  clear h1 h2 h3 h4 h5 h6
  obtain ⟨L, hL⟩ : ∃ L, L = prodC (Cls ax) (Cls cx) (Cls b2) (Cls cy) := ⟨_, rfl⟩
  obtain ⟨R, hR⟩ : ∃ R, R = prodC (Cls ay) (Cls cy) (Cls bx) (Cls cx) := ⟨_, rfl⟩
  rw [← hL, ← hR]
  have HLD := Lib.hid hL
  have HRD := Lib.hid hR
  clear hL hR
  go_enter Try.func8, Try.ntmps8
  go_wp2_with fail
  rw [← hW0]
  clear hW0
  refine (rounding_any _).mono ?_
  rintro e w' ⟨rfl, rfl⟩
  go_wp2_with fail
  refine (product_any ax cx b2 cy H1.out H5.out H4.out H6.out _).mono ?_
  rintro e W1 ⟨l, rfl, hl, hcl, hb⟩
  replace tA := tA.next hb
  replace tB := tB.next hb
  replace tC := tC.next hb
  replace hW := below_next hW hb
  clear a0 a1 b0 b1 c0 c1 hb
  have a0 := tA.c0; have a1 := tA.c1; have b0 := tB.c0; have b1 := tB.c1; have c0 := tC.c0; have c1 := tC.c1
  have HL := Lib.hid hl
  rw [← HLD.out] at hcl
  have HCL := Lib.hid hcl
  clear hl hcl
  go_wp2_with fail
  refine (product_any ay cy bx cx H2.out H6.out H3.out H5.out _).mono ?_
  rintro e W2 ⟨r, rfl, hr, hcr, hb⟩
  replace hW := below_next hW hb
  have HR := Lib.hid hr
  rw [← HRD.out] at hcr
  have HCR := Lib.hid hcr
  clear a0 a1 b0 b1 c0 c1 hb hr hcr tA tB tC
  go_wp2_with fail
  have hd := fans_is (f := double.sub) (Or.inr (Or.inl rfl)) HL.out HR.out W2
  obtain ⟨d, hdd⟩ : ∃ d, d = fans double.sub l r W2 := ⟨_, rfl⟩
  have hW3 := below_draws hW (fdraw double.sub l r)
  obtain ⟨W3, hW3e⟩ : ∃ W3, W3 = W2.drewN (fdraw double.sub l r) := ⟨_, rfl⟩
  rw [← hdd] at hd ⊢
  rw [← hW3e] at hW3 ⊢
  have HD := Lib.hid hd
  clear hd hdd hW3e hW
  refine (round_any d _).mono ?_
  rintro e w' ⟨rfl, rfl⟩
  go_wp2_with fail
  refine (abs_any l HL.out _).mono ?_
  rintro e w' ⟨rfl, rfl⟩
  go_wp2_with fail
  refine (abs_any r HR.out _).mono ?_
  rintro e w' ⟨rfl, rfl⟩
  go_wp2_with fail
  have hs := fans_is (f := double.add) (Or.inl rfl) (fR_lt64 l) (fR_lt64 r) W3
  obtain ⟨s, hss⟩ : ∃ s, s = fans double.add (fR l) (fR r) W3 := ⟨_, rfl⟩
  have hW4 := below_draws hW3 (fdraw double.add (fR l) (fR r))
  obtain ⟨W4, hW4e⟩ : ∃ W4, W4 = W3.drewN (fdraw double.add (fR l) (fR r)) := ⟨_, rfl⟩
  rw [← hss] at hs ⊢
  rw [← hW4e] at hW4 ⊢
  rw [abs_cls, abs_cls, HCL.out, HCR.out] at hs
  have hd2 := HD.out
  rw [HCL.out, HCR.out] at hd2
  have HS := Lib.hid hs
  have HD2 := Lib.hid hd2
  clear hs hss hW4e hW3 HD hd2
  refine (round_any s _).mono ?_
  rintro e w' ⟨rfl, rfl⟩
  obtain ⟨f, hf⟩ : ∃ f, f = firmC (Cls s) := ⟨_, rfl⟩
  obtain ⟨o1, ho1⟩ : ∃ o, o = ordC (absC (Cls d)) (opC double.mul (Cls s) (some EPS)) := ⟨_, rfl⟩
  obtain ⟨o2, ho2⟩ : ∃ o, o = ordC (Cls d) (some 0) := ⟨_, rfl⟩
  have hsu : sureC L R = (f && !(o1 == some Ordering.lt)) := by rw [hf, ho1, HS.out.2, HD2.out.2]; rfl
  have hsg : signC L R = if (f && !(o1 == some Ordering.lt)) then (if o2 == some Ordering.lt then -1 else 1) else 0 := by unfold signC; rw [hsu, ho2, HD2.out.2]
  have hq1 : ∀ W, FloatKind.f64.format.order (fR d) (fans double.mul s 4382002437431492608 W) = o1 := fun W => by
    obtain ⟨K, hK⟩ := isK_ex
    have hm := fans_is (f := double.mul) (y := EPS) (Or.inr (Or.inr rfl)) HS.out.1 (EPS_fin hK).1.1 W
    rw [ho1, ← abs_cls, ← fin_cls (EPS_fin hK).1, ← hm.2]
    exact order_cls _ _ (fR_lt64 d) hm.1
  have hq2 : FloatKind.f64.format.order d 0 = o2 := by
    rw [ho2, ← fin_cls zero_fin.1]; exact order_cls _ _ HD2.out.1 (by omega)
  have HSU := Lib.hid hsu
  have HSG := Lib.hid hsg
  clear hsu hsg ho1 ho2 H1 H2 H3 H4 H5 H6 HL HR HCL HCR HLD HRD
  go_wp2_with fail
  refine (firm_any s HS.out.1 _).mono ?_
  rintro e w' ⟨rfl, rfl⟩
  rw [← hf]
  clear hf
  cases f
  · clear hq1 hq2
    go_wp2
    go_ret2
    exact ⟨by rw [HSU.out, HSG.out]; rfl, hW4⟩
  · go_wp2_with fail
    refine (abs_any d HD2.out.1 _).mono ?_
    rintro e w' ⟨rfl, rfl⟩
    go_wp2
    all_goals
      clear hq1 hq2
      go_ret2
      exact ⟨by rw [HSU.out, HSG.out]; clear HSU HSG HS HD2; simp_all, below_draws hW4 _⟩
end Go.Proofs.Ytknkakkdhihngaa
