/- Layer 7 (filter): what is firm; the document's spelling of it. -/
import Derived.Test.YtknkakkdhihngaaFwF
namespace Go.Proofs.Ytknkakkdhihngaa
open Go.RowKit Ieee
attribute [local go_sem] run_fadd run_fsub run_fmul run_store_float run_store_func

/-- What a square by floats, of the class T, is told as. -/
def FarIs (T : Option Nat) (r : Nat) : Prop := if firmC T then r < 18446744073709551616 ∧ Cls r = T else r = 0
theorem firm_any (b : Nat) (hb : b < 18446744073709551616) (w : World) : Calls Try.prog 25 #[.float .f64 b] w fun e w' => e = .returned (.bool (firmC (Cls b))) ∧ w = w' := by
  have h1 : FloatKind.f64.format.order 553942754166571008 b = ordC (some T900) (Cls b) := by
    rw [← fin_cls T900_fin.1]; exact order_cls _ _ T900_fin.1.1 hb
  have h2 : FloatKind.f64.format.order b 9218868437227405311 = ordC (Cls b) (some MAXF) := by
    rw [← fin_cls MAXF_fin]; exact order_cls _ _ hb MAXF_fin.1
  unfold firmC
  generalize ordC (some T900) (Cls b) = o1 at *
  generalize ordC (Cls b) (some MAXF) = o2 at *
  go_enter Try.func25, Try.ntmps25
  go_wp2
  all_goals
    go_ret
    refine ⟨?_, rfl⟩
    first
      | rfl
      | (rename_i h; simp only [not_or] at h; simp [h.1, h.2])
theorem inf_any (w : World) : Calls Try.prog 41 #[.int .i64 1] w fun e w' => e = .returned (.float .f64 9218868437227405312) ∧ w = w' := by
  have h := run_from 9218868437227405312
  go_enter Try.func41, Try.ntmps41
  go_wp2_with (first | (simp only [h]) | (rw [show (9218868437227405312 : Int) = ((9218868437227405312 : Nat) : Int) from rfl]; simp only [h]))
  go_ret
  exact ⟨rfl, rfl⟩
theorem isNaN_any (w : World) : Calls Try.prog 52 #[.float .f64 4607182418800017408] w fun e w' => e = .returned (.bool false) ∧ w = w' := by
  have h : FloatKind.f64.format.order 4607182418800017408 4607182418800017408 = some .eq := by kernel_rfl
  go_enter Try.func52, Try.ntmps52
  go_wp2
  go_ret
  exact ⟨rfl, rfl⟩
theorem isInf_any (w : World) : Calls Try.prog 51 #[.float .f64 4607182418800017408, .int .i64 0] w fun e w' => e = .returned (.bool false) ∧ w = w' := by
  have h : FloatKind.f64.format.order 4607182418800017408 9218868437227405311 = some .lt := by kernel_rfl
  have hA := abs_any 4607182418800017408 (by omega)
  rw [show fR 4607182418800017408 = 4607182418800017408 by unfold fR P63; rfl] at hA
  have HA := Lib.hid hA
  clear hA
  go_enter Try.func51, Try.ntmps51
  go_wp2_with (go_at_call 24; with_reducible refine (HA.out _).mono ?_; rintro e w' ⟨rfl, rfl⟩)
  go_ret
  exact ⟨rfl, rfl⟩
theorem normalize_any (w : World) : Calls Try.prog 53 #[.float .f64 4607182418800017408] w fun e w' => e = .returned (.tuple #[.float .f64 4607182418800017408, .int .i64 0]) ∧ w = w' := by
  have h : FloatKind.f64.format.order 4607182418800017408 4503599627370496 = some .gt := by kernel_rfl
  have hA := abs_any 4607182418800017408 (by omega)
  rw [show fR 4607182418800017408 = 4607182418800017408 by unfold fR P63; rfl] at hA
  have HA := Lib.hid hA
  clear hA
  go_enter Try.func53, Try.ntmps53
  go_wp2_with (go_at_call 24; with_reducible refine (HA.out _).mono ?_; rintro e w' ⟨rfl, rfl⟩)
  go_ret2
  exact ⟨rfl, rfl⟩
set_option maxHeartbeats 1000000 in
theorem ldexp_T900 (w : World) : Calls Try.prog 43 #[.float .f64 4607182418800017408, .int .i64 (-900)] w fun e w' => e = .returned (.float .f64 553942754166571008) ∧ w = w' := by
  have h0 : FloatKind.f64.format.order 4607182418800017408 0 = some .gt := by kernel_rfl
  have h1 := run_bits 4607182418800017408
  have h2 : ∀ w, (callFunc 40 #[.int .u64 (553942754166571008 : Int)]).run Try.prog w = .ok (.value (.float .f64 553942754166571008)) w := fun w => run_from 553942754166571008 w
  have h3 : Ieee.double.mul 4607182418800017408 553942754166571008 = some 553942754166571008 := by kernel_rfl
  have h4 : ∀ w, fans Ieee.double.mul 4607182418800017408 553942754166571008 w = 553942754166571008 := fun w => by unfold fans; rw [h3]
  have h5 : fdraw Ieee.double.mul 4607182418800017408 553942754166571008 = 0 := by unfold fdraw; rw [h3]
  have HI := Lib.hid isInf_any
  have HN := Lib.hid isNaN_any
  have HZ := Lib.hid normalize_any
  have k1 : bits BinOp.and IntKind.i64 1023 2047 = 1023 := by kernel_rfl
  have k2 : wrap64 0 = 0 := by kernel_rfl
  have k3 : wrap64 (-900) = -900 := by kernel_rfl
  have k4 : bits BinOp.andNot IntKind.u64 4607182418800017408 9218868437227405312 = 0 := by kernel_rfl
  have k5 : bits BinOp.or IntKind.u64 0 553942754166571008 = 553942754166571008 := by kernel_rfl
  clear h3
  go_enter Try.func43, Try.ntmps43
  go_wp2_with (first
    | (go_at_call 51; (with_reducible refine (HI.out _).mono ?_); rintro e w' ⟨rfl, rfl⟩)
    | (go_at_call 52; (with_reducible refine (HN.out _).mono ?_); rintro e w' ⟨rfl, rfl⟩)
    | (go_at_call 53; (with_reducible refine (HZ.out _).mono ?_); rintro e w' ⟨rfl, rfl⟩))
  go_ret
  exact ⟨by first | rfl | rw [h4], by first | rfl | (rw [h5]; rfl)⟩
theorem Ldexp_T900 (w : World) : Calls Try.prog 28 #[.float .f64 4607182418800017408, .int .i64 (-900)] w fun e w' => e = .returned (.float .f64 553942754166571008) ∧ w = w' := by
  have HI := Lib.hid ldexp_T900
  go_enter Try.func28, Try.ntmps28
  go_wp2_with (go_at_call 43; (with_reducible refine (HI.out _).mono ?_); rintro e w' ⟨rfl, rfl⟩)
  go_ret
  exact ⟨rfl, rfl⟩
set_option maxHeartbeats 1000000 in
theorem ldexp_EPS (w : World) : Calls Try.prog 43 #[.float .f64 4607182418800017408, .int .i64 (-50)] w fun e w' => e = .returned (.float .f64 4382002437431492608) ∧ w = w' := by
  have h0 : FloatKind.f64.format.order 4607182418800017408 0 = some .gt := by kernel_rfl
  have h1 := run_bits 4607182418800017408
  have h2 : ∀ w, (callFunc 40 #[.int .u64 (4382002437431492608 : Int)]).run Try.prog w = .ok (.value (.float .f64 4382002437431492608)) w := fun w => run_from 4382002437431492608 w
  have h3 : Ieee.double.mul 4607182418800017408 4382002437431492608 = some 4382002437431492608 := by kernel_rfl
  have h4 : ∀ w, fans Ieee.double.mul 4607182418800017408 4382002437431492608 w = 4382002437431492608 := fun w => by unfold fans; rw [h3]
  have h5 : fdraw Ieee.double.mul 4607182418800017408 4382002437431492608 = 0 := by unfold fdraw; rw [h3]
  have HI := Lib.hid isInf_any
  have HN := Lib.hid isNaN_any
  have HZ := Lib.hid normalize_any
  have k1 : bits BinOp.and IntKind.i64 1023 2047 = 1023 := by kernel_rfl
  have k2 : wrap64 0 = 0 := by kernel_rfl
  have k3 : wrap64 (-50) = -50 := by kernel_rfl
  have k4 : bits BinOp.andNot IntKind.u64 4607182418800017408 9218868437227405312 = 0 := by kernel_rfl
  have k5 : bits BinOp.or IntKind.u64 0 4382002437431492608 = 4382002437431492608 := by kernel_rfl
  clear h3
  go_enter Try.func43, Try.ntmps43
  go_wp2_with (first
    | (go_at_call 51; (with_reducible refine (HI.out _).mono ?_); rintro e w' ⟨rfl, rfl⟩)
    | (go_at_call 52; (with_reducible refine (HN.out _).mono ?_); rintro e w' ⟨rfl, rfl⟩)
    | (go_at_call 53; (with_reducible refine (HZ.out _).mono ?_); rintro e w' ⟨rfl, rfl⟩))
  go_ret
  exact ⟨by first | rfl | rw [h4], by first | rfl | (rw [h5]; rfl)⟩
theorem Ldexp_EPS (w : World) : Calls Try.prog 28 #[.float .f64 4607182418800017408, .int .i64 (-50)] w fun e w' => e = .returned (.float .f64 4382002437431492608) ∧ w = w' := by
  have HI := Lib.hid ldexp_EPS
  go_enter Try.func28, Try.ntmps28
  go_wp2_with (go_at_call 43; (with_reducible refine (HI.out _).mono ?_); rintro e w' ⟨rfl, rfl⟩)
  go_ret
  exact ⟨rfl, rfl⟩
theorem counts_any (b : Nat) (hb : b < 18446744073709551616) (w : World) : Calls Try.prog 27 #[.float .f64 b] w fun e w' => e = .returned (.bool (countsC (Cls b))) ∧ w = w' := by
  have h1 : FloatKind.f64.format.order b b = ordC (Cls b) (Cls b) := order_cls _ _ hb hb
  have h2 : FloatKind.f64.format.order b 9218868437227405312 = ordC (Cls b) (some 9218868437227405312) := by
    have e : Cls 9218868437227405312 = some 9218868437227405312 := by unfold Cls; rw [inf_nan ⟨by unfold fE P52; decide, by unfold fF P52; decide⟩]; rfl
    rw [← e]; exact order_cls _ _ hb (by omega)
  have h3 : FloatKind.f64.format.order b 553942754166571008 = ordC (Cls b) (some T900) := by
    rw [← fin_cls T900_fin.1]; exact order_cls _ _ hb T900_fin.1.1
  have HI := Lib.hid inf_any
  have HL := Lib.hid Ldexp_T900
  unfold countsC
  generalize ordC (Cls b) (Cls b) = o1 at *
  generalize ordC (Cls b) (some 9218868437227405312) = o2 at *
  generalize ordC (Cls b) (some T900) = o3 at *
  go_enter Try.func27, Try.ntmps27
  go_wp2_with (first
    | (go_at_call 41; (with_reducible refine (HI.out _).mono ?_); rintro e w' ⟨rfl, rfl⟩)
    | (go_at_call 28; (with_reducible refine (HL.out _).mono ?_); rintro e w' ⟨rfl, rfl⟩))
  all_goals
    clear HI HL h1 h2 h3
    go_ret
    exact ⟨by first | rfl | simp_all, rfl⟩
end Go.Proofs.Ytknkakkdhihngaa
