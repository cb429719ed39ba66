/- Layer 7's laws first ask for answers that the document fixes: they are given. -/
import Derived.Test.YtknkakkdhihngaaFwJ
import Derived.Test.YtknkakkdhihngaaFwL
namespace Go.Proofs.Ytknkakkdhihngaa
open Go.RowKit Ieee

theorem at_any (x y : Nat) (w : World) : Calls Try.prog 21 #[.float .f64 x, .float .f64 y] w fun e w' => e = .returned (.agg #[.int .u64 (x : Int), .int .u64 (y : Int)]) ∧ Below w.heap.size w w' := by
  have h1 := run_bits x
  have h2 := run_bits y
  have t := Two.new w (.int .u64 (x : Int)) (.int .u64 (y : Int)) 24
  have r0 := t.c0
  have r1 := t.c1
  go_enter Try.func21, Try.ntmps21
  go_wp2_with (simp only [h1, h2])
  exact bodyPost_ret (v := .agg #[.int .u64 (x : Int), .int .u64 (y : Int)]) (by simp [results, Try.results21, go_sem, r0, r1]) rfl ⟨rfl, bal⟩
theorem far_one {T : Option Nat} {r v : Nat} (h : FarIs T r) (hf : firmC T = true) (hT : T = some v) : r = v := by
  unfold FarIs at h
  rw [if_pos hf] at h
  have := h.2
  rw [hT] at this
  unfold Cls at this
  split at this
  · cases this
  · cases this; rfl
theorem awake_t1 (w : World) : Calls Try.prog 8 #[.agg #[.int .u64 0, .int .u64 0], .agg #[.int .u64 4607182418800017408, .int .u64 0], .agg #[.int .u64 0, .int .u64 4607182418800017408]] w fun e w' =>
      e = .returned (.tuple #[.int .i64 1, .bool true]) ∧ Below w.heap.size w w' := by
  have s1 : sureC (prodC (Cls 0) (Cls 0) (Cls 0) (Cls 4607182418800017408)) (prodC (Cls 0) (Cls 4607182418800017408) (Cls 4607182418800017408) (Cls 0)) = true := by kernel_rfl
  have s2 : signC (prodC (Cls 0) (Cls 0) (Cls 0) (Cls 4607182418800017408)) (prodC (Cls 0) (Cls 4607182418800017408) (Cls 4607182418800017408) (Cls 0)) = 1 := by kernel_rfl
  have h := turn_any 0 0 4607182418800017408 0 0 4607182418800017408 (by omega) (by omega) (by omega) (by omega) (by omega) (by omega) w
  rw [s1, s2] at h
  exact h
theorem awake_t2 (w : World) : Calls Try.prog 8 #[.agg #[.int .u64 0, .int .u64 0], .agg #[.int .u64 4607182418800017408, .int .u64 4607182418800017408], .agg #[.int .u64 4611686018427387904, .int .u64 4611686018427387904]] w fun e w' =>
      e = .returned (.tuple #[.int .i64 0, .bool false]) ∧ Below w.heap.size w w' := by
  have s1 : sureC (prodC (Cls 0) (Cls 4611686018427387904) (Cls 4607182418800017408) (Cls 4611686018427387904)) (prodC (Cls 0) (Cls 4611686018427387904) (Cls 4607182418800017408) (Cls 4611686018427387904)) = false := by kernel_rfl
  have s2 : signC (prodC (Cls 0) (Cls 4611686018427387904) (Cls 4607182418800017408) (Cls 4611686018427387904)) (prodC (Cls 0) (Cls 4611686018427387904) (Cls 4607182418800017408) (Cls 4611686018427387904)) = 0 := by kernel_rfl
  have h := turn_any 0 0 4607182418800017408 4607182418800017408 4611686018427387904 4611686018427387904 (by omega) (by omega) (by omega) (by omega) (by omega) (by omega) w
  rw [s1, s2] at h
  exact h
theorem awake_t3 (w : World) : Calls Try.prog 10 #[.agg #[.int .u64 0, .int .u64 0], .agg #[.int .u64 4613937818241073152, .int .u64 4616189618054758400]] w fun e w' =>
      e = .returned (.tuple #[.float .f64 4627730092099895296, .bool true]) ∧ Below w.heap.size w w' := by
  have s4 : farC (Cls 0) (Cls 0) (Cls 4613937818241073152) (Cls 4616189618054758400) = some 4627730092099895296 := by kernel_rfl
  have s5 : firmC (some 4627730092099895296) = true := by kernel_rfl
  have h := far_any 0 0 4613937818241073152 4616189618054758400 (by omega) (by omega) (by omega) (by omega) w
  rw [s4, s5] at h
  refine h.mono ?_
  rintro e w' ⟨r, rfl, hr, hb⟩
  rw [far_one hr s5 rfl]
  exact ⟨rfl, hb⟩
set_option maxHeartbeats 4000000 in
theorem awake7_any (w : World) : Calls Try.prog 7 #[] w fun e w' => e = .returned (.bool true) ∧ Below w.heap.size w w' := by
  have s6 : FloatKind.f64.format.order 4627730092099895296 4627730092099895296 = some .eq := by kernel_rfl
  have hW := Below.refl w.heap.size w
  go_enter Try.func7, Try.ntmps7
  go_wp2_with fail
  refine (at_any 0 0 _).mono ?_
  rintro e W1 ⟨rfl, hb⟩
  replace hW := below_next hW hb
  clear hb
  go_wp2_with fail
  refine (at_any 4607182418800017408 0 _).mono ?_
  rintro e W2 ⟨rfl, hb⟩
  replace hW := below_next hW hb
  clear hb
  go_wp2_with fail
  refine (at_any 0 4607182418800017408 _).mono ?_
  rintro e W3 ⟨rfl, hb⟩
  replace hW := below_next hW hb
  clear hb
  go_wp2_with fail
  refine (awake_t1 _).mono ?_
  rintro e V1 ⟨rfl, hb⟩
  replace hW := below_next hW hb
  clear hb
  go_wp2_with fail
  refine (at_any 0 0 _).mono ?_
  rintro e W4 ⟨rfl, hb⟩
  replace hW := below_next hW hb
  clear hb
  go_wp2_with fail
  refine (at_any 4607182418800017408 4607182418800017408 _).mono ?_
  rintro e W5 ⟨rfl, hb⟩
  replace hW := below_next hW hb
  clear hb
  go_wp2_with fail
  refine (at_any 4611686018427387904 4611686018427387904 _).mono ?_
  rintro e W6 ⟨rfl, hb⟩
  replace hW := below_next hW hb
  clear hb
  go_wp2_with fail
  refine (awake_t2 _).mono ?_
  rintro e V2 ⟨rfl, hb⟩
  replace hW := below_next hW hb
  clear hb
  go_wp2_with fail
  refine (at_any 0 0 _).mono ?_
  rintro e W7 ⟨rfl, hb⟩
  replace hW := below_next hW hb
  clear hb
  go_wp2_with fail
  refine (at_any 4613937818241073152 4616189618054758400 _).mono ?_
  rintro e W8 ⟨rfl, hb⟩
  replace hW := below_next hW hb
  clear hb
  go_wp2_with fail
  refine (awake_t3 _).mono ?_
  rintro e V3 ⟨rfl, hb⟩
  replace hW := below_next hW hb
  clear hb
  go_wp2
  go_ret
  exact ⟨rfl, hW⟩
end Go.Proofs.Ytknkakkdhihngaa
