/- Layer 7 (filter): the difference of two numbers, the product of two differences, what is firm. -/
import Derived.Test.YtknkakkdhihngaaFwF
import Derived.Deep.DeepCutAuto
import Derived.Deep.RegionHeld3
namespace Go.Proofs.Ytknkakkdhihngaa
open Go.RowKit Ieee
attribute [local go_sem] run_fadd run_fsub run_fmul run_store_float run_store_func

set_option maxHeartbeats 4000000 in
theorem less_any (A x y : Nat) (hx : x < 18446744073709551616) (hy : y < 18446744073709551616) (w : World) (hc : w.cell? ⟨A, 0, none⟩ = some (.func (.func 38) #[] #[])) :
    Calls Try.prog 39 #[.int .u64 (x : Int), .int .u64 (y : Int), .pointer (some ⟨A, 0, none⟩)] w (GivesF w (opC double.sub (Cls x) (Cls y))) := by
  have hr := fun w => fans_is (f := double.sub) (Or.inr (Or.inl rfl)) hx hy w
  have h1 := run_from x
  have h2 := run_from y
  have HR := Lib.hid hr
  clear hr hx hy
  go_enter Try.func39, Try.ntmps39
  go_wp2_with fail
  go_region_with (go_at_call 38; refine (round_any _ _).mono ?_; rintro e w' ⟨rfl, rfl⟩)
  all_goals
    go_wp2
    go_ret
    exact ⟨_, rfl, (HR.out _).1, (HR.out _).2, by first | exact below_draws (Below.refl _ _) _ | (refine kd ?_; exact below_draws (kd0) _)⟩
end Go.Proofs.Ytknkakkdhihngaa
