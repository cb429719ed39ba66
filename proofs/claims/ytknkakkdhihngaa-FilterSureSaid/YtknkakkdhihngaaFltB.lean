/- Layer 5 (float): Parts of any bits. -/
import Derived.Test.YtknkakkdhihngaaFltA
import Derived.Test.YtknkakkdhihngaaTab
namespace Go.Proofs.Ytknkakkdhihngaa
open Go.RowKit

theorem results_tmp4 {fn : Func} {t u v x : Tmp} (h : fn.results = #[.tmp t, .tmp u, .tmp v, .tmp x]) (tmps : Array Value) (P : Program) (w : World) :
    (results fn tmps).run P w = .ok (.tuple #[tmps.getD t undef, tmps.getD u undef, tmps.getD v undef, tmps.getD x undef]) w := by
  simp [results, h]
theorem fin_no {b E : Nat} (hE : fE b = E) (h : fin b = false) : E = 2047 := by
  unfold fin at h; rw [hE] at h; simpa using h
theorem fin_yes {b E : Nat} (hE : fE b = E) (h : fin b = true) : E ≠ 2047 := by
  unfold fin at h; rw [hE] at h; simpa using h

theorem shr_odd {M m t : Nat} (h : M = m * 2 ^ t) : ((M : Nat) : Int) / 2 ^ t = (m : Int) := by
  have h1 : M / 2 ^ t = m := by rw [h]; exact Nat.mul_div_cancel _ (Nat.pow_pos (by omega))
  rw [← h1]; simp
end Go.Proofs.Ytknkakkdhihngaa
