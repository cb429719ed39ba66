/- The document's exact turn and square of three and two good points; whether a point is good. -/
import Derived.Test.YtknkakkdhihngaaFwD
import Derived.Test.YtknkakkdhihngaaFltN
import Derived.Deep.DeepCutAuto
import Derived.Deep.RegionHeld3
namespace Go.Proofs.Ytknkakkdhihngaa
open Go.RowKit

theorem fZ_len (b : Nat) : (digs 65536 (fZ b).natAbs).length ≤ 132 := by
  have key : ∀ L, 132 ≤ L → (digs 65536 (fZ b).natAbs).length ≤ L := fun L hL => by
    refine (digs_length_le (by omega) _ _).2 ?_
    rw [fZ_abs]
    obtain ⟨e, he⟩ : ∃ e : Nat, e = 2046 := ⟨_, rfl⟩
    have h1 : fX b ≤ e := by have := fX_lt b; omega
    have h2 : fV b < 2 * P52 * 2 ^ e := by
      unfold fV
      exact Nat.lt_of_lt_of_le (Nat.mul_lt_mul_of_pos_right (fM_lt b) (Nat.pow_pos (by omega))) (Nat.mul_le_mul_left _ (Nat.pow_le_pow_right (by omega) h1))
    have h3 : 2 * P52 * 2 ^ e = 2 ^ (53 + e) := by rw [P52_pow, Nat.pow_add]
    rw [h3] at h2
    refine Nat.lt_of_lt_of_le h2 ?_
    rw [show (65536 : Nat) = 2 ^ 16 by rfl, ← Nat.pow_mul]
    exact Nat.pow_le_pow_right (by omega) (by omega)
  exact key 132 (Nat.le_refl _)
theorem len_sub {x y : Int} {L : Nat} (hx : (digs 65536 x.natAbs).length ≤ L) (hy : (digs 65536 y.natAbs).length ≤ L) : (digs 65536 (x - y).natAbs).length ≤ L + 1 := digs_sum_len (by omega) hx hy (by omega)
theorem len_add {x y : Int} {L : Nat} (hx : (digs 65536 x.natAbs).length ≤ L) (hy : (digs 65536 y.natAbs).length ≤ L) : (digs 65536 (x + y).natAbs).length ≤ L + 1 := digs_sum_len (by omega) hx hy (by omega)
theorem len_mul {x y : Int} {L M : Nat} (hx : (digs 65536 x.natAbs).length ≤ L) (hy : (digs 65536 y.natAbs).length ≤ M) : (digs 65536 (x * y).natAbs).length ≤ L + M := by
  rw [Int.natAbs_mul]; exact digs_prod_len (by omega) hx hy

theorem good_any (x y : Nat) (f g : Bool) (hx : x < 18446744073709551616) (hy : y < 18446744073709551616) (hf : fin x = f) (hg : fin y = g) (w : World) :
    Calls Try.prog 12 #[.agg #[.int .u64 (x : Int), .int .u64 (y : Int)]] w fun e w' => e = .returned (.bool (f && g)) ∧ Below w.heap.size w w' := by
  obtain ⟨W0, hW0, hW, tA⟩ := enter1 w (.int .u64 (x : Int)) (.int .u64 (y : Int)) 24
  have a0 := tA.c0; have a1 := tA.c1
  have HF := Lib.hid (refFinite_any x f hx hf)
  have HG := Lib.hid (refFinite_any y g hy hg)
  clear hf hg hx hy
  go_enter Try.func12, Try.ntmps12
  go_wp2_with fail
  rw [← hW0]
  clear hW0
  refine (HF.out _).mono ?_
  rintro e w' ⟨rfl, n, rfl⟩
  cases f
  · go_wp2
    go_ret
    exact ⟨rfl, below_draws hW _⟩
  · go_wp2_with fail
    refine (HG.out _).mono ?_
    rintro e w' ⟨rfl, m, rfl⟩
    go_wp2
    go_ret
    exact ⟨rfl, by first | exact below_draws hW _ | exact below_draws (below_draws hW _) _⟩
end Go.Proofs.Ytknkakkdhihngaa
