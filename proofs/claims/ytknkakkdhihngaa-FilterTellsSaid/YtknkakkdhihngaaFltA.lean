/- Layer 5 (float): high, below, Finite, Norm, rank, Cmp of any bits. -/
import Derived.Test.YtknkakkdhihngaaFlt
import Derived.Laws.BitsAllLaws
import Derived.Test.YtknkakkdhihngaaLibB
namespace Go.Proofs.Ytknkakkdhihngaa
open Go.RowKit

theorem and_high (b : Nat) (hb : b < 18446744073709551616) : bits .and .u64 ((b : Int) / 4503599627370496) 2047 = (fE b : Int) := by
  have h1 := bits_and_u64_nat (b / 4503599627370496) 2047 (by omega) (by omega)
  have h2 := Nat.and_two_pow_sub_one_eq_mod (b / 4503599627370496) 11
  rw [show (2 : Nat) ^ 11 - 1 = 2047 by decide, show (2 : Nat) ^ 11 = 2048 by decide] at h2
  rw [h2] at h1
  exact h1
theorem and_low (b : Nat) (hb : b < 18446744073709551616) : bits .and .u64 (b : Int) 4503599627370495 = (fF b : Int) := by
  have h1 := u64_and_nat b 4503599627370495 hb (by omega)
  have h2 := Nat.and_two_pow_sub_one_eq_mod b 52
  rw [show (2 : Nat) ^ 52 - 1 = 4503599627370495 by decide, show (2 : Nat) ^ 52 = 4503599627370496 by decide] at h2
  rw [h2] at h1
  exact h1
theorem and_two (b k : Nat) : b &&& 2 ^ k = if b.testBit k then 2 ^ k else 0 := by
  apply Nat.eq_of_testBit_eq
  intro i
  rw [Nat.testBit_and, Nat.testBit_two_pow]
  by_cases h : k = i
  · subst h
    cases hb : b.testBit k
    · simp
    · simp
  · split <;> simp [h]
theorem and_sign (b : Nat) (hb : b < 18446744073709551616) : bits .and .u64 (b : Int) 9223372036854775808 = if fS b then 9223372036854775808 else 0 := by
  have h1 := u64_and_nat b 9223372036854775808 hb (by omega)
  have h2 := and_two b 63
  rw [show (2 : Nat) ^ 63 = 9223372036854775808 by decide] at h2
  have h3 : b.testBit 63 = fS b := by
    rw [Nat.testBit_eq_decide_div_mod_eq, show (2 : Nat) ^ 63 = 9223372036854775808 by decide]
    unfold fS P63
    rw [decide_eq_decide]; omega
  rw [h3] at h2
  have h4 : ((9223372036854775808 : Nat) : Int) = 9223372036854775808 := rfl
  rw [h4] at h1
  rw [h1, h2]
  cases fS b <;> rfl
theorem andNot_sign (b : Nat) (hb : b < 18446744073709551616) : bits .andNot .u64 (b : Int) 9223372036854775808 = (fR b : Int) := by
  have h1 := u64_andNot_nat b 9223372036854775808 hb (by omega)
  have h2 := Nat.and_two_pow_sub_one_eq_mod b 63
  rw [show (2 : Nat) ^ 63 - 1 = 9223372036854775807 by decide, show (2 : Nat) ^ 63 = 9223372036854775808 by decide] at h2
  rw [show 18446744073709551615 - 9223372036854775808 = 9223372036854775807 by omega, h2] at h1
  exact h1
theorem or_low (m : Nat) (h : m < P52) : bits .or .u64 (m : Int) 4503599627370496 = ((m + P52 : Nat) : Int) := by
  have hm : m < 4503599627370496 := h
  have h1 := u64_or_nat m 4503599627370496 (by omega) (by omega)
  rw [Nat.or_comm, nat_join 52 4503599627370496 m (by decide) (by omega), Nat.add_comm] at h1
  exact h1

/-- Are they a finite float's? -/
def fin (b : Nat) : Bool := decide (fE b ≠ 2047)


end Go.Proofs.Ytknkakkdhihngaa
