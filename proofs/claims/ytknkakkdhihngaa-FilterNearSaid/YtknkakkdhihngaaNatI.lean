/- Layer 1 (nat): Shr of any numbers. -/
import Derived.Test.YtknkakkdhihngaaNatH
namespace Go.Proofs.Ytknkakkdhihngaa
open Go.RowKit

/-! Plain mathematics: a limb moved down. -/
/-- The j-th limb of what is moved down. -/
def outd (A : List Nat) (r j : Nat) : Nat := nth A j / 2 ^ r + nth A (j + 1) * 2 ^ (64 - r) % W64
theorem low_part (x r : Nat) (hr : r ≤ 64) : x * 2 ^ (64 - r) % W64 = (x % 2 ^ r) * 2 ^ (64 - r) := by
  have := shl_lo x (64 - r) (by omega)
  rw [show 64 - (64 - r) = r by omega] at this
  exact this
theorem outd_word (A : List Nat) (r j : Nat) (hr : r ≤ 64) (h : nth A j < W64) : outd A r j < W64 := by
  unfold outd
  rw [low_part _ _ hr]
  have h1 : nth A (j + 1) % 2 ^ r < 2 ^ r := Nat.mod_lt _ (Nat.pow_pos (by omega))
  have h2 : (nth A (j + 1) % 2 ^ r + 1) * 2 ^ (64 - r) ≤ 2 ^ r * 2 ^ (64 - r) := Nat.mul_le_mul_right _ h1
  rw [Nat.add_mul, ← W64_split r hr] at h2
  have h3 : nth A j / 2 ^ r < 2 ^ (64 - r) := by
    rw [Nat.div_lt_iff_lt_mul (Nat.pow_pos (by omega)), Nat.mul_comm, ← W64_split r hr]; exact h
  omega
theorem shr_tele (A out : List Nat) (r m : Nat) (hr : r ≤ 64) (ho : ∀ j, j < m → nth out j = outd A r j) (k : Nat) (hk : k ≤ m) :
    vl W64 out k * 2 ^ r + nth A 0 % 2 ^ r = vl W64 A k + nth A k % 2 ^ r * W64 ^ k := by
  induction k with
  | zero => simp [vl]
  | succ k ih =>
    have h1 := ih (by omega)
    rw [vl_succ, vl_succ, ho k (by omega)]
    have h2 : outd A r k * 2 ^ r + nth A k % 2 ^ r = nth A k + nth A (k + 1) % 2 ^ r * W64 := by
      unfold outd
      rw [low_part _ _ hr, Nat.add_mul, Nat.mul_assoc, Nat.mul_comm (2 ^ (64 - r)), ← W64_split r hr]
      have := Nat.div_add_mod (nth A k) (2 ^ r)
      rw [Nat.mul_comm] at this
      omega
    have h3 : (outd A r k * 2 ^ r + nth A k % 2 ^ r) * W64 ^ k = (nth A k + nth A (k + 1) % 2 ^ r * W64) * W64 ^ k := by rw [h2]
    rw [Nat.add_mul, Nat.add_mul] at h3
    have h4 : nth A (k + 1) % 2 ^ r * W64 ^ (k + 1) = nth A (k + 1) % 2 ^ r * W64 * W64 ^ k := by rw [Nat.pow_succ, Nat.mul_comm (W64 ^ k) W64, Nat.mul_assoc]
    have h5 : (vl W64 out k + outd A r k * W64 ^ k) * 2 ^ r = vl W64 out k * 2 ^ r + outd A r k * 2 ^ r * W64 ^ k := by rw [Nat.add_mul, Nat.mul_right_comm]
    rw [h4, h5]
    omega
theorem shr_whole (A out : List Nat) (r m : Nat) (hr : r ≤ 64) (hA : A.length = m) (ho : ∀ j, j < m → nth out j = outd A r j) : vl W64 out m = vl W64 A m / 2 ^ r := by
  have h := shr_tele A out r m hr ho m (Nat.le_refl _)
  rw [nth_past A m (by omega), Nat.zero_mod, Nat.zero_mul, Nat.add_zero] at h
  have hp : 0 < 2 ^ r := Nat.pow_pos (by omega)
  rw [← h, Nat.mul_comm, Nat.mul_add_div hp, Nat.div_eq_of_lt (Nat.mod_lt _ hp), Nat.add_zero]
theorem or_expr {t r c : Nat} (hr : r ≤ 64) (ht : t < W64) (hc : c = (c / 2 ^ (64 - r)) * 2 ^ (64 - r)) (hcw : c < W64) : bits BinOp.or IntKind.u64 ((t : Int) / 2 ^ r) (c : Int) = ((t / 2 ^ r + c : Nat) : Int) := by
  have h1 : t / 2 ^ r < 2 ^ (64 - r) := by
    rw [Nat.div_lt_iff_lt_mul (Nat.pow_pos (by omega)), Nat.mul_comm, ← W64_split r hr]; exact ht
  have h2 : t / 2 ^ r < W64 := Nat.lt_of_le_of_lt (Nat.div_le_self _ _) ht
  have e : (t : Int) / 2 ^ r = ((t / 2 ^ r : Nat) : Int) := by simp
  rw [e, u64_or_nat _ _ h2 hcw, hc, ← Nat.shiftLeft_eq, Nat.or_comm, ← Nat.shiftLeft_add_eq_or_of_lt h1, Nat.add_comm]
theorem low_div (x r : Nat) (hr : r ≤ 64) : x * 2 ^ (64 - r) % W64 = x * 2 ^ (64 - r) % W64 / 2 ^ (64 - r) * 2 ^ (64 - r) := by
  rw [low_part _ _ hr, Nat.mul_div_cancel _ (Nat.pow_pos (by omega))]
theorem wrap_expr (t r : Nat) : IntKind.u64.wrap ((t : Int) * 2 ^ r) = ((t * 2 ^ r % W64 : Nat) : Int) := by
  rw [← wrap_u64]; simp
theorem shr_split {x n L r : Nat} (hL : n / 64 = L) (hr : n % 64 = r) : x / W64 ^ L / 2 ^ r = x / 2 ^ n := by
  rw [Nat.div_div_eq_div_mul, W64_pow, ← Nat.pow_mul, ← Nat.pow_add]; congr 2; omega
theorem shr_gone {x n L m : Nat} (hx : (digs W64 x).length = m) (hL : n / 64 = L) (h : m ≤ L) : x / 2 ^ n = 0 := by
  have h1 := (digs_length_le two_le_W64 x m).1 (by omega)
  apply Nat.div_eq_of_lt
  refine Nat.lt_of_lt_of_le h1 ?_
  rw [W64_pow, ← Nat.pow_mul]
  exact Nat.pow_le_pow_right (by omega) (by omega)


end Go.Proofs.Ytknkakkdhihngaa
