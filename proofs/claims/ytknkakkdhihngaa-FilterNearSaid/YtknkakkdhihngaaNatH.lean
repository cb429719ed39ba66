/- Layer 1 (nat): Shl and Shr of any numbers. -/
import Derived.Test.YtknkakkdhihngaaNatF
import Derived.Laws.BitsAllLaws
namespace Go.Proofs.Ytknkakkdhihngaa
open Go.RowKit

/-! Plain mathematics: a limb moved. -/
theorem W64_split (r : Nat) (hr : r ≤ 64) : W64 = 2 ^ r * 2 ^ (64 - r) := by
  rw [← Nat.pow_add, W64_pow]; congr 1; omega
theorem shl_hi (x r : Nat) (hr : r ≤ 64) : x * 2 ^ r / W64 = x / 2 ^ (64 - r) := by
  rw [W64_split r hr, Nat.mul_comm x, Nat.mul_div_mul_left _ _ (Nat.pow_pos (by omega))]
theorem shl_lo (x r : Nat) (hr : r ≤ 64) : x * 2 ^ r % W64 = (x % 2 ^ (64 - r)) * 2 ^ r := by
  rw [W64_split r hr, Nat.mul_comm x, Nat.mul_mod_mul_left, Nat.mul_comm]
theorem shl_or (x r c : Nat) (hr : r ≤ 64) (hc : c < 2 ^ r) : x * 2 ^ r % W64 ||| c = x * 2 ^ r % W64 + c := by
  rw [shl_lo x r hr, ← Nat.shiftLeft_eq, Nat.shiftLeft_add_eq_or_of_lt hc]

theorem wrap_u64 (n : Nat) : IntKind.u64.wrap (n : Int) = ((n % W64 : Nat) : Int) := by
  simp [IntKind.wrap, IntKind.signed, IntKind.bits, W64]
theorem shl_expr {t r d s : Nat} (hr : r ≤ 64) (hd : d < 2 ^ r) (hs : s = t * 2 ^ r % W64 + d) : bits BinOp.or IntKind.u64 (IntKind.u64.wrap ((t : Int) * 2 ^ r)) (d : Int) = (s : Int) := by
  have e : (t : Int) * 2 ^ r = ((t * 2 ^ r : Nat) : Int) := by simp
  have h1 : t * 2 ^ r % W64 < W64 := Nat.mod_lt _ W64_pos
  have h2 : d < W64 := Nat.lt_of_lt_of_le hd (by rw [W64_pow]; exact Nat.pow_le_pow_right (by omega) hr)
  rw [e, wrap_u64, u64_or_nat _ _ h1 h2, shl_or _ _ _ hr hd, hs]
theorem shr_expr {t r d : Nat} (hr : r ≤ 64) (hd : d = t * 2 ^ r / W64) : (t : Int) / 2 ^ (64 - r) = (d : Int) := by
  rw [hd, shl_hi _ _ hr]; simp
theorem shl_limb {t r d s d' : Nat} (hs : s = t * 2 ^ r % W64 + d) (hd' : d' = t * 2 ^ r / W64) : s + d' * W64 = t * 2 ^ r + d := by
  have := Nat.div_add_mod (t * 2 ^ r) W64
  rw [← hd', Nat.mul_comm] at this
  omega
theorem shl_lt {t r d' : Nat} (ht : t < W64) (hd' : d' = t * 2 ^ r / W64) : d' < 2 ^ r := by
  rw [hd', Nat.div_lt_iff_lt_mul W64_pos, Nat.mul_comm]
  exact Nat.mul_lt_mul_of_pos_left ht (Nat.pow_pos (by omega))
theorem shl_word {t r d s : Nat} (hr : r ≤ 64) (hd : d < 2 ^ r) (hs : s = t * 2 ^ r % W64 + d) : s < W64 := by
  have h1 : t % 2 ^ (64 - r) < 2 ^ (64 - r) := Nat.mod_lt _ (Nat.pow_pos (by omega))
  rw [shl_lo _ _ hr] at hs
  have h2 : (t % 2 ^ (64 - r) + 1) * 2 ^ r ≤ 2 ^ (64 - r) * 2 ^ r := Nat.mul_le_mul_right _ h1
  rw [Nat.add_mul, Nat.mul_comm (2 ^ (64 - r)) (2 ^ r), ← W64_split r hr] at h2
  rw [hs]
  omega
theorem shl_step {β s t R d d' n Z X : Nat} (hl : s + d' * β = t * R + d) (h : Z + d * β ^ n = X * R) :
    (Z + s * β ^ n) + d' * β ^ (n + 1) = (X + t * β ^ n) * R := by
  have h2 : (s + d' * β) * β ^ n = (t * R + d) * β ^ n := by rw [hl]
  rw [Nat.add_mul, Nat.add_mul] at h2
  have h3 : d' * β ^ (n + 1) = d' * β * β ^ n := by rw [Nat.pow_succ, Nat.mul_comm (β ^ n) β, Nat.mul_assoc]
  have h4 : t * β ^ n * R = t * R * β ^ n := by rw [Nat.mul_right_comm]
  rw [h3, Nat.add_mul, h4]
  omega
theorem shl_whole {L n d X n' r : Nat} (zs : List Nat) (hz : zs.length = n) (hv : vl W64 zs n + d * W64 ^ n = X * 2 ^ r) (hn : n' / 64 = L) (hr : n' % 64 = r) :
    vl W64 (List.replicate L 0 ++ (zs ++ [d])) (L + n + 1) = X * 2 ^ n' := by
  have e1 : 2 ^ n' = W64 ^ L * 2 ^ r := by
    rw [W64_pow, ← Nat.pow_mul, ← Nat.pow_add]; congr 1; omega
  rw [Nat.add_assoc, vl_add, vl_congr (xs := List.replicate L 0 ++ (zs ++ [d])) (ys := List.replicate L 0) (fun i hi => nth_append_lt _ _ _ (by rw [List.length_replicate]; exact hi)), vl_replicate, Nat.zero_add,
    List.drop_append_of_le_length (by rw [List.length_replicate]; exact Nat.le_refl _), List.drop_of_length_le (by rw [List.length_replicate]; exact Nat.le_refl _), List.nil_append, vl_succ,
    vl_congr (xs := zs ++ [d]) (ys := zs) (fun i hi => nth_append_lt _ _ _ (by omega)), nth_snoc _ _ _ hz.symm, hv, e1, Nat.mul_left_comm]


end Go.Proofs.Ytknkakkdhihngaa
