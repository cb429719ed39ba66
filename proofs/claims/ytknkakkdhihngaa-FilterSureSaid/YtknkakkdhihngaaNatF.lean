/- Layer 1 (nat): Sub of any numbers. -/
import Derived.Test.YtknkakkdhihngaaNatE
namespace Go.Proofs.Ytknkakkdhihngaa
open Go.RowKit

/-! Plain mathematics: one limb with a borrow. -/
theorem sub_limb {β x y b s b' : Nat} (hx : x < β) (hy : y < β) (hb : b ≤ 1) (hs : s = (x + β - y - b) % β) (hb' : b' = bor x y b) : s + y + b = x + b' * β := by
  unfold bor at hb'
  split at hb'
  · subst hb'
    rw [Nat.mod_eq_of_lt (by omega)] at hs
    omega
  · subst hb'
    have h0 : x + β - y - b = (x - y - b) + β := by omega
    rw [h0, Nat.add_mod_right, Nat.mod_eq_of_lt (by omega)] at hs
    omega
theorem sub_step {β s x y b b' n Z X Y : Nat} (hs : s + y + b = x + b' * β) (h : Z + Y = X + b * β ^ n) :
    (Z + s * β ^ n) + (Y + y * β ^ n) = (X + x * β ^ n) + b' * β ^ (n + 1) := by
  have h2 : (s + y + b) * β ^ n = (x + b' * β) * β ^ n := by rw [hs]
  rw [Nat.add_mul, Nat.add_mul, Nat.add_mul] at h2
  have h3 : b' * β ^ (n + 1) = b' * β * β ^ n := by rw [Nat.pow_succ, Nat.mul_comm (β ^ n) β, Nat.mul_assoc]
  rw [h3]
  omega
theorem sub_tail {β : Nat} (A X Y : List Nat) (k n : Nat) (hk : k ≤ n) (h : vl β A k + vl β Y k = vl β X k) (ht : ∀ i, k ≤ i → i < n → nth A i = nth X i) (hy : ∀ i, k ≤ i → i < n → nth Y i = 0) : vl β A n + vl β Y n = vl β X n := by
  induction n with
  | zero => rw [show k = 0 by omega] at h; exact h
  | succ n ih =>
    by_cases hkn : k = n + 1
    · rw [hkn] at h; exact h
    · rw [vl_succ, vl_succ, vl_succ, ht n (by omega) (by omega), hy n (by omega) (by omega)]
      have := ih (by omega) (fun i a b => ht i a (by omega)) (fun i a b => hy i a (by omega))
      omega
theorem sub_whole {β n d A X Y : Nat} (h : A + Y = X + d * β ^ n) (hA : A < β ^ n) (hYX : Y ≤ X) : A = X - Y := by
  by_cases hd : d = 0
  · subst hd; omega
  · have : 1 * β ^ n ≤ d * β ^ n := Nat.mul_le_mul_right _ (by omega)
    omega
theorem cmpN_neg {x y : Nat} (h : x < y) : (cmpN x y < 0) := by rw [cmpN_lt h]; omega
theorem cmpN_nonneg {x y : Nat} (h : y ≤ x) : ¬ (cmpN x y < 0) := by
  by_cases h1 : y < x
  · rw [cmpN_gt h1]; omega
  · rw [cmpN_eq (by omega)]; omega


end Go.Proofs.Ytknkakkdhihngaa
