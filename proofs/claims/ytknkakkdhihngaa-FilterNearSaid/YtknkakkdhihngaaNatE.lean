/- Layer 1 (nat): carryUp and Add of any numbers. -/
import Derived.Test.YtknkakkdhihngaaNatD
namespace Go.Proofs.Ytknkakkdhihngaa
open Go.RowKit

theorem vl_tail {β : Nat} (A X : List Nat) (c k n : Nat) (hk : k ≤ n) (h : vl β A k = vl β X k + c) (ht : ∀ i, k ≤ i → i < n → nth A i = nth X i) : vl β A n = vl β X n + c := by
  induction n with
  | zero => rw [show k = 0 by omega] at h; exact h
  | succ n ih =>
    by_cases hkn : k = n + 1
    · rw [hkn] at h; exact h
    · rw [vl_succ, vl_succ, ht n (by omega) (by omega)]
      have := ih (by omega) (fun i a b => ht i a (by omega))
      omega

/-- What carryUp leaves behind. -/
def CarriedUp (g e N : Nat) (f : Nat → Value) (off n : Nat) (xs : List Nat) (c : Nat) (w : World) (en : Ending) (w' : World) : Prop :=
  ∃ zs f' d, en = .returned (.tuple #[]) ∧ zs.length = n ∧ (∀ i, i < n → nth zs i < W64) ∧ Row w' g e N f' ∧ Part .u64 f f' off zs ∧
    vl W64 zs n + d * W64 ^ n = vl W64 xs n + c ∧ w.grownBy w' (some g)


/-- Plain mathematics: the sum, out of its lower part and what carryUp makes of the upper one. -/
theorem add_whole {β : Nat} (hb : 2 ≤ β) (X Y A C : List Nat) (n m c d : Nat) (hm : m ≤ n) (hX : ∀ i, i < n → nth X i < β) (hY : ∀ i, i < m → nth Y i < β)
    (h1 : vl β A m + c * β ^ m = vl β X m + vl β Y m) (h2 : vl β C (n + 1 - m) + d * β ^ (n + 1 - m) = vl β (X.drop m) (n + 1 - m) + c) (h0 : nth X n = 0)
    (hA : A.length = m) (hC : C.length = n + 1 - m) (_hAw : ∀ i, i < m → nth A i < β) (_hCw : ∀ i, i < n + 1 - m → nth C i < β) : vl β (A ++ C) (n + 1) = vl β X n + vl β Y m := by
  have e1 : vl β (A ++ C) (n + 1) = vl β A m + β ^ m * vl β C (n + 1 - m) := by
    rw [show n + 1 = m + (n + 1 - m) by omega, vl_add, vl_congr (xs := A ++ C) (ys := A) (fun i hi => nth_append_lt _ _ _ (by omega)), show m + (n + 1 - m) - m = n + 1 - m by omega]
    congr 2
    rw [List.drop_append_of_le_length (by omega), List.drop_of_length_le (by omega), List.nil_append]
  have e2 : vl β X (n + 1) = vl β X m + β ^ m * vl β (X.drop m) (n + 1 - m) := by
    rw [← vl_add]; congr 1; omega
  have e3 : vl β X (n + 1) = vl β X n := by rw [vl_succ, h0]; simp
  have h3 := vl_lt X n hX
  have h4 := vl_lt Y m hY
  have h5 : β ^ m ≤ β ^ n := Nat.pow_le_pow_right (by omega) hm
  have h6 : 2 * β ^ n ≤ β ^ (n + 1) := by rw [Nat.pow_succ, Nat.mul_comm]; exact Nat.mul_le_mul_left _ hb
  have h7 : β ^ m * (vl β C (n + 1 - m) + d * β ^ (n + 1 - m)) = β ^ m * (vl β (X.drop m) (n + 1 - m) + c) := by rw [h2]
  have h8 : β ^ m * (d * β ^ (n + 1 - m)) = d * β ^ (n + 1) := by
    rw [Nat.mul_left_comm, ← Nat.pow_add]; congr 2; omega
  rw [Nat.mul_add, Nat.mul_add, h8, Nat.mul_comm (β ^ m) c] at h7
  have hd : d = 0 := by
    by_cases hd : d = 0
    · exact hd
    · have : 1 * β ^ (n + 1) ≤ d * β ^ (n + 1) := Nat.mul_le_mul_right _ (by omega)
      omega
  subst hd
  rw [Nat.zero_mul] at h7
  omega


end Go.Proofs.Ytknkakkdhihngaa
