/- The document's own answers for layer 1: Mul of any digits. -/
import Derived.Test.YtomkefnnhbghjaaDoorRefB
namespace Go.Proofs.YtomkefnnhbghjaaDoor
open Go.RowKit

theorem nth_set (zs : List Nat) (p v i : Nat) (hp : p < zs.length) : nth (zs.set p v) i = if i = p then v else nth zs i := by
  unfold nth
  rw [List.getD_eq_getElem?_getD, List.getElem?_set]
  by_cases h : p = i
  · subst h; simp [hp]
  · have h' : ¬ i = p := fun e => h e.symm
    simp [h, h']
theorem vl_set {β : Nat} (zs : List Nat) (p v n : Nat) (hp : p < zs.length) (hn : p < n) : vl β (zs.set p v) n + nth zs p * β ^ p = vl β zs n + v * β ^ p := by
  induction n with
  | zero => omega
  | succ n ih =>
    rw [vl_succ, vl_succ]
    by_cases h : p = n
    · subst h
      rw [nth_set _ _ _ _ hp, if_pos rfl, vl_congr (xs := zs.set p v) (ys := zs) (fun i hi => by rw [nth_set _ _ _ _ hp, if_neg (by omega)])]
      omega
    · rw [nth_set _ _ _ _ hp, if_neg (by omega)]
      have := ih (by omega)
      omega
theorem row_step {β V V' o z c c' x y Yk i k R : Nat} (hs : z + c' * β = o + x * y + c) (h1 : V' + o * β ^ (i + k) = V + z * β ^ (i + k)) (h : V + c * β ^ (i + k) = R + x * Yk * β ^ i) :
    V' + c' * β ^ (i + (k + 1)) = R + x * (Yk + y * β ^ k) * β ^ i := by
  have h2 : (z + c' * β) * β ^ (i + k) = (o + x * y + c) * β ^ (i + k) := by rw [hs]
  rw [Nat.add_mul, Nat.add_mul, Nat.add_mul] at h2
  have h3 : c' * β ^ (i + (k + 1)) = c' * β * β ^ (i + k) := by rw [← Nat.add_assoc, Nat.pow_succ, Nat.mul_comm (β ^ (i + k)) β, Nat.mul_assoc]
  have h4 : x * (Yk + y * β ^ k) * β ^ i = x * Yk * β ^ i + x * y * β ^ (i + k) := by
    rw [Nat.mul_add, Nat.add_mul, Nat.pow_add, ← Nat.mul_assoc, Nat.mul_assoc (x * y), Nat.mul_comm (β ^ k)]
  rw [h3, h4]
  omega

end Go.Proofs.YtomkefnnhbghjaaDoor
