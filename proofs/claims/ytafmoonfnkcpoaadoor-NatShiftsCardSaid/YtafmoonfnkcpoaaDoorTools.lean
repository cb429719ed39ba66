/- Small tools for the laws of layer 1: sizes, and contracts that ask no more of the world than that what was there stays. -/
import Derived.Test.YtafmoonfnkcpoaaDoorAwake
namespace Go.Proofs.YtafmoonfnkcpoaaDoor
open Go.RowKit

theorem pow_W64 (n m : Nat) (h : m = 4 * n) : W64 ^ n = 65536 ^ m := by rw [W64_four, ← Nat.pow_mul, h]
/-- Two lists that are the same are told to be. -/
theorem refSame_true {B1 B2 : Nat} (p1 p2 : Option Addr) (l1 l2 c1 c2 : Nat) (xs ys : List Nat) (w : World) (k1 : l1 ≤ 4000000) (k2 : l2 ≤ 4000000)
    (r1 : Rd .u64 W64 B1 w p1 l1 xs) (r2 : Rd .u64 W64 B2 w p2 l2 ys) (h : xs = ys) :
    Calls Tryd.prog 7 #[.slice p1 l1 c1, .slice p2 l2 c2] w fun e w' => e = .returned (.bool true) ∧ Below w.heap.size w w' :=
  (refSame_any p1 p2 l1 l2 c1 c2 xs ys w k1 k2 r1 r2).mono fun _ _ ⟨he, n, hw⟩ => ⟨by rw [he, decide_eq_true h], by rw [hw]; exact below_drewN (Below.refl _ _) n⟩
theorem mul_len {B1 B2 : Nat} {w : World} {p1 p2 : Option Addr} {l1 l2 : Nat} {xs ys : List Nat} (r1 : Rd .u64 W64 B1 w p1 l1 xs) (r2 : Rd .u64 W64 B2 w p2 l2 ys) (a1 : l1 ≤ 200) (a2 : l2 ≤ 200) :
    (digs W64 (val W64 xs)).length + (digs W64 (val W64 ys)).length ≤ 1024 := by
  have h1 := (digs_length_le two_le_W64 (val W64 xs) 200).2 (r1.val_lt W64_pos a1)
  have h2 := (digs_length_le two_le_W64 (val W64 ys) 200).2 (r2.val_lt W64_pos a2)
  omega
theorem add_lt {x y n : Nat} (hx : x < W64 ^ n) (hy : y < W64 ^ n) : x + y < W64 ^ (n + 1) := by
  have : 2 * W64 ^ n ≤ W64 ^ (n + 1) := by rw [Nat.pow_succ, Nat.mul_comm]; exact Nat.mul_le_mul_left _ two_le_W64
  omega
theorem one_pow_lt (n m : Nat) (h : n < 64 * m) : 1 * 2 ^ n < W64 ^ m := by
  rw [Nat.one_mul, W64_pow, ← Nat.pow_mul]; exact Nat.pow_lt_pow_right (by omega) h
theorem nbits_bound {v : Nat} (m : Nat) (h : v < W64 ^ m) : nbits v ≤ 64 * m := (nbits_le v _).2 (by rw [W64_pow, ← Nat.pow_mul] at h; exact h)
theorem cmpN_neg_swap (x y : Nat) : cmpN x y = -cmpN y x := by
  unfold cmpN; split <;> split <;> omega
theorem cmpN_bd (x y : Nat) : -1 ≤ cmpN x y ∧ cmpN x y ≤ 1 := by
  unfold cmpN; split
  · omega
  · split <;> omega
/-- Cmp, where no more is asked of the world than that what was there stays. -/
theorem natCmp_keeps {B1 B2 : Nat} (p1 p2 : Option Addr) (l1 l2 c1 c2 : Nat) (xs ys : List Nat) (w : World) (h1 : l1 ≤ c1) (h2 : l2 ≤ c2) (k1 : l1 ≤ 1000000) (k2 : l2 ≤ 1000000)
    (r1 : Rd .u64 W64 B1 w p1 l1 xs) (r2 : Rd .u64 W64 B2 w p2 l2 ys) {c : Int} (hc : cmpN (val W64 xs) (val W64 ys) = c) :
    Calls Tryd.prog 10 #[.slice p1 l1 c1, .slice p2 l2 c2] w fun e w' => e = .returned (.int .i64 c) ∧ Below w.heap.size w w' :=
  (natCmp_any p1 p2 l1 l2 c1 c2 xs ys w h1 h2 k1 k2 r1 r2).mono fun _ _ ⟨he, n, hw⟩ => ⟨by rw [he, hc], by rw [hw]; exact below_drewN (Below.refl _ _) n⟩
end Go.Proofs.YtafmoonfnkcpoaaDoor
