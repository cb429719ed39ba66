/- The document's own answers for layer 1: Limbs and Mul of any digits. -/
import Derived.Test.YtknkakkdhihngaaRefA
namespace Go.Proofs.Ytknkakkdhihngaa
open Go.RowKit

/-! Plain mathematics: four digits are a limb. -/
theorem vl_first {β : Nat} (L : List Nat) (a n : Nat) : vl β (L.drop a) (n + 1) = nth L a + β * vl β (L.drop (a + 1)) n := by
  rw [Nat.add_comm n 1, vl_add, vl_succ, vl_zero, nth_drop, List.drop_drop]
  simp
theorem chunk_step {t I X X' d : Nat} (ds : List Nat) (h0 : 0 < t) (ht : t ≤ 4) (hX : X = vl 65536 (ds.drop (I + t)) (4 - t)) (hd : d = nth ds (I + (t - 1))) (hX' : X' = X * 65536 + d) : X' = vl 65536 (ds.drop (I + (t - 1))) (4 - (t - 1)) := by
  rw [show 4 - (t - 1) = (4 - t) + 1 by omega, vl_first, show I + (t - 1) + 1 = I + t by omega, ← hX, ← hd, hX', Nat.mul_comm, Nat.add_comm]
theorem chunk_lt {t I X : Nat} (ds : List Nat) (hw : ∀ i, nth ds i < 65536) (hX : X = vl 65536 (ds.drop (I + t)) (4 - t)) : X < 65536 ^ (4 - t) := by
  rw [hX]; exact vl_lt _ _ (fun i _ => by rw [nth_drop]; exact hw _)
theorem limb_of {I j Y : Nat} (ds ys : List Nat) (hI : I = 4 * j) (_hY : Y = vl W64 ys j) (h : Y = vl 65536 ds I) : Y + vl 65536 (ds.drop I) 4 * W64 ^ j = vl 65536 ds (I + 4) := by
  rw [vl_add, h, W64_four, ← Nat.pow_mul, ← hI, Nat.mul_comm]
/-- As many digits, of the same value: the canonical ones. -/
theorem digs_by {β : Nat} (hb : 2 ≤ β) (ys : List Nat) (n : Nat) (hl : ys.length = (digs β n).length) (hw : ∀ i, i < ys.length → nth ys i < β) (hv : val β ys = n) : ys = digs β n := by
  have h := digs_of hb ys hw (by
    by_cases h0 : ys.length = 0
    · exact Or.inl h0
    · right
      intro ht
      have h1 : vl β ys (ys.length - 1) = n := by
        have h2 : vl β ys (ys.length - 1 + 1) = n := by rw [show ys.length - 1 + 1 = ys.length by omega]; exact hv
        rw [vl_succ, ht, Nat.zero_mul, Nat.add_zero] at h2; exact h2
      have h3 := vl_lt ys (ys.length - 1) (fun i hi => hw i (by omega))
      rw [h1] at h3
      have := (digs_length_le hb n _).2 h3
      omega)
  rw [hv] at h; exact h
theorem limbs_length {X n j : Nat} (hn : (digs 65536 X).length = n) (h1 : n ≤ 4 * j) (h2 : 4 * j < n + 4) : (digs W64 X).length = j := by
  have a : X < W64 ^ j := by
    rw [W64_four, ← Nat.pow_mul]
    exact (digs_length_le (by omega) X (4 * j)).1 (by omega)
  have b := (digs_length_le two_le_W64 X j).2 a
  by_cases hj : j = 0
  · omega
  · have c := (digs_lt_length (β := 65536) (by omega) X (4 * (j - 1))).1 (by omega)
    have d : W64 ^ (j - 1) ≤ X := by rw [W64_four, ← Nat.pow_mul]; exact c
    have e := (digs_lt_length two_le_W64 X (j - 1)).2 d
    omega

end Go.Proofs.Ytknkakkdhihngaa
