/- Layer 1 (nat): Len, Add and Sub of any numbers. -/
import Derived.Test.YtknkakkdhihngaaNatB
import Derived.Test.YtknkakkdhihngaaLib
import Derived.Lib.ItoaNum
namespace Go.Proofs.Ytknkakkdhihngaa
open Go.RowKit

/-- How many bits a number has. -/
def nbits (n : Nat) : Nat := (digs 2 n).length
theorem nbits_le (n k : Nat) : nbits n ≤ k ↔ n < 2 ^ k := digs_length_le (by omega) n k
theorem nbits_of {n k : Nat} (h1 : 2 ^ k ≤ n) (h2 : n < 2 ^ (k + 1)) : nbits n = k + 1 := by
  have := (nbits_le n (k + 1)).2 h2
  have h3 := nbits_le n k
  omega
theorem nbits_zero : nbits 0 = 0 := by unfold nbits; rw [digs_zero]; rfl
theorem nbits_pos {n : Nat} (h : 0 < n) : ∃ k, nbits n = k + 1 ∧ 2 ^ k ≤ n ∧ n < 2 ^ (k + 1) := by
  have h0 : nbits n ≠ 0 := by
    intro h0
    have := (nbits_le n 0).1 (by omega)
    simp at this; omega
  obtain ⟨k, hk⟩ : ∃ k, nbits n = k + 1 := ⟨nbits n - 1, by omega⟩
  refine ⟨k, hk, ?_, (nbits_le n (k + 1)).1 (by omega)⟩
  have := nbits_le n k
  omega
theorem bitLen_nbits (x : Nat) (h : x < 18446744073709551616) : Lib.bitLen x = nbits x := by
  by_cases h0 : x = 0
  · subst h0; rw [nbits_zero]; rfl
  · obtain ⟨h1, h2, h3⟩ := Lib.bitLenAux_bounds 64 x h h0
    obtain ⟨k, hk⟩ : ∃ k, Lib.bitLen x = k + 1 := ⟨Lib.bitLen x - 1, by unfold Lib.bitLen; omega⟩
    have hk' : Lib.bitLenAux 64 x = k + 1 := hk
    rw [hk'] at h2 h3
    rw [hk, nbits_of (k := k) (by simpa using h2) h3]
/-- By the top digit over a power of two. -/
theorem nbits_top {s x n : Nat} (hs : 0 < s) (h : (digs (2 ^ s) x).length = n + 1) : nbits x = s * n + nbits (nth (digs (2 ^ s) x) n) := by
  have hb : 2 ≤ 2 ^ s := by
    have : 2 ^ 1 ≤ 2 ^ s := Nat.pow_le_pow_right (by omega) hs
    simpa using this
  have ht : nth (digs (2 ^ s) x) n ≠ 0 := by
    have hx : 0 < x := by
      have := digs_length_pos hb x
      omega
    have := (digs_top hb x hx).2
    rw [h] at this; simpa using this
  have ex : vl (2 ^ s) (digs (2 ^ s) x) (n + 1) = x := by have := val_digs hb x; unfold val at this; rw [h] at this; exact this
  have hl := vl_lt (β := 2 ^ s) (digs (2 ^ s) x) n (fun i _ => digs_word hb _ _)
  rw [vl_succ] at ex
  generalize nth (digs (2 ^ s) x) n = t at *
  obtain ⟨k, hk, h1, h2⟩ := nbits_pos (show 0 < t by omega)
  rw [hk, ← Nat.add_assoc]
  rw [← Nat.pow_mul] at ex hl
  have e1 : 2 ^ (s * n + k) = 2 ^ k * 2 ^ (s * n) := by rw [Nat.pow_add, Nat.mul_comm]
  have e2 : 2 ^ (s * n + k + 1) = 2 ^ (k + 1) * 2 ^ (s * n) := by rw [Nat.add_assoc, Nat.pow_add, Nat.mul_comm]
  have h3 : 2 ^ k * 2 ^ (s * n) ≤ t * 2 ^ (s * n) := Nat.mul_le_mul_right _ h1
  have h4 : (t + 1) * 2 ^ (s * n) ≤ 2 ^ (k + 1) * 2 ^ (s * n) := Nat.mul_le_mul_right _ h2
  rw [Nat.add_mul] at h4
  exact nbits_of (by omega) (by omega)
theorem W64_pow : W64 = 2 ^ 64 := by unfold W64; decide

end Go.Proofs.Ytknkakkdhihngaa
