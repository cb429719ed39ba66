/- Layer 1 (nat): Len, Add and Sub of any numbers. -/
import Derived.Test.YtndcaajebomkhaaGreatDoorNatB
import Derived.Test.YtndcaajebomkhaaGreatDoorLib
import Derived.Lib.ItoaNum
namespace Go.Proofs.YtndcaajebomkhaaGreatDoor
open Go.RowKit

/-- How many bits a number has. -/
def nbits (n : Nat) : Nat := (digs 2 n).length
theorem nbits_le (n k : Nat) : nbits n ≤ k ↔ n < 2 ^ k := digs_length_le (by omega) n k
theorem nbits_of {n k : Nat} (h1 : 2 ^ k ≤ n) (h2 : n < 2 ^ (k + 1)) : nbits n = k + 1 := by
  have := (nbits_le n (k + 1)).2 h2
  have h3 := nbits_le n k
  omega
theorem nbits_zero : nbits 0 = 0 := by unfold nbits; rw [digs_zero]; rfl
theorem nbits_pos {n : Nat} (h : 0 < n) : ∃ k, nbits n = k + 1 ∧ 2 ^ k ≤ n ∧ n < 2 ^ (k + 1) := by
  have h0 : nbits n ≠ 0 := by
    intro h0
    have := (nbits_le n 0).1 (by omega)
    simp at this; omega
  obtain ⟨k, hk⟩ : ∃ k, nbits n = k + 1 := ⟨nbits n - 1, by omega⟩
  refine ⟨k, hk, ?_, (nbits_le n (k + 1)).1 (by omega)⟩
  have := nbits_le n k
  omega
theorem bitLen_nbits (x : Nat) (h : x < 18446744073709551616) : Lib.bitLen x = nbits x := by
  by_cases h0 : x = 0
  · subst h0; rw [nbits_zero]; rfl
  · obtain ⟨h1, h2, h3⟩ := Lib.bitLenAux_bounds 64 x h h0
    obtain ⟨k, hk⟩ : ∃ k, Lib.bitLen x = k + 1 := ⟨Lib.bitLen x - 1, by unfold Lib.bitLen; omega⟩
    have hk' : Lib.bitLenAux 64 x = k + 1 := hk
    rw [hk'] at h2 h3
    rw [hk, nbits_of (k := k) (by simpa using h2) h3]
/-- By the top digit over a power of two. -/
theorem nbits_top {s x n : Nat} (hs : 0 < s) (h : (digs (2 ^ s) x).length = n + 1) : nbits x = s * n + nbits (nth (digs (2 ^ s) x) n) := by
  have hb : 2 ≤ 2 ^ s := by
    have : 2 ^ 1 ≤ 2 ^ s := Nat.pow_le_pow_right (by omega) hs
    simpa using this
  have ht : nth (digs (2 ^ s) x) n ≠ 0 := by
    have hx : 0 < x := by
      have := digs_length_pos hb x
      omega
    have := (digs_top hb x hx).2
    rw [h] at this; simpa using this
  have ex : vl (2 ^ s) (digs (2 ^ s) x) (n + 1) = x := by have := val_digs hb x; unfold val at this; rw [h] at this; exact this
  have hl := vl_lt (β := 2 ^ s) (digs (2 ^ s) x) n (fun i _ => digs_word hb _ _)
  rw [vl_succ] at ex
  generalize nth (digs (2 ^ s) x) n = t at *
  obtain ⟨k, hk, h1, h2⟩ := nbits_pos (show 0 < t by omega)
  rw [hk, ← Nat.add_assoc]
  rw [← Nat.pow_mul] at ex hl
  have e1 : 2 ^ (s * n + k) = 2 ^ k * 2 ^ (s * n) := by rw [Nat.pow_add, Nat.mul_comm]
  have e2 : 2 ^ (s * n + k + 1) = 2 ^ (k + 1) * 2 ^ (s * n) := by rw [Nat.add_assoc, Nat.pow_add, Nat.mul_comm]
  have h3 : 2 ^ k * 2 ^ (s * n) ≤ t * 2 ^ (s * n) := Nat.mul_le_mul_right _ h1
  have h4 : (t + 1) * 2 ^ (s * n) ≤ 2 ^ (k + 1) * 2 ^ (s * n) := Nat.mul_le_mul_right _ h2
  rw [Nat.add_mul] at h4
  exact nbits_of (by omega) (by omega)
theorem W64_pow : W64 = 2 ^ 64 := by unfold W64; decide

set_option maxHeartbeats 400000 in
theorem natLen_any {B : Nat} (p : Option Addr) (len cap : Nat) (zs : List Nat) (w : World) (h : len ≤ cap) (hl : len ≤ 1000000) (hr : Rd .u64 W64 B w p len zs) :
    Calls Tryz.prog 60 #[.slice p len cap] w fun e w' => e = .returned (.int .i64 (nbits (val W64 zs) : Int)) ∧ w = w' := by
  obtain ⟨x, hx⟩ : ∃ x, x = val W64 zs := ⟨_, rfl⟩
  rw [← hx]
  have HX := Lib.hid hx
  clear hx
  go_enter Tryz.func60, Tryz.ntmps60
  go_wp2_with fail
  refine (trim_val p len cap zs w h hl hr).mono ?_
  rintro e w' ⟨q, n, rfl, hn, hq, hR, rfl⟩
  rw [← HX.out] at hR
  by_cases h0 : n = 0
  · subst h0
    have hx0 : x = 0 := (digs_length_pos two_le_W64 x).1 hR.count
    subst hx0
    clear HX
    go_wp2
    go_ret
    exact ⟨by rw [nbits_zero]; rfl, rfl⟩
  · obtain ⟨m, hm⟩ : ∃ m, n = m + 1 := ⟨n - 1, by omega⟩
    subst hm
    obtain ⟨b, off, rfl, _, hc⟩ := hR.cell m (by omega)
    have ht := hR.word m (by omega)
    obtain ⟨t, het⟩ : ∃ t, t = nth (digs W64 x) m := ⟨_, rfl⟩
    rw [← het] at hc ht
    have ht2 : t < 18446744073709551616 := ht
    have hb := bitLen_nbits t ht2
    have hE : Hid (nbits x = 64 * m + nbits t) := Lib.hid (by
      have hc := hR.count
      rw [W64_pow] at hc het
      rw [nbits_top (by omega) hc, ← het])
    have hb64 : nbits t ≤ 64 := (nbits_le t 64).2 ht2
    have C := bits_Len64 (t : Int) w (by omega) (by omega)
    rw [Int.toNat_natCast, hb] at C
    have HC := Lib.hid C
    clear C hb het ht ht2 h0 HX
    go_wp2_with (go_at_call 89; refine (HC.out).mono ?_; rintro e w' ⟨rfl, rfl⟩)
    go_ret
    exact ⟨by rw [hE.out]; go_num, rfl⟩
end Go.Proofs.YtndcaajebomkhaaGreatDoor
