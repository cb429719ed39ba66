/- math/bits.Div64 of any two words by a word that is greater than the higher one: the quotient, and what is left. -/
import Derived.Test.YtndcaajebomkhaaGreatDoorDivW
import Derived.Test.YtndcaajebomkhaaGreatDoorNatI
namespace Go.Proofs.YtndcaajebomkhaaGreatDoor
open Go.RowKit

theorem cast_mul_pow (a s : Nat) : (a : Int) * 2 ^ s = ((a * 2 ^ s : Nat) : Int) := by simp
theorem mask32 (n : Nat) (h : n < 18446744073709551616) : bits .and .u64 (n : Int) 4294967295 = ((n % 4294967296 : Nat) : Int) := by
  have h1 := bits_and_u64_nat n 4294967295 h (by omega)
  have h2 := Nat.and_two_pow_sub_one_eq_mod n 32
  rw [show (2 : Nat) ^ 32 - 1 = 4294967295 by decide, show (2 : Nat) ^ 32 = 4294967296 by decide] at h2
  rw [h2] at h1
  exact h1
/-- One half's guess. -/
structure HalfAt (u u1 Y yn1 yn0 q r : Nat) : Prop where
  eq : IntKind.u64.wrap ((u : Int) / (yn1 : Int)) = (q : Int)
  er : IntKind.u64.wrap ((u : Int) - IntKind.u64.wrap ((q : Int) * yn1)) = (r : Int)
  hr : r < 4294967296
  hq : q ≤ 4294967297
  inv : HalfInv u u1 Y yn1 yn0 q r
theorem half_at {u u1 Y yn1 yn0 : Nat} (hY : Y = yn1 * 4294967296 + yn0) (h0 : yn0 < 4294967296) (h1 : yn1 < 4294967296) (hn : 2147483648 ≤ yn1) (hu : u < Y) (hu1 : u1 < 4294967296) :
    HalfAt u u1 Y yn1 yn0 (u / yn1) (u % yn1) := by
  have hy64 : Y < 18446744073709551616 := by omega
  have hd := Nat.div_add_mod u yn1
  have hm := Nat.mod_lt u (show 0 < yn1 by omega)
  have hdl := Nat.div_le_self u yn1
  refine ⟨?_, ?_, by omega, half_guess hY h0 hn hu, half_over hY (by omega) hu1, by rw [Nat.mul_comm]; exact hd⟩
  · rw [← Int.natCast_ediv]; exact wrap64_nat _ (by omega)
  · rw [wrap64_mul _ _ (by rw [Nat.mul_comm]; omega), wrap64_mod]
    rw [Nat.mul_comm] at hd
    generalize u / yn1 * yn1 = a at *
    omega
theorem half_next {u u1 Y Q : Nat} (hY0 : 0 < Y) (hY : Y < 18446744073709551616) (hQ : Q = (u * 4294967296 + u1) / Y) :
    IntKind.u64.wrap (IntKind.u64.wrap (IntKind.u64.wrap ((u : Int) * 4294967296) + u1) - IntKind.u64.wrap ((Q : Int) * Y)) = (((u * 4294967296 + u1) % Y : Nat) : Int) := by
  rw [wrap64_mod, wrap64_mod, wrap64_mod, wrap64_mod]
  exact half_left hY0 rfl hY hQ

theorem quo_word {a b c : Nat} (h : a * 4294967296 + b = c) (ha : a < 4294967296) (hb : b < 4294967296) : IntKind.u64.wrap (IntKind.u64.wrap ((a : Int) * 4294967296) + (b : Int)) = (c : Int) := by
  rw [wrap64_mod, wrap64_mod]
  omega

theorem div64_any (hi lo y : Nat) (hy : hi < y) (hyw : y < W64) (hlo : lo < W64) (w : World) :
    Calls Tryz.prog 84 #[.int .u64 (hi : Int), .int .u64 (lo : Int), .int .u64 (y : Int)] w fun e w' =>
      e = .returned (.tuple #[.int .u64 (((hi * W64 + lo) / y : Nat) : Int), .int .u64 (((hi * W64 + lo) % y : Nat) : Int)]) ∧ ∃ n, w' = w.drewN n := by
  by_cases h0 : hi = 0
  · subst h0
    have := div64_small lo y (by omega) hlo w
    simpa using this
  · obtain ⟨k, hk, hk1, hk2⟩ := nbits_pos (show 0 < y by omega)
    have hk63 : k < 64 := by
      rcases Nat.lt_or_ge k 64 with h | h
      · exact h
      · have := Nat.pow_le_pow_right (show 0 < 2 by omega) h
        rw [W64_pow] at hyw
        omega
    obtain ⟨s, hs⟩ : ∃ s, s = 63 - k := ⟨_, rfl⟩
    have hpw : 0 < 2 ^ s := Nat.pow_pos (by omega)
    have hY1 : 2 ^ 63 ≤ y * 2 ^ s := by
      have : 2 ^ k * 2 ^ s ≤ y * 2 ^ s := Nat.mul_le_mul_right _ hk1
      rwa [← Nat.pow_add, show k + s = 63 by omega] at this
    have hY2 : y * 2 ^ s < 2 ^ 64 := by
      have : y * 2 ^ s < 2 ^ (k + 1) * 2 ^ s := Nat.mul_lt_mul_of_pos_right hk2 hpw
      rwa [← Nat.pow_add, show k + 1 + s = 64 by omega] at this
    have HL := bits_LeadingZeros64 (y : Int) w (by omega) (by unfold W64 at hyw; omega)
    rw [Int.toNat_natCast, bitLen_nbits y hyw, hk] at HL
    replace HL : Calls Tryz.prog 85 #[.int .u64 (y : Int)] w fun e w' => e = .returned (.int .i64 (s : Int)) ∧ w = w' :=
      HL.mono fun e w' ⟨h1, h2⟩ => ⟨by rw [h1]; congr 2; omega, h2.symm⟩
    have hmp := moved_parts (hi := hi) (lo := lo) (s := s) (by omega) hlo
    have hW : W64 = 18446744073709551616 := rfl
    rw [hW] at hlo hyw ⊢
    obtain ⟨Y, hYd⟩ : ∃ Y, Y = y * 2 ^ s := ⟨_, rfl⟩
    obtain ⟨u, hud⟩ : ∃ u, u = hi * 2 ^ s + lo / 2 ^ (64 - s) := ⟨_, rfl⟩
    obtain ⟨L, hLd⟩ : ∃ L, L = lo * 2 ^ s % 18446744073709551616 := ⟨_, rfl⟩
    have hYlt : Y < 18446744073709551616 := by rw [hYd]; exact hY2
    have hYge : 9223372036854775808 ≤ Y := by rw [hYd]; exact hY1
    have hLlt : L < 18446744073709551616 := by rw [hLd]; exact Nat.mod_lt _ (by omega)
    have hu : u < Y := by
      have h1 : hi * 18446744073709551616 + lo < y * 18446744073709551616 := by omega
      have h2 : (hi * 18446744073709551616 + lo) * 2 ^ s < y * 18446744073709551616 * 2 ^ s := Nat.mul_lt_mul_of_pos_right h1 hpw
      rw [hmp, ← hud, Nat.mul_right_comm, ← hYd] at h2
      omega
    rw [← hud, ← hLd] at hmp
    have hd : lo / 2 ^ (64 - s) < 2 ^ s := by
      rw [Nat.div_lt_iff_lt_mul (Nat.pow_pos (by omega)), ← Nat.pow_add, show s + (64 - s) = 64 by omega]
      exact hlo
    have hi2 : hi * 2 ^ s < W64 := by
      rw [hW]; exact Nat.lt_of_le_of_lt (by rw [hud]; exact Nat.le_add_right _ _) (Nat.lt_trans hu hYlt)
    have eU : bits .or .u64 (IntKind.u64.wrap ((hi : Int) * 2 ^ s)) ((lo : Int) / 2 ^ (64 - s)) = (u : Int) := by
      have e1 : (lo : Int) / 2 ^ (64 - s) = ((lo / 2 ^ (64 - s) : Nat) : Int) := by simp
      rw [e1]
      exact shl_expr (t := hi) (r := s) (d := lo / 2 ^ (64 - s)) (s := u) (by omega) hd (by rw [Nat.mod_eq_of_lt hi2, hud])
    have hX := half_at (u := u) (u1 := L / 4294967296) (Y := Y) (yn1 := Y / 4294967296) (yn0 := Y % 4294967296) (by omega) (by omega) (by omega) (by omega) hu (by omega)
    have hv : (u * 4294967296 + L / 4294967296) % Y < Y := Nat.mod_lt _ (by omega)
    have hZ := half_at (u := (u * 4294967296 + L / 4294967296) % Y) (u1 := L % 4294967296) (Y := Y) (yn1 := Y / 4294967296) (yn0 := Y % 4294967296) (by omega) (by omega) (by omega) (by omega) hv (by omega)
    obtain ⟨hq, hr⟩ := halves (U := (hi * 18446744073709551616 + lo) * 2 ^ s) (y := Y) (u := u) (u1 := L / 4294967296) (u0 := L % 4294967296) (by omega) (by rw [hmp]; omega)
    have eD : (hi * 18446744073709551616 + lo) * 2 ^ s / Y = (hi * 18446744073709551616 + lo) / y := by rw [hYd]; exact div_moved (a := hi * 18446744073709551616 + lo) (b := y) (s := s)
    have hQ1 := half_small (u := u) (u1 := L / 4294967296) (y := Y) hu (by omega)
    have hQ0 := half_small (u := (u * 4294967296 + L / 4294967296) % Y) (u1 := L % 4294967296) (y := Y) hv (by omega)
    rw [eD] at hq
    have hquo : IntKind.u64.wrap (IntKind.u64.wrap ((((u * 4294967296 + L / 4294967296) / Y : Nat) : Int) * 4294967296) + ((((u * 4294967296 + L / 4294967296) % Y * 4294967296 + L % 4294967296) / Y : Nat) : Int)) = (((hi * 18446744073709551616 + lo) / y : Nat) : Int) := quo_word hq hQ1 hQ0
    have M := div64_main hi lo y s Y (Y / 4294967296) (Y % 4294967296) u L (L / 4294967296) (L % 4294967296) _ _ ((u * 4294967296 + L / 4294967296) / Y) ((u * 4294967296 + L / 4294967296) % Y) _ _
      (((u * 4294967296 + L / 4294967296) % Y * 4294967296 + L % 4294967296) / Y) ((hi * 18446744073709551616 + lo) / y) ((hi * 18446744073709551616 + lo) % y) (by omega) hy w (by omega) (by omega) (by omega) (by omega) (by omega) hu (by omega) hv (by omega)
      (by rw [cast_mul_pow, ← hYd]; exact wrap64_nat _ hYlt) (by omega) (mask32 Y hYlt) eU (by rw [cast_mul_pow, wrap64_mod, hLd]; exact (Int.natCast_emod _ _).symm) (by omega) (mask32 L hLlt)
      hX.eq hX.er hX.hr hX.hq (Lib.hid hX.inv) (Lib.hid rfl) (half_next (by omega) hYlt rfl) hZ.eq hZ.er hZ.hr hZ.hq (Lib.hid hZ.inv) (Lib.hid rfl)
      hquo
      (by
        rw [half_next (by omega) hYlt rfl, hr, hYd]
        have e2 : (((hi * 18446744073709551616 + lo) * 2 ^ s % (y * 2 ^ s) : Nat) : Int) / 2 ^ s = (((hi * 18446744073709551616 + lo) * 2 ^ s % (y * 2 ^ s) / 2 ^ s : Nat) : Int) := by simp
        rw [e2, mod_moved (a := hi * 18446744073709551616 + lo) (b := y) (s := s)])
      HL
    exact M.mono fun e w' ⟨h1, h2⟩ => ⟨h1, 0, h2⟩
end Go.Proofs.YtndcaajebomkhaaGreatDoor
