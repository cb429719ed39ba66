/- Layer 5 (float): high, below, Finite, Norm, rank, Cmp of any bits. -/
import Derived.Test.YtioajdabiejhmaaDoorFlt
import Derived.Laws.BitsAllLaws
import Derived.Test.YtioajdabiejhmaaDoorLibB
namespace Go.Proofs.YtioajdabiejhmaaDoor
open Go.RowKit

theorem and_high (b : Nat) (hb : b < 18446744073709551616) : bits .and .u64 ((b : Int) / 4503599627370496) 2047 = (fE b : Int) := by
  have h1 := bits_and_u64_nat (b / 4503599627370496) 2047 (by omega) (by omega)
  have h2 := Nat.and_two_pow_sub_one_eq_mod (b / 4503599627370496) 11
  rw [show (2 : Nat) ^ 11 - 1 = 2047 by decide, show (2 : Nat) ^ 11 = 2048 by decide] at h2
  rw [h2] at h1
  exact h1
theorem and_low (b : Nat) (hb : b < 18446744073709551616) : bits .and .u64 (b : Int) 4503599627370495 = (fF b : Int) := by
  have h1 := u64_and_nat b 4503599627370495 hb (by omega)
  have h2 := Nat.and_two_pow_sub_one_eq_mod b 52
  rw [show (2 : Nat) ^ 52 - 1 = 4503599627370495 by decide, show (2 : Nat) ^ 52 = 4503599627370496 by decide] at h2
  rw [h2] at h1
  exact h1
theorem and_two (b k : Nat) : b &&& 2 ^ k = if b.testBit k then 2 ^ k else 0 := by
  apply Nat.eq_of_testBit_eq
  intro i
  rw [Nat.testBit_and, Nat.testBit_two_pow]
  by_cases h : k = i
  · subst h
    cases hb : b.testBit k
    · simp
    · simp [Nat.testBit_two_pow]
  · split <;> simp [Nat.testBit_two_pow, h]
theorem and_sign (b : Nat) (hb : b < 18446744073709551616) : bits .and .u64 (b : Int) 9223372036854775808 = if fS b then 9223372036854775808 else 0 := by
  have h1 := u64_and_nat b 9223372036854775808 hb (by omega)
  have h2 := and_two b 63
  rw [show (2 : Nat) ^ 63 = 9223372036854775808 by decide] at h2
  have h3 : b.testBit 63 = fS b := by
    rw [Nat.testBit_eq_decide_div_mod_eq, show (2 : Nat) ^ 63 = 9223372036854775808 by decide]
    unfold fS P63
    rw [decide_eq_decide]; omega
  rw [h3] at h2
  have h4 : ((9223372036854775808 : Nat) : Int) = 9223372036854775808 := rfl
  rw [h4] at h1
  rw [h1, h2]
  cases fS b <;> rfl
theorem andNot_sign (b : Nat) (hb : b < 18446744073709551616) : bits .andNot .u64 (b : Int) 9223372036854775808 = (fR b : Int) := by
  have h1 := u64_andNot_nat b 9223372036854775808 hb (by omega)
  have h2 := Nat.and_two_pow_sub_one_eq_mod b 63
  rw [show (2 : Nat) ^ 63 - 1 = 9223372036854775807 by decide, show (2 : Nat) ^ 63 = 9223372036854775808 by decide] at h2
  rw [show 18446744073709551615 - 9223372036854775808 = 9223372036854775807 by omega, h2] at h1
  exact h1
theorem or_low (m : Nat) (h : m < P52) : bits .or .u64 (m : Int) 4503599627370496 = ((m + P52 : Nat) : Int) := by
  have hm : m < 4503599627370496 := h
  have h1 := u64_or_nat m 4503599627370496 (by omega) (by omega)
  rw [Nat.or_comm, nat_join 52 4503599627370496 m (by decide) (by omega), Nat.add_comm] at h1
  exact h1

theorem high_any (b E : Nat) (hb : b < 18446744073709551616) (hE : fE b = E) (w : World) :
    Calls Tryd.prog 16 #[.int .u64 (b : Int)] w fun e w' => e = .returned (.int .i64 (E : Int)) ∧ w = w' := by
  have e1 := and_high b hb
  have hl := fE_lt b
  rw [hE] at e1 hl
  clear hE
  go_enter Tryd.func16, Tryd.ntmps16
  go_wp2
  go_ret
  exact ⟨rfl, rfl⟩
theorem below_any (b : Nat) (s : Bool) (hb : b < 18446744073709551616) (hs : fS b = s) (w : World) :
    Calls Tryd.prog 18 #[.int .u64 (b : Int)] w fun e w' => e = .returned (.bool s) ∧ w = w' := by
  have e1 := and_sign b hb
  rw [hs] at e1
  clear hs
  cases s
  · replace e1 : bits .and .u64 (b : Int) 9223372036854775808 = 0 := e1
    go_enter Tryd.func18, Tryd.ntmps18
    go_wp2
    go_ret
    exact ⟨rfl, rfl⟩
  · replace e1 : bits .and .u64 (b : Int) 9223372036854775808 = 9223372036854775808 := e1
    go_enter Tryd.func18, Tryd.ntmps18
    go_wp2
    go_ret
    exact ⟨rfl, rfl⟩
/-- Are they a finite float's? -/
def fin (b : Nat) : Bool := decide (fE b ≠ 2047)
theorem finite_any (b : Nat) (f : Bool) (hb : b < 18446744073709551616) (hf : fin b = f) (w : World) :
    Calls Tryd.prog 8 #[.int .u64 (b : Int)] w fun e w' => e = .returned (.bool f) ∧ w = w' := by
  obtain ⟨E, hE⟩ : ∃ E, fE b = E := ⟨_, rfl⟩
  have H := Lib.hid (high_any b E hb hE w)
  unfold fin at hf
  rw [hE] at hf
  clear hE
  have HF := Lib.hid hf
  clear hf
  go_enter Tryd.func8, Tryd.ntmps8
  go_wp2_with (go_at_call 16; refine (H.out).mono ?_; rintro e w' ⟨rfl, rfl⟩)
  go_ret
  refine ⟨?_, rfl⟩
  rw [← HF.out]
  by_cases h : E = 2047
  · subst h; rfl
  · simp [h]; omega
theorem norm_any (b n : Nat) (hb : b < 18446744073709551616) (hn : (if b = 9223372036854775808 then 0 else b) = n) (w : World) :
    Calls Tryd.prog 11 #[.int .u64 (b : Int)] w fun e w' => e = .returned (.int .u64 (n : Int)) ∧ w = w' := by
  by_cases h : b = 9223372036854775808
  · rw [if_pos h] at hn
    subst hn h
    go_enter Tryd.func11, Tryd.ntmps11
    go_wp2
    go_ret
    exact ⟨rfl, rfl⟩
  · rw [if_neg h] at hn
    subst hn
    have hz : ¬ (b : Int) = 9223372036854775808 := by omega
    go_enter Tryd.func11, Tryd.ntmps11
    go_wp2
    go_ret
    exact ⟨rfl, rfl⟩
theorem rank_any (b : Nat) (k : Int) (hb : b < 18446744073709551616) (hk : fK b = k) (w : World) :
    Calls Tryd.prog 23 #[.int .u64 (b : Int)] w fun e w' => e = .returned (.int .i64 k) ∧ w = w' := by
  have e1 := andNot_sign b hb
  have hr := fR_lt b
  unfold P63 at hr
  obtain ⟨s, hs⟩ : ∃ s, fS b = s := ⟨_, rfl⟩
  have H := Lib.hid (below_any b s hb hs w)
  unfold fK at hk
  rw [hs] at hk
  clear hs
  obtain ⟨r, hr0⟩ : ∃ r, r = fR b := ⟨_, rfl⟩
  rw [← hr0] at e1 hr hk
  clear hr0
  cases s
  · rw [wv_false] at hk
    subst hk
    go_enter Tryd.func23, Tryd.ntmps23
    go_wp2_with (go_at_call 18; refine (H.out).mono ?_; rintro e w' ⟨rfl, rfl⟩)
    go_ret
    exact ⟨rfl, rfl⟩
  · rw [wv_true] at hk
    subst hk
    go_enter Tryd.func23, Tryd.ntmps23
    go_wp2_with (go_at_call 18; refine (H.out).mono ?_; rintro e w' ⟨rfl, rfl⟩)
    go_ret
    exact ⟨rfl, rfl⟩

theorem isNaN_l (x : Int) (w : World) : Calls Tryd.prog 33 #[.int .i64 x] w fun e w' => e = .returned (.bool false) ∧ w = w' := by
  go_enter Tryd.func33, Tryd.ntmps33
  go_wp2
  go_ret
  exact ⟨rfl, rfl⟩
set_option maxHeartbeats 400000 in
theorem compare_l (x y : Int) (w : World) : Calls Tryd.prog 22 #[.int .i64 x, .int .i64 y] w fun e w' => e = .returned (.int .i64 (x - y).sign) ∧ w = w' := by
  rcases Int.lt_trichotomy x y with h1 | h1 | h1
  · rw [Int.sign_eq_neg_one_of_neg (show x - y < 0 by omega)]
    go_enter Tryd.func22, Tryd.ntmps22
    go_wp2_with (go_at_call 33; refine (isNaN_l _ _).mono ?_; rintro e w' ⟨rfl, rfl⟩)
    go_ret
    exact ⟨rfl, rfl⟩
  · subst h1
    rw [Int.sub_self, Int.sign_zero]
    go_enter Tryd.func22, Tryd.ntmps22
    go_wp2_with (go_at_call 33; refine (isNaN_l _ _).mono ?_; rintro e w' ⟨rfl, rfl⟩)
    go_ret
    exact ⟨rfl, rfl⟩
  · rw [Int.sign_eq_one_of_pos (show 0 < x - y by omega)]
    go_enter Tryd.func22, Tryd.ntmps22
    go_wp2_with (go_at_call 33; refine (isNaN_l _ _).mono ?_; rintro e w' ⟨rfl, rfl⟩)
    go_ret
    exact ⟨rfl, rfl⟩

set_option maxHeartbeats 2000000 in
/-- Cmp of two that are finite. -/
theorem floatCmp_any (a b : Nat) (s : Int) (ha : a < 18446744073709551616) (hb : b < 18446744073709551616) (fa : fin a = true) (fb : fin b = true) (hs : (fK a - fK b).sign = s) (w : World) :
    Calls Tryd.prog 13 #[.int .u64 (a : Int), .int .u64 (b : Int)] w fun e w' => e = .returned (.tuple #[.int .i64 s, .nilIface]) ∧ Below w.heap.size w w' := by
  have HA := Lib.hid (fun w => finite_any a true ha fa w)
  have HB := Lib.hid (fun w => finite_any b true hb fb w)
  obtain ⟨k, hk⟩ : ∃ k, fK a = k := ⟨_, rfl⟩
  obtain ⟨l, hl⟩ : ∃ l, fK b = l := ⟨_, rfl⟩
  have HK := Lib.hid (fun w => rank_any a k ha hk w)
  have HL := Lib.hid (fun w => rank_any b l hb hl w)
  rw [hk, hl] at hs
  have HC := Lib.hid (fun w => compare_l k l w)
  rw [hs] at HC
  clear fa fb hs hk hl
  go_enter Tryd.func13, Tryd.ntmps13
  go_wp2_with (first
    | (go_at_call 8; with_reducible refine (HA.out _).mono ?_; rintro e w' ⟨rfl, rfl⟩)
    | (go_at_call 8; with_reducible refine (HB.out _).mono ?_; rintro e w' ⟨rfl, rfl⟩)
    | (go_at_call 23; with_reducible refine (HK.out _).mono ?_; rintro e w' ⟨rfl, rfl⟩)
    | (go_at_call 23; with_reducible refine (HL.out _).mono ?_; rintro e w' ⟨rfl, rfl⟩)
    | (go_at_call 22; with_reducible refine (HC.out _).mono ?_; rintro e w' ⟨rfl, rfl⟩))
  all_goals go_ret2
  all_goals exact ⟨rfl, Below.refl _ _⟩
set_option maxHeartbeats 2000000 in
/-- Cmp of two of which one is none. -/
theorem floatCmp_none (a b : Nat) (f g : Bool) (ha : a < 18446744073709551616) (hb : b < 18446744073709551616) (fa : fin a = f) (fb : fin b = g) (h : (f && g) = false) (w : World) :
    Calls Tryd.prog 13 #[.int .u64 (a : Int), .int .u64 (b : Int)] w fun e w' => e = .returned (.tuple #[.int .i64 0, .iface 43 (.int .i64 1)]) ∧ w = w' := by
  have HA := Lib.hid (fun w => finite_any a f ha fa w)
  have HB := Lib.hid (fun w => finite_any b g hb fb w)
  clear fa fb
  cases f
  · go_enter Tryd.func13, Tryd.ntmps13
    go_wp2_with (go_at_call 8; refine (HA.out _).mono ?_; rintro e w' ⟨rfl, rfl⟩)
    go_ret2
    exact ⟨rfl, rfl⟩
  · cases g
    · go_enter Tryd.func13, Tryd.ntmps13
      go_wp2_with (first
        | (go_at_call 8; refine (HA.out _).mono ?_; rintro e w' ⟨rfl, rfl⟩)
        | (go_at_call 8; refine (HB.out _).mono ?_; rintro e w' ⟨rfl, rfl⟩))
      go_ret2
      exact ⟨rfl, rfl⟩
    · cases h
end Go.Proofs.YtioajdabiejhmaaDoor
