/- Bits of floats as numbers, plain mathematics: fields, the number times 2^1074, the rank; greater ranks mean greater numbers. -/
import Derived.Test.YtknkakkdhihngaaInt
namespace Go.Proofs.Ytknkakkdhihngaa

def P52 : Nat := 4503599627370496
def P63 : Nat := 9223372036854775808
theorem P52_pow : P52 = 2 ^ 52 := by unfold P52; decide
theorem P63_pow : P63 = 2 ^ 63 := by unfold P63; decide
/-- The fields of bits. -/
def fE (b : Nat) : Nat := b / P52 % 2048
def fF (b : Nat) : Nat := b % P52
def fS (b : Nat) : Bool := decide (P63 ≤ b)
/-- The number without its power of two; how often it is doubled, from 2^-1074 on. -/
def fM (b : Nat) : Nat := if fE b = 0 then fF b else fF b + P52
def fX (b : Nat) : Nat := fE b - 1
/-- The number times 2^1074, without a sign and with it. -/
def fV (b : Nat) : Nat := fM b * 2 ^ fX b
def fZ (b : Nat) : Int := wv (fS b) (fV b)
/-- The bits below the sign, and with it. -/
def fR (b : Nat) : Nat := b % P63
def fK (b : Nat) : Int := wv (fS b) (fR b)

theorem fE_lt (b : Nat) : fE b < 2048 := Nat.mod_lt _ (by omega)
theorem fF_lt (b : Nat) : fF b < P52 := Nat.mod_lt _ (by unfold P52; omega)
theorem fR_is (b : Nat) : fR b = fE b * P52 + fF b := by unfold fR fE fF P63 P52; omega
theorem fX_lt (b : Nat) : fX b < 2047 := by have := fE_lt b; unfold fX; omega
theorem fM_lt (b : Nat) : fM b < 2 * P52 := by have := fF_lt b; unfold fM; split <;> omega
theorem fR_lt (b : Nat) : fR b < P63 := Nat.mod_lt _ (by unfold P63; omega)
theorem fV_mono {a b : Nat} (h : fR a < fR b) : fV a < fV b := by
  have ha := fR_is a
  have hb := fR_is b
  have fa := fF_lt a
  have fb := fF_lt b
  have ea := fE_lt a
  have hp : 0 < P52 := by unfold P52; omega
  unfold fV fM fX
  generalize fE a = E at *
  generalize fE b = E' at *
  generalize fF a = F at *
  generalize fF b = F' at *
  rcases Nat.lt_trichotomy E E' with hE | hE | hE
  · have h0 : ¬ E' = 0 := by omega
    rw [if_neg h0]
    have h1 : P52 * 2 ^ (E' - 1) ≤ (F' + P52) * 2 ^ (E' - 1) := Nat.mul_le_mul_right _ (by omega)
    refine Nat.lt_of_lt_of_le ?_ h1
    split
    · rename_i hz
      subst hz
      have : 1 ≤ 2 ^ (E' - 1) := Nat.one_le_two_pow
      have h2 : P52 * 1 ≤ P52 * 2 ^ (E' - 1) := Nat.mul_le_mul_left _ this
      simp only [Nat.zero_sub, Nat.pow_zero]
      omega
    · rename_i hz
      have h2 : (F + P52) * 2 ^ (E - 1) < (2 * P52) * 2 ^ (E - 1) := Nat.mul_lt_mul_of_pos_right (by omega) (Nat.pow_pos (by omega))
      have h3 : (2 * P52) * 2 ^ (E - 1) = P52 * 2 ^ E := by
        conv => rhs; rw [show E = E - 1 + 1 by omega, Nat.pow_succ]
        rw [Nat.mul_comm 2 P52, Nat.mul_assoc, Nat.mul_comm 2 (2 ^ (E - 1))]
      have h4 : P52 * 2 ^ E ≤ P52 * 2 ^ (E' - 1) := Nat.mul_le_mul_left _ (Nat.pow_le_pow_right (by omega) (by omega))
      omega
  · subst hE
    have hF : F < F' := by omega
    refine Nat.mul_lt_mul_of_pos_right ?_ (Nat.pow_pos (by omega))
    split <;> omega
  · exfalso
    have : (E' + 1) * P52 ≤ E * P52 := Nat.mul_le_mul_right _ (by omega)
    rw [Nat.add_mul] at this
    omega
theorem fV_same {a b : Nat} (h : fR a = fR b) : fV a = fV b := by
  have ha := fR_is a
  have hb := fR_is b
  have fa := fF_lt a
  have fb := fF_lt b
  have e1 : fE a = fE b := by
    have : fR a / P52 = fR b / P52 := by rw [h]
    rw [ha, hb, Nat.mul_comm, Nat.mul_add_div (by unfold P52; omega), Nat.mul_comm (fE b), Nat.mul_add_div (by unfold P52; omega), Nat.div_eq_of_lt fa, Nat.div_eq_of_lt fb] at this
    omega
  have e2 : fF a = fF b := by rw [e1] at ha; omega
  unfold fV fM fX
  rw [e1, e2]
theorem fV_zero {b : Nat} : fV b = 0 ↔ fR b = 0 := by
  constructor
  · intro h
    rcases Nat.lt_or_ge 0 (fR b) with h1 | h1
    · have h2 : fV 0 < fV b := fV_mono (by simpa [fR] using h1)
      omega
    · omega
  · intro h
    have : fV b = fV 0 := fV_same (by rw [h]; rfl)
    rw [this]; unfold fV fM fX fE fF; simp
theorem fV_zero_m {b : Nat} : fV b = 0 ↔ fM b = 0 := by
  unfold fV
  have : 0 < 2 ^ fX b := Nat.pow_pos (by omega)
  rw [Nat.mul_eq_zero]
  omega
/-- The ranks are in the numbers' order. -/
theorem fK_sign (a b : Nat) : (fK a - fK b).sign = (fZ a - fZ b).sign := by
  have h1 := @fV_mono a b
  have h2 := @fV_mono b a
  have h3 := @fV_same a b
  have h4 := @fV_zero a
  have h5 := @fV_zero b
  have h6 := sign_cases (fK a - fK b)
  have h7 := sign_cases (fZ a - fZ b)
  unfold fK fZ at *
  generalize fS a = n at *
  generalize fS b = n' at *
  cases n <;> cases n' <;> simp only [wv_true, wv_false] at * <;> omega
/-- A number as an odd one, and how often it is doubled. -/
theorem odd_part : ∀ n, 0 < n → ∃ t m, n = m * 2 ^ t ∧ m % 2 = 1 := by
  intro n
  induction n using Nat.strongRecOn with
  | ind n ih =>
    intro h
    by_cases h2 : n % 2 = 1
    · exact ⟨0, n, by simp, h2⟩
    · obtain ⟨t, m, h3, h4⟩ := ih (n / 2) (by omega) (by omega)
      refine ⟨t + 1, m, ?_, h4⟩
      rw [Nat.pow_succ, ← Nat.mul_assoc, ← h3]; omega
theorem odd_part_one {m t m' t' : Nat} (h : m * 2 ^ t = m' * 2 ^ t') (h1 : m % 2 = 1) (h2 : m' % 2 = 1) : m = m' ∧ t = t' := by
  induction t generalizing t' with
  | zero =>
    cases t' with
    | zero => simp at h; exact ⟨h, rfl⟩
    | succ k => rw [Nat.pow_succ, ← Nat.mul_assoc, Nat.pow_zero, Nat.mul_one] at h; omega
  | succ t ih =>
    cases t' with
    | zero => rw [Nat.pow_succ, ← Nat.mul_assoc, Nat.pow_zero, Nat.mul_one] at h; omega
    | succ k =>
      have h3 : m * 2 ^ t = m' * 2 ^ k := by
        rw [Nat.pow_succ, ← Nat.mul_assoc, Nat.pow_succ, ← Nat.mul_assoc] at h
        omega
      have := ih h3
      omega
theorem odd_small {n m t : Nat} (h : n = m * 2 ^ t) (hm : m % 2 = 1) (hn : n < 2 * P52) : m < 2 * P52 ∧ t < 53 := by
  have h1 : m * 1 ≤ m * 2 ^ t := Nat.mul_le_mul_left _ Nat.one_le_two_pow
  refine ⟨by omega, ?_⟩
  rcases Nat.lt_or_ge t 53 with h2 | h2
  · exact h2
  · have h3 : 2 ^ 53 ≤ 2 ^ t := Nat.pow_le_pow_right (by omega) h2
    have h4 : 1 * 2 ^ t ≤ m * 2 ^ t := Nat.mul_le_mul_right _ (by omega)
    unfold P52 at hn
    omega
end Go.Proofs.Ytknkakkdhihngaa
