/- Floats rounded to the nearest, plain mathematics: what a word reads as; how far the word nearest to a number lies from it. -/
import Derived.Test.YtknkakkdhihngaaFlt
import Derived.Laws.FloatArith
namespace Go.Proofs.Ytknkakkdhihngaa
open Ieee

/-- K is 2^1074: a variable, so that nothing ever writes it out. -/
def IsK (K : Nat) : Prop := ∃ e, K = 2 ^ e ∧ e = 1074
theorem isK_ex : ∃ K, IsK K := ⟨_, _, rfl, rfl⟩
theorem IsK.pos {K : Nat} (h : IsK K) : 0 < K := by obtain ⟨e, rfl, _⟩ := h; exact Nat.pow_pos (by omega)

/-- O is 2^2045, the greatest shift of a finite float. -/
def IsO (O : Nat) : Prop := ∃ e, O = 2 ^ e ∧ e = 2045
theorem isO_ex : ∃ O, IsO O := ⟨_, _, rfl, rfl⟩
theorem IsO.pos {O : Nat} (h : IsO O) : 0 < O := by obtain ⟨e, rfl, _⟩ := h; exact Nat.pow_pos (by omega)

/-- Bits that are no number; what bits are, up to which of those. -/
def nanB (b : Nat) : Bool := decide (fE b = 2047) && decide (fF b ≠ 0)
def Cls (b : Nat) : Option Nat := if nanB b then none else some b

theorem d_sign : double.signWeight = P63 := by unfold P63 double Format.signWeight; decide
theorem d_binade : double.binade = P52 := by unfold P52 double Format.binade; decide
theorem d_inf : double.infRung = 2047 * P52 := by unfold Format.infRung; rw [d_binade]; unfold double; simp only [Nat.reducePow, Nat.reduceSub]
theorem d_least : double.leastPlace = -1074 := by unfold double Format.leastPlace; decide
theorem fR_mod (b : Nat) : fR b = b % P63 := rfl

theorem sign_bit (b : Nat) (hb : b < 18446744073709551616) : (b / P63 % 2 == 1) = fS b := by
  unfold fS P63
  by_cases h : 9223372036854775808 ≤ b
  · rw [decide_eq_true h]; simp only [beq_iff_eq]; omega
  · rw [decide_eq_false h]; simp only [beq_eq_false_iff_ne]; omega

theorem read_fin (b : Nat) (hb : b < 18446744073709551616) (h : fE b < 2047) : double.read b = .number (fS b) (fM b) ((fX b : Int) - 1074) := by
  have hr := fR_is b
  have hf := fF_lt b
  rw [fR_mod] at hr
  unfold Format.read
  rw [d_sign, d_binade, d_inf, d_least, sign_bit b hb, hr]
  have hP : 0 < P52 := by unfold P52; omega
  unfold fM fX
  generalize fE b = E at *
  generalize fF b = F at *
  generalize fS b = S at *
  dsimp only
  by_cases h0 : E = 0
  · subst h0
    rw [if_pos (by omega), if_pos rfl]
    simp
  · have h1 : P52 ≤ E * P52 := Nat.le_mul_of_pos_left _ (by omega)
    have h2 : (E + 1) * P52 ≤ 2047 * P52 := Nat.mul_le_mul_right _ (by omega)
    rw [Nat.add_mul] at h2
    rw [if_neg (by omega), if_pos (by omega), if_neg h0]
    have e1 : (E * P52 + F) % P52 = F := by rw [Nat.mul_comm, Nat.mul_add_mod, Nat.mod_eq_of_lt hf]
    have e2 : (E * P52 + F) / P52 = E := by rw [Nat.mul_comm, Nat.mul_add_div hP, Nat.div_eq_of_lt hf]; omega
    rw [e1, e2, Nat.add_comm F, Int.add_comm]
    rfl

theorem read_inf (b : Nat) (hb : b < 18446744073709551616) (h : fE b = 2047) (h0 : fF b = 0) : double.read b = .infinity (fS b) := by
  have hr := fR_is b
  rw [fR_mod] at hr
  unfold Format.read
  rw [d_sign, d_binade, d_inf, d_least, sign_bit b hb, hr, h, h0]
  dsimp only
  unfold P52
  rw [if_neg (by omega), if_neg (by omega), if_pos (by omega)]

theorem read_nan (b : Nat) (hb : b < 18446744073709551616) (h : fE b = 2047) (h0 : fF b ≠ 0) : double.read b = .nan (fS b) (fF b) := by
  have hr := fR_is b
  rw [fR_mod] at hr
  unfold Format.read
  rw [d_sign, d_binade, d_inf, d_least, sign_bit b hb, hr, h]
  dsimp only
  unfold P52
  rw [if_neg (by omega), if_neg (by omega), if_neg (by omega), Nat.add_sub_cancel_left]

/-- Cut to the nearest: at most a half beside. -/
theorem cut_near (neg : Bool) (n drop : Nat) : 2 * (Toward.even.cut neg n drop * 2 ^ drop) ≤ 2 * n + 2 ^ drop ∧ 2 * n ≤ 2 * (Toward.even.cut neg n drop * 2 ^ drop) + 2 ^ drop := by
  have key : ∀ g, 0 < g → 2 * ((n / g + (decide (g < 2 * (n % g)) || (g == 2 * (n % g) && n / g % 2 == 1)).toNat) * g) ≤ 2 * n + g ∧ 2 * n ≤ 2 * ((n / g + (decide (g < 2 * (n % g)) || (g == 2 * (n % g) && n / g % 2 == 1)).toNat) * g) + g := by
    intro g hg
    have hm := Nat.div_add_mod n g
    have hl := Nat.mod_lt n hg
    rw [Nat.add_mul, Nat.mul_comm (n / g) g]
    generalize g * (n / g) = A at *
    generalize n % g = r at *
    by_cases h1 : g < 2 * r
    · rw [decide_eq_true h1]; simp only [Bool.true_or, Bool.toNat_true]; omega
    · rw [decide_eq_false h1]
      simp only [Bool.false_or]
      by_cases h2 : g = 2 * r
      · cases (g == 2 * r && n / g % 2 == 1) <;> simp only [Bool.toNat_true, Bool.toNat_false] <;> omega
      · have h3 : (g == 2 * r) = false := by simpa using h2
        rw [h3]; simp only [Bool.false_and, Bool.toNat_false]; omega
  unfold Toward.cut
  dsimp only
  rw [Nat.shiftLeft_eq, Nat.one_mul]
  by_cases hd : drop ≤ n.log2 + 2
  · rw [Nat.min_eq_left hd]
    exact key _ (Nat.pow_pos (by omega))
  · rw [Nat.min_eq_right (by omega)]
    have hn : n < 2 ^ (n.log2 + 1) := Nat.lt_log2_self
    have h2 : 2 ^ (n.log2 + 2) = 2 * 2 ^ (n.log2 + 1) := by rw [Nat.pow_succ 2 (n.log2 + 1)]; omega
    have h3 : 2 ^ (n.log2 + 2) ≤ 2 ^ drop := Nat.pow_le_pow_right (by omega) (by omega)
    rw [Nat.div_eq_of_lt (by omega), Nat.mod_eq_of_lt (by omega)]
    generalize 2 ^ (n.log2 + 2) = g at *
    generalize 2 ^ drop = D at *
    generalize 2 ^ (n.log2 + 1) = h at *
    rw [decide_eq_false (show ¬ g < 2 * n by omega), show (g == 2 * n) = false by simp; omega]
    simp only [Bool.false_or, Bool.false_and, Bool.toNat_false, Nat.add_zero, Nat.zero_mul]
    omega

/-- v, in units of 2^-1074, is the rounded number of X, in units of 2^-2148. -/
def Near (K X v : Nat) : Prop := ∃ q, 2 * (v * K) ≤ 2 * X + 2 ^ q * K ∧ 2 * X ≤ 2 * (v * K) + 2 ^ q * K ∧ (q = 0 ∨ 2 ^ q * P52 * K ≤ X)

theorem rung_val (q kept : Nat) (hk : kept ≤ 2 * P52) (hq : q = 0 ∨ P52 ≤ kept) (hr : q * P52 + kept < 2047 * P52) (b : Nat) (hb : fR b = q * P52 + kept) : fE b < 2047 ∧ fV b = kept * 2 ^ q := by
  have h1 := fR_is b
  have h2 := fF_lt b
  unfold fV fM fX
  generalize fE b = E at *
  generalize fF b = F at *
  rw [hb] at h1
  unfold P52 at *
  refine ⟨by omega, ?_⟩
  by_cases c1 : kept < 4503599627370496
  · have : q = 0 := by omega
    subst this
    rw [if_pos (by omega), show E = 0 by omega, show F = kept by omega]
  · rw [if_neg (by omega)]
    by_cases c2 : kept < 2 * 4503599627370496
    · rw [show E = q + 1 by omega, show F + 4503599627370496 = kept by omega, Nat.add_sub_cancel]
    · rw [show E = q + 2 by omega, show F + 4503599627370496 = 4503599627370496 by omega, show kept = 2 * 4503599627370496 by omega, show q + 2 - 1 = q + 1 by omega, Nat.pow_succ]
      omega

theorem word_fields (neg : Bool) (rung : Nat) (h : rung < P63) : fS (double.word neg rung) = neg ∧ fR (double.word neg rung) = rung := by
  unfold Format.word fS fR
  rw [d_sign]
  cases neg
  · simp only [Bool.false_eq_true, if_false]
    exact ⟨decide_eq_false (by omega), Nat.mod_eq_of_lt h⟩
  · simp only [if_true]
    exact ⟨decide_eq_true (by omega), by rw [Nat.add_mod_left, Nat.mod_eq_of_lt h]⟩

/-- The word nearest to mag times 2^(k - 2148): infinite, or as near as may be. -/
theorem nearest_is {K O : Nat} (hK : IsK K) (hO : IsO O) (neg : Bool) (mag k : Nat) (place : Int) (hp : place + 2148 = (k : Int)) :
    fS (double.nearest neg mag place) = neg ∧ ((fE (double.nearest neg mag place) = 2047 ∧ fF (double.nearest neg mag place) = 0 ∧ P52 * O * K ≤ mag * 2 ^ k) ∨ (fE (double.nearest neg mag place) < 2047 ∧ Near K (mag * 2 ^ k) (fV (double.nearest neg mag place)))) := by
  have hP : P52 = 4503599627370496 := rfl
  have hP6 : P63 = 9223372036854775808 := rfl
  obtain ⟨e, hKe, e0⟩ := hK
  unfold Format.nearest
  by_cases h0 : mag = 0
  · rw [if_pos h0]
    obtain ⟨a, b⟩ := word_fields neg 0 (by omega)
    obtain ⟨c, d⟩ := rung_val 0 0 (by omega) (Or.inl rfl) (by omega) _ (by rw [b, Nat.zero_mul])
    refine ⟨a, Or.inr ⟨c, 0, ?_⟩⟩
    rw [d, h0]; simp
  · rw [if_neg h0]
    dsimp only
    rw [d_inf, d_binade, d_least]
    have hf : double.fractionBits = 52 := rfl
    rw [hf, show ((52 : Nat) : Int) = 52 from rfl]
    obtain ⟨q, hq⟩ : ∃ q : Nat, q = (max (place + (mag.log2 : Int) - 52) (-1074) - -1074).toNat := ⟨_, rfl⟩
    have hl : max (place + (mag.log2 : Int) - 52) (-1074) = (q : Int) - 1074 := by omega
    rw [← hq, hl]
    obtain ⟨n, hn⟩ : ∃ n : Nat, n = mag <<< (place - ((q : Int) - 1074)).toNat := ⟨_, rfl⟩
    obtain ⟨drop, hdrop⟩ : ∃ d : Nat, d = (((q : Int) - 1074) - place).toNat := ⟨_, rfl⟩
    rw [← hn, ← hdrop]
    have hc := cut_near neg n drop
    obtain ⟨kept, hkept⟩ : ∃ t, t = Toward.even.cut neg n drop := ⟨_, rfl⟩
    rw [← hkept] at hc ⊢
    clear hkept
    -- X, in units of 2^-2148
    obtain ⟨X, hX⟩ : ∃ X, X = mag * 2 ^ k := ⟨_, rfl⟩
    have hG : 2 ^ q * K = 2 ^ (q + e) := by rw [hKe, ← Nat.pow_add]
    obtain ⟨G, hGd⟩ : ∃ G, G = 2 ^ q * K := ⟨_, rfl⟩
    have hnear : 2 * (kept * G) ≤ 2 * X + G ∧ 2 * X ≤ 2 * (kept * G) + G := by
      have hn' : n = mag * 2 ^ (place - ((q : Int) - 1074)).toNat := by rw [hn, Nat.shiftLeft_eq]
      by_cases hcase : (q : Int) - 1074 ≤ place
      · have d0 : drop = 0 := by omega
        subst d0
        have hk : kept = n := by simp at hc; omega
        have : X = kept * G := by
          rw [hX, hk, hn', hGd, hG, Nat.mul_assoc, ← Nat.pow_add]
          have e1 : k = (place - ((q : Int) - 1074)).toNat + (q + e) := by clear hX hn' hn hGd hG hKe; omega
          rw [← e1]
        omega
      · have hnm : n = mag := by rw [hn', show (place - ((q : Int) - 1074)).toNat = 0 by omega]; simp
        have hGk : G = 2 ^ drop * 2 ^ k := by rw [hGd, hG, ← Nat.pow_add, show q + e = drop + k by (clear hX hn' hn hGd hG hKe; omega)]
        rw [hX, ← hnm, hGk, ← Nat.mul_assoc, ← Nat.mul_assoc, ← Nat.mul_assoc]
        have a := Nat.mul_le_mul_right (2 ^ k) hc.1
        have b := Nat.mul_le_mul_right (2 ^ k) hc.2
        rw [Nat.add_mul] at a b
        rw [Nat.mul_assoc 2 kept]
        exact ⟨a, b⟩
    have hlo : 2 ^ mag.log2 ≤ mag := Nat.log2_self_le h0
    have hhi : mag < 2 ^ (mag.log2 + 1) := Nat.lt_log2_self
    have hGpos : 0 < G := by rw [hGd, hG]; exact Nat.pow_pos (by omega)
    have hXhi : X < 2 * P52 * G := by
      have a : X < 2 ^ (mag.log2 + 1) * 2 ^ k := by rw [hX]; exact Nat.mul_lt_mul_of_pos_right hhi (Nat.pow_pos (by omega))
      have b : 2 ^ (mag.log2 + 1) * 2 ^ k ≤ 2 ^ 53 * G := by
        rw [hGd, hG, ← Nat.pow_add, ← Nat.pow_add]
        exact Nat.pow_le_pow_right (by omega) (by omega)
      have c : (2 : Nat) ^ 53 = 2 * P52 := by rw [hP]
      rw [c] at b
      omega
    have hk1 : kept ≤ 2 * P52 := by
      rcases Nat.lt_or_ge (2 * P52) kept with h | h
      · exfalso
        have : (2 * P52 + 1) * G ≤ kept * G := Nat.mul_le_mul_right _ h
        rw [Nat.add_mul] at this
        omega
      · exact h
    have hXlo : q = 0 ∨ P52 * G ≤ X := by
      by_cases hq0 : q = 0
      · exact Or.inl hq0
      · right
        have a : 2 ^ mag.log2 * 2 ^ k ≤ X := by rw [hX]; exact Nat.mul_le_mul_right _ hlo
        have b : 2 ^ 52 * G ≤ 2 ^ mag.log2 * 2 ^ k := by
          rw [hGd, hG, ← Nat.pow_add, ← Nat.pow_add]
          exact Nat.pow_le_pow_right (by omega) (by omega)
        have c : (2 : Nat) ^ 52 = P52 := by rw [hP]
        rw [c] at b
        omega
    have hk2 : q = 0 ∨ P52 ≤ kept := by
      rcases hXlo with h | h
      · exact Or.inl h
      · right
        rcases Nat.lt_or_ge kept P52 with h2 | h2
        · exfalso
          have : (kept + 1) * G ≤ P52 * G := Nat.mul_le_mul_right _ h2
          rw [Nat.add_mul] at this
          omega
        · exact h2
    by_cases hfin : q * P52 + kept < 2047 * P52
    · rw [Nat.min_eq_left (by omega)]
      obtain ⟨a, b⟩ := word_fields neg (q * P52 + kept) (by omega)
      obtain ⟨c, d⟩ := rung_val q kept hk1 hk2 hfin _ b
      refine ⟨a, Or.inr ⟨c, q, ?_⟩⟩
      rw [d, Nat.mul_assoc, ← hGd, ← hX]
      refine ⟨hnear.1, hnear.2, ?_⟩
      rw [Nat.mul_right_comm, ← hGd, Nat.mul_comm]
      exact hXlo
    · rw [Nat.min_eq_right (by omega)]
      obtain ⟨a, b⟩ := word_fields neg (2047 * P52) (by omega)
      have hov : P52 * O * K ≤ X := by
        have hq : 2045 ≤ q := by
          have : q * P52 + 2 * P52 = (q + 2) * P52 := by rw [Nat.add_mul]
          have h2 : 2047 * P52 ≤ (q + 2) * P52 := by omega
          have := Nat.le_of_mul_le_mul_right h2 (by omega)
          omega
        obtain ⟨o, hO, ho⟩ := hO
        have h3 : O ≤ 2 ^ q := by rw [hO]; exact Nat.pow_le_pow_right (by omega) (by omega)
        have h4 : P52 * (O * K) ≤ P52 * (2 ^ q * K) := Nat.mul_le_mul_left _ (Nat.mul_le_mul_right _ h3)
        rw [← hGd] at h4
        rw [Nat.mul_assoc]
        omega
      rw [← and_assoc]
      refine ⟨a, Or.inl ⟨?_, by rw [← hX]; exact hov⟩⟩
      clear hov hO
      have h1 := fR_is (double.word neg (2047 * P52))
      have h2 := fF_lt (double.word neg (2047 * P52))
      have h3 := fE_lt (double.word neg (2047 * P52))
      rw [b] at h1
      clear hX hGd hG hnear hXhi hXlo hKe
      unfold P52 at *
      omega
end Go.Proofs.Ytknkakkdhihngaa
