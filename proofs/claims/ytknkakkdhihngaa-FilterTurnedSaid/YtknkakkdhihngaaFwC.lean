/- The turn by floats and the square by floats, plain mathematics: where they are sure, the turn is the exact one, and the square at most one part in 2^50 beside. -/
import Derived.Test.YtknkakkdhihngaaFwB
namespace Go.Proofs.Ytknkakkdhihngaa
open Ieee

theorem abs_prod_near {A A' B B' : Int} (ha : Rel A A') (hb : Rel B B') : 9007199254740991 * (A * B - A' * B').natAbs ≤ 3 * (A' * B').natAbs := by
  unfold Rel at ha hb
  have e : A * B - A' * B' = (A' - A) * (B' - B) - (A' - A) * B' - A' * (B' - B) := by
    simp only [Int.sub_mul, Int.mul_sub]; omega
  have m1 : ((A' - A) * (B' - B)).natAbs = (A' - A).natAbs * (B' - B).natAbs := Int.natAbs_mul _ _
  have m2 : ((A' - A) * B').natAbs = (A' - A).natAbs * B'.natAbs := Int.natAbs_mul _ _
  have m3 : (A' * (B' - B)).natAbs = A'.natAbs * (B' - B).natAbs := Int.natAbs_mul _ _
  have m4 : (A' * B').natAbs = A'.natAbs * B'.natAbs := Int.natAbs_mul _ _
  rw [m4]
  have t : (A * B - A' * B').natAbs ≤ (A' - A).natAbs * (B' - B).natAbs + (A' - A).natAbs * B'.natAbs + A'.natAbs * (B' - B).natAbs := by
    rw [e, ← m1, ← m2, ← m3]; omega
  have da : 9007199254740991 * (A' - A).natAbs ≤ A'.natAbs := by unfold P52 at ha; omega
  have db : 9007199254740991 * (B' - B).natAbs ≤ B'.natAbs := by unfold P52 at hb; omega
  clear e m1 m2 m3 m4 ha hb
  generalize (A * B - A' * B').natAbs = T at *
  generalize (A' - A).natAbs = x at *
  generalize (B' - B).natAbs = y at *
  generalize A'.natAbs = a at *
  generalize B'.natAbs = b at *
  have p1 : 9007199254740991 * (x * b) ≤ a * b := by rw [← Nat.mul_assoc]; exact Nat.mul_le_mul_right _ da
  have p2 : 9007199254740991 * (a * y) ≤ a * b := by rw [Nat.mul_left_comm]; exact Nat.mul_le_mul_left _ db
  have p3 : x * y ≤ x * b := Nat.mul_le_mul_left _ (by omega)
  omega

/-- A product of two rounded numbers, rounded: beside the product of both by little. -/
theorem prod_near {K : Nat} {A A' B B' l : Int} (ha : Rel A A') (hb : Rel B B') (hp : RelP K (A' * B') l) : 9007199254740991 * (l * K - A * B).natAbs ≤ 5 * (l.natAbs * K) + 9007199254740991 * K := by
  have h := abs_prod_near ha hb
  have hl : (l * (K : Int)).natAbs = l.natAbs * K := by rw [Int.natAbs_mul, Int.natAbs_natCast]
  rw [← hl]
  unfold RelP P52 at hp
  generalize l * (K : Int) = U at *
  generalize A * B = X at *
  generalize A' * B' = X' at *
  omega

/-- Sure: the turn. -/
theorem turn_core {K C : Nat} {L R l r d s t : Int} (hK : 0 < K) (hC : K = C * 1125899906842624) (hl : 9007199254740991 * (l * K - L).natAbs ≤ 5 * (l.natAbs * K) + 9007199254740991 * K) (hr : 9007199254740991 * (r * K - R).natAbs ≤ 5 * (r.natAbs * K) + 9007199254740991 * K)
    (hd : Rel (l - r) d) (hs : Rel ((l.natAbs : Int) + r.natAbs) s) (ht : RelP K (s * (C : Int)) t) (h1 : t ≤ d.natAbs) (h2 : (23945242826029513411849172299223580994042798784118784 : Int) ≤ s) : d.sign = (L - R).sign ∧ d ≠ 0 := by
  have hCp : 0 < C := by omega
  -- t, by itself
  have ht2 : 2 * ((t * 1125899906842624 - s).natAbs * 9007199254740992) ≤ 2 * s.natAbs + 1125899906842624 * 9007199254740992 := by
    unfold RelP P52 at ht
    have e1 : t * (K : Int) - s * (C : Int) = (t * 1125899906842624 - s) * (C : Int) := by rw [hC, Int.sub_mul, Int.natCast_mul, Int.mul_comm (C : Int), ← Int.mul_assoc]; rfl
    rw [e1, Int.natAbs_mul, Int.natAbs_mul, Int.natAbs_natCast, hC] at ht
    have : (2 * ((t * 1125899906842624 - s).natAbs * 9007199254740992)) * C ≤ (2 * s.natAbs + 1125899906842624 * 9007199254740992) * C := by
      rw [Nat.add_mul]
      generalize (t * 1125899906842624 - s).natAbs = x at *
      generalize s.natAbs = y at *
      have e2 : 2 * (x * 9007199254740992) * C = 2 * (x * C * (2 * 4503599627370496)) := by rw [Nat.mul_right_comm x C, Nat.mul_assoc 2]
      have e3 : 2 * y * C = 2 * (y * C) := Nat.mul_assoc _ _ _
      have e4 : 1125899906842624 * 9007199254740992 * C = C * 1125899906842624 * (2 * 4503599627370496) := by rw [Nat.mul_comm _ C, Nat.mul_assoc]
      rw [e2, e3, e4]
      exact ht
    exact Nat.le_of_mul_le_mul_right this hCp
  clear ht hC
  unfold Rel P52 at hd hs
  have hD : 5 * (l.natAbs + r.natAbs) + 2 * 9007199254740991 < (l - r).natAbs * 9007199254740991 := by omega
  have hdK : 5 * (l.natAbs * K + r.natAbs * K) + 2 * 9007199254740991 * K < (l - r).natAbs * K * 9007199254740991 := by
    have := Nat.mul_lt_mul_of_pos_right hD hK
    rw [Nat.add_mul, Nat.mul_assoc 5, Nat.add_mul, Nat.mul_right_comm (l - r).natAbs] at this
    exact this
  have hlr : ((l - r) * (K : Int)).natAbs = (l - r).natAbs * K := by rw [Int.natAbs_mul, Int.natAbs_natCast]
  have hX : (l - r) * (K : Int) = l * K - r * K := Int.sub_mul _ _ _
  have hsg : ((l - r) * (K : Int)).sign = (l - r).sign := by
    rw [Int.sign_mul, Int.sign_eq_one_of_pos (by omega : (0 : Int) < K), Int.mul_one]
  rw [← hlr] at hdK
  rw [hX] at hdK hsg hlr
  have s1 : (l * (K : Int) - r * K).sign = (L - R).sign := by
    generalize l * (K : Int) = U at *
    generalize r * (K : Int) = V at *
    generalize l.natAbs * K = u at *
    generalize r.natAbs * K = v at *
    have c1 := sign_cases (U - V)
    have c2 := sign_cases (L - R)
    clear hsg hlr hX hD hd hs ht2
    omega
  have c3 := sign_cases d
  have c4 := sign_cases (l - r)
  rw [← s1, hsg]
  clear hX hdK hlr s1 hsg hl hr
  omega

/-- Sure: the square. -/
theorem far_core {K : Nat} {L R l r d : Int} (hK : 0 < K) (hl : 9007199254740991 * (l * K - L).natAbs ≤ 5 * (l.natAbs * K) + 9007199254740991 * K) (hr : 9007199254740991 * (r * K - R).natAbs ≤ 5 * (r.natAbs * K) + 9007199254740991 * K)
    (l0 : 0 ≤ l) (r0 : 0 ≤ r) (hd : Rel (l + r) d) (h2 : (23945242826029513411849172299223580994042798784118784 : Int) ≤ d) : (d * (K : Int) - (L + R)).natAbs * 1125899906842624 ≤ (L + R).natAbs ∧ 0 < L + R := by
  unfold Rel P52 at hd
  have q1 : (d - (l + r)).natAbs * K * 9007199254740992 ≤ (l + r).natAbs * K := by
    rw [Nat.mul_right_comm]
    exact Nat.mul_le_mul_right _ hd
  have q2 : 1000000000000000000000000000000000 * K ≤ (l + r).natAbs * K := Nat.mul_le_mul_right _ (by omega)
  have e1 : (d - (l + r)).natAbs * K = (d * (K : Int) - (l * K + r * K)).natAbs := by
    rw [← Int.add_mul, ← Int.sub_mul, Int.natAbs_mul, Int.natAbs_natCast]
  have e2 : (l + r).natAbs * K = (l * (K : Int) + r * K).natAbs := by rw [← Int.add_mul, Int.natAbs_mul, Int.natAbs_natCast]
  have e3 : l.natAbs * K = (l * (K : Int)).natAbs := by rw [Int.natAbs_mul, Int.natAbs_natCast]
  have e4 : r.natAbs * K = (r * (K : Int)).natAbs := by rw [Int.natAbs_mul, Int.natAbs_natCast]
  have p1 : 0 ≤ l * (K : Int) := Int.mul_nonneg l0 (by omega)
  have p2 : 0 ≤ r * (K : Int) := Int.mul_nonneg r0 (by omega)
  rw [e1, e2] at q1
  rw [e2] at q2
  rw [e3] at hl
  rw [e4] at hr
  clear e1 e2 e3 e4 hd h2
  generalize l * (K : Int) = U at *
  generalize r * (K : Int) = V at *
  generalize d * (K : Int) = W at *
  omega
theorem square_pos {K : Nat} {x l : Int} (hK : 0 < K) (h : RelP K (x * x) l) : 0 ≤ l := by
  rcases Int.lt_or_le l 0 with h0 | h0
  · exfalso
    have h1 : l * (K : Int) ≤ -1 * (K : Int) := Int.mul_le_mul_of_nonneg_right (by omega) (by omega)
    have h2 : 0 ≤ x * x := by
      have : x * x = ((x.natAbs * x.natAbs : Nat) : Int) := by rw [Int.natAbs_mul_self]
      omega
    unfold RelP P52 at h
    generalize l * (K : Int) = U at *
    generalize x * x = X at *
    omega
  · exact h0
end Go.Proofs.Ytknkakkdhihngaa
