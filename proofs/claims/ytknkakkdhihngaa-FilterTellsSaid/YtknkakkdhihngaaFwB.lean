/- Sums, differences, products of floats and their order, plain mathematics. -/
import Derived.Test.YtknkakkdhihngaaFwA
namespace Go.Proofs.Ytknkakkdhihngaa
open Ieee

theorem fZ_abs (b : Nat) : (fZ b).natAbs = fV b := wv_abs _ _
/-- A finite float, the sum of numbers A in units of 2^-1074: at most one part in 2^53 beside. -/
def Rel (A A' : Int) : Prop := (A' - A).natAbs * (2 * P52) ≤ A.natAbs
/-- A finite float A', the product X in units of 2^-2148. -/
def RelP (K : Nat) (X A' : Int) : Prop := 2 * ((A' * (K : Int) - X).natAbs * (2 * P52)) ≤ 2 * X.natAbs + K * (2 * P52)
def Infin (r : Nat) : Prop := fE r = 2047 ∧ fF r = 0

theorem wv_dist (g : Bool) (x y : Nat) : (wv g x - wv g y).natAbs = ((x : Int) - y).natAbs := by
  cases g <;> simp only [wv_true, wv_false] <;> omega
theorem near_sum {K Y v : Nat} (hK0 : IsK K) (h : Near K (Y * K) v) (g : Bool) : Rel (wv g Y) (wv g v) := by
  unfold Rel
  rw [wv_dist, wv_abs]
  obtain ⟨q, h1, h2, h3⟩ := h
  have hK := hK0.pos
  have c1 : 2 * v ≤ 2 * Y + 2 ^ q := by
    have : (2 * v) * K ≤ (2 * Y + 2 ^ q) * K := by rw [Nat.add_mul, Nat.mul_assoc, Nat.mul_assoc]; exact h1
    exact Nat.le_of_mul_le_mul_right this hK
  have c2 : 2 * Y ≤ 2 * v + 2 ^ q := by
    have : (2 * Y) * K ≤ (2 * v + 2 ^ q) * K := by rw [Nat.add_mul, Nat.mul_assoc, Nat.mul_assoc]; exact h2
    exact Nat.le_of_mul_le_mul_right this hK
  rcases h3 with h3 | h3
  · subst h3
    have : v = Y := by simp at c1 c2; omega
    subst this
    simp
  · have c3 : 2 ^ q * P52 ≤ Y := Nat.le_of_mul_le_mul_right h3 hK
    obtain ⟨G, hG⟩ : ∃ G, G = 2 ^ q := ⟨_, rfl⟩
    rw [← hG] at c1 c2 c3
    clear h1 h2 h3 hG
    have e1 : ((v : Int) - Y).natAbs * 2 ≤ G := by omega
    have e2 : ((v : Int) - Y).natAbs * 2 * P52 ≤ G * P52 := Nat.mul_le_mul_right _ e1
    rw [← Nat.mul_assoc]
    exact Nat.le_trans e2 c3
theorem near_prod {K X v : Nat} (h : Near K X v) (g : Bool) : RelP K (wv g X) (wv g v) := by
  have e : wv g v * (K : Int) = wv g (v * K) := by cases g <;> simp [wv, Int.neg_mul]
  unfold RelP
  rw [e, wv_dist, wv_abs]
  obtain ⟨q, h1, h2, h3⟩ := h
  rcases h3 with h3 | h3
  · subst h3
    unfold P52 at *
    simp only [Nat.pow_zero, Nat.one_mul] at h1 h2
    generalize v * K = V at *
    omega
  · rw [Nat.mul_right_comm] at h3
    unfold P52 at *
    generalize v * K = V at *
    generalize 2 ^ q * K = G at *
    omega

theorem signed_is (s : Bool) (m u : Nat) : signed s m u = wv s (m * 2 ^ u) := by
  unfold signed wv
  rw [Nat.shiftLeft_eq]

theorem sum_num (s t : Bool) (m n x y : Nat) :
    ∃ (g : Bool) (mag k : Nat), Datum.sum (.number s m ((x : Int) - 1074)) (.number t n ((y : Int) - 1074)) = some (.number g mag (((k : Nat) : Int) - 1074)) ∧ wv g (mag * 2 ^ k) = wv s (m * 2 ^ x) + wv t (n * 2 ^ y) := by
  obtain ⟨k, hk⟩ : ∃ k, k = min x y := ⟨_, rfl⟩
  have hb : min ((x : Int) - 1074) ((y : Int) - 1074) = (k : Int) - 1074 := by omega
  simp only [Datum.sum, hb]
  rw [show ((x : Int) - 1074 - ((k : Int) - 1074)).toNat = x - k by omega, show ((y : Int) - 1074 - ((k : Int) - 1074)).toNat = y - k by omega, signed_is, signed_is]
  refine ⟨_, _, k, rfl, ?_⟩
  have hx : wv s (m * 2 ^ x) = wv s (m * 2 ^ (x - k)) * 2 ^ k := by rw [← wv_times, Nat.mul_assoc, ← Nat.pow_add, show x - k + k = x by omega]
  have hy : wv t (n * 2 ^ y) = wv t (n * 2 ^ (y - k)) * 2 ^ k := by rw [← wv_times, Nat.mul_assoc, ← Nat.pow_add, show y - k + k = y by omega]
  rw [hx, hy, ← Int.add_mul, wv_times]
  generalize wv s (m * 2 ^ (x - k)) + wv t (n * 2 ^ (y - k)) = T
  congr 1
  by_cases h0 : T = 0
  · subst h0; simp [wv_zero]
  · rw [if_neg h0]; exact wv_self T

/-- A sum that is infinite as a float: a great one, of its sign. -/
def Over (O : Nat) (z : Int) (r : Nat) : Prop := P52 * O ≤ z.natAbs ∧ fS r = decide (z < 0)
theorem write_sum {O : Nat} (hO : IsO O) (g : Bool) (mag k : Nat) : ((Infin (double.write (.number g mag ((k : Int) - 1074))) ∧ Over O (wv g (mag * 2 ^ k)) (double.write (.number g mag ((k : Int) - 1074)))) ∨ (fE (double.write (.number g mag ((k : Int) - 1074))) < 2047 ∧ Rel (wv g (mag * 2 ^ k)) (fZ (double.write (.number g mag ((k : Int) - 1074)))))) := by
  obtain ⟨K, hK⟩ := isK_ex
  obtain ⟨e, he, e0⟩ := id hK
  obtain ⟨h1, h2⟩ := nearest_is hK hO g mag (k + e) ((k : Int) - 1074) (by clear he; omega)
  show (Infin (double.nearest g mag ((k : Int) - 1074)) ∧ Over O (wv g (mag * 2 ^ k)) (double.nearest g mag ((k : Int) - 1074))) ∨ (fE (double.nearest g mag ((k : Int) - 1074)) < 2047 ∧ Rel (wv g (mag * 2 ^ k)) (fZ (double.nearest g mag ((k : Int) - 1074))))
  rw [Nat.pow_add, ← Nat.mul_assoc, ← he] at h2
  rcases h2 with ⟨h2, h3, h4⟩ | ⟨h2, h3⟩
  · have h5 : P52 * O ≤ mag * 2 ^ k := Nat.le_of_mul_le_mul_right h4 hK.pos
    refine Or.inl ⟨⟨h2, h3⟩, ?_, ?_⟩
    · rw [wv_abs]; exact h5
    · have h6 : 0 < P52 * O := Nat.mul_pos (by unfold P52; omega) hO.pos
      rw [wv_neg, h1, decide_eq_true (by omega), Bool.and_true]
  · refine Or.inr ⟨h2, ?_⟩
    unfold fZ
    rw [h1]
    exact near_sum hK h3 g

theorem fZ_read (b : Nat) : fZ b = wv (fS b) (fM b * 2 ^ fX b) := rfl
def FinB (b : Nat) : Prop := b < 18446744073709551616 ∧ fE b < 2047

theorem add_fin {O a b : Nat} (hO : IsO O) (ha : FinB a) (hb : FinB b) : ∃ r, double.add a b = some r ∧ ((Infin r ∧ Over O (fZ a + fZ b) r) ∨ (fE r < 2047 ∧ Rel (fZ a + fZ b) (fZ r))) := by
  obtain ⟨g, mag, k, h1, h2⟩ := sum_num (fS a) (fS b) (fM a) (fM b) (fX a) (fX b)
  unfold Format.add
  rw [read_fin a ha.1 ha.2, read_fin b hb.1 hb.2, h1]
  refine ⟨_, rfl, ?_⟩
  rw [fZ_read a, fZ_read b, ← h2]
  exact write_sum hO g mag k
theorem sub_fin {O a b : Nat} (hO : IsO O) (ha : FinB a) (hb : FinB b) : ∃ r, double.sub a b = some r ∧ ((Infin r ∧ Over O (fZ a - fZ b) r) ∨ (fE r < 2047 ∧ Rel (fZ a - fZ b) (fZ r))) := by
  obtain ⟨g, mag, k, h1, h2⟩ := sum_num (fS a) (!fS b) (fM a) (fM b) (fX a) (fX b)
  unfold Format.sub
  rw [read_fin a ha.1 ha.2, read_fin b hb.1 hb.2]
  simp only [Datum.opposite]
  rw [h1]
  refine ⟨_, rfl, ?_⟩
  rw [fZ_read a, fZ_read b, show wv (fS a) (fM a * 2 ^ fX a) - wv (fS b) (fM b * 2 ^ fX b) = wv g (mag * 2 ^ k) by rw [h2, wv_not]; omega]
  exact write_sum hO g mag k
theorem mul_fin {K O a b : Nat} (hK : IsK K) (hO : IsO O) (ha : FinB a) (hb : FinB b) : ∃ r, double.mul a b = some r ∧ ((Infin r ∧ P52 * O * K ≤ (fZ a * fZ b).natAbs) ∨ (fE r < 2047 ∧ RelP K (fZ a * fZ b) (fZ r))) := by
  unfold Format.mul
  rw [read_fin a ha.1 ha.2, read_fin b hb.1 hb.2]
  simp only [Datum.product]
  refine ⟨_, rfl, ?_⟩
  obtain ⟨h1, h2⟩ := nearest_is hK hO (fS a ^^ fS b) (fM a * fM b) (fX a + fX b) ((fX a : Int) - 1074 + ((fX b : Int) - 1074)) (by omega)
  have e : fZ a * fZ b = wv (fS a ^^ fS b) (fM a * fM b * 2 ^ (fX a + fX b)) := by
    unfold fZ
    rw [← wv_mul]
    unfold fV
    rw [Nat.pow_add]
    congr 1
    simp only [Nat.mul_assoc, Nat.mul_left_comm]
  rw [e]
  rcases h2 with ⟨h2, h3, h4⟩ | ⟨h2, h3⟩
  · exact Or.inl ⟨⟨h2, h3⟩, by rw [wv_abs]; exact h4⟩
  · refine Or.inr ⟨h2, ?_⟩
    show RelP _ _ (fZ (double.nearest _ _ _))
    unfold fZ
    rw [h1]
    exact near_prod h3 _

theorem word_inf (g : Bool) : Infin (double.word g double.infRung) := by
  obtain ⟨a, b⟩ := word_fields g (2047 * P52) (by unfold P52 P63; omega)
  rw [d_inf]
  have h1 := fR_is (double.word g (2047 * P52))
  have h2 := fF_lt (double.word g (2047 * P52))
  have h3 := fE_lt (double.word g (2047 * P52))
  rw [b] at h1
  unfold Infin
  unfold P52 at *
  omega

/-- What is no finite float reads as no number. -/
def notNum : Datum → Bool
  | .number .. => false
  | _ => true
theorem read_not {b : Nat} (hb : b < 18446744073709551616) (h : ¬ fE b < 2047) : notNum (double.read b) = true := by
  have := fE_lt b
  by_cases h0 : fF b = 0
  · rw [read_inf b hb (by omega) h0]; rfl
  · rw [read_nan b hb (by omega) h0]; rfl
theorem read_isNan {b : Nat} (hb : b < 18446744073709551616) (h : nanB b = true) : ∃ s t, double.read b = .nan s t := by
  unfold nanB at h
  simp only [Bool.and_eq_true, decide_eq_true_eq] at h
  exact ⟨_, _, read_nan b hb h.1 h.2⟩
theorem sum_not {x y : Datum} (h : notNum x = true ∨ notNum y = true) : Datum.sum x y = none ∨ ∃ g, Datum.sum x y = some (.infinity g) := by
  cases x <;> cases y <;> simp [notNum] at h <;> simp [Datum.sum]
  rename_i s t
  cases s <;> cases t <;> simp
theorem prod_not {x y : Datum} (h : notNum x = true ∨ notNum y = true) : Datum.product x y = none ∨ ∃ g, Datum.product x y = some (.infinity g) := by
  cases x <;> cases y <;> simp [notNum] at h <;> simp [Datum.product]
  all_goals (rename_i m _ _; exact Decidable.em _)
theorem opp_not (x : Datum) : notNum x.opposite = notNum x := by cases x <;> rfl
theorem map_inf {o : Option Datum} (h : o = none ∨ ∃ g, o = some (.infinity g)) : o.map double.write = none ∨ ∃ r, o.map double.write = some r ∧ Infin r := by
  rcases h with rfl | ⟨g, rfl⟩
  · exact Or.inl rfl
  · exact Or.inr ⟨_, rfl, word_inf g⟩
theorem add_not {a b : Nat} (h : notNum (double.read a) = true ∨ notNum (double.read b) = true) : double.add a b = none ∨ ∃ r, double.add a b = some r ∧ Infin r := map_inf (sum_not h)
theorem sub_not {a b : Nat} (h : notNum (double.read a) = true ∨ notNum (double.read b) = true) : double.sub a b = none ∨ ∃ r, double.sub a b = some r ∧ Infin r := map_inf (sum_not (by rw [opp_not]; exact h))
theorem mul_not {a b : Nat} (h : notNum (double.read a) = true ∨ notNum (double.read b) = true) : double.mul a b = none ∨ ∃ r, double.mul a b = some r ∧ Infin r := map_inf (prod_not h)

/-- Of bits that are no number: nothing. -/
theorem add_nan {a b : Nat} (ha : a < 18446744073709551616) (hb : b < 18446744073709551616) (h : nanB a = true ∨ nanB b = true) : double.add a b = none := by
  unfold Format.add
  rcases h with h | h
  · obtain ⟨s, t, e⟩ := read_isNan ha h; rw [e]; rfl
  · obtain ⟨s, t, e⟩ := read_isNan hb h; rw [e]; cases double.read a <;> rfl
theorem sub_nan {a b : Nat} (ha : a < 18446744073709551616) (hb : b < 18446744073709551616) (h : nanB a = true ∨ nanB b = true) : double.sub a b = none := by
  unfold Format.sub
  rcases h with h | h
  · obtain ⟨s, t, e⟩ := read_isNan ha h; rw [e]; rfl
  · obtain ⟨s, t, e⟩ := read_isNan hb h; rw [e]; cases double.read a <;> rfl
theorem mul_nan {a b : Nat} (ha : a < 18446744073709551616) (hb : b < 18446744073709551616) (h : nanB a = true ∨ nanB b = true) : double.mul a b = none := by
  unfold Format.mul
  rcases h with h | h
  · obtain ⟨s, t, e⟩ := read_isNan ha h; rw [e]; rfl
  · obtain ⟨s, t, e⟩ := read_isNan hb h; rw [e]; cases double.read a <;> rfl
theorem order_nan {a b : Nat} (ha : a < 18446744073709551616) (hb : b < 18446744073709551616) (h : nanB a = true ∨ nanB b = true) : double.order a b = none := by
  unfold Format.order
  rcases h with h | h
  · obtain ⟨s, t, e⟩ := read_isNan ha h; rw [e]; rfl
  · obtain ⟨s, t, e⟩ := read_isNan hb h; rw [e]; cases double.read a <;> rfl

theorem cmp_lt {x y : Int} (h : x < y) : compare x y = .lt := by show compareOfLessAndEq x y = _; unfold compareOfLessAndEq; rw [if_pos h]
theorem cmp_eq {x : Int} : compare x x = .eq := by show compareOfLessAndEq x x = _; unfold compareOfLessAndEq; rw [if_neg (by omega), if_pos rfl]
theorem cmp_gt {x y : Int} (h : y < x) : compare x y = .gt := by show compareOfLessAndEq x y = _; unfold compareOfLessAndEq; rw [if_neg (by omega), if_neg (by omega)]
/-- The order of finite floats is that of their numbers. -/
theorem order_fin {a b : Nat} (ha : FinB a) (hb : FinB b) : double.order a b = some (compare (fZ a) (fZ b)) := by
  unfold Format.order
  rw [read_fin a ha.1 ha.2, read_fin b hb.1 hb.2]
  obtain ⟨k, hk⟩ : ∃ k, k = min (fX a) (fX b) := ⟨_, rfl⟩
  have hm : min ((fX a : Int) - 1074) ((fX b : Int) - 1074) = (k : Int) - 1074 := by omega
  simp only [Datum.order, hm]
  rw [show ((fX a : Int) - 1074 - ((k : Int) - 1074)).toNat = fX a - k by omega, show ((fX b : Int) - 1074 - ((k : Int) - 1074)).toNat = fX b - k by omega, signed_is, signed_is]
  have hx : fZ a = wv (fS a) (fM a * 2 ^ (fX a - k)) * 2 ^ k := by rw [fZ_read, ← wv_times, Nat.mul_assoc, ← Nat.pow_add, show fX a - k + k = fX a by omega]
  have hy : fZ b = wv (fS b) (fM b * 2 ^ (fX b - k)) * 2 ^ k := by rw [fZ_read, ← wv_times, Nat.mul_assoc, ← Nat.pow_add, show fX b - k + k = fX b by omega]
  rw [hx, hy]
  generalize wv (fS a) (fM a * 2 ^ (fX a - k)) = A
  generalize wv (fS b) (fM b * 2 ^ (fX b - k)) = B
  have hp : (0 : Int) < 2 ^ k := Int.pow_pos (by omega)
  congr 1
  rcases Int.lt_trichotomy A B with h | h | h
  · have : A * 2 ^ k < B * 2 ^ k := Int.mul_lt_mul_of_pos_right h hp
    rw [cmp_lt h, cmp_lt this]
  · subst h; rw [cmp_eq, cmp_eq]
  · have : B * 2 ^ k < A * 2 ^ k := Int.mul_lt_mul_of_pos_right h hp
    rw [cmp_gt h, cmp_gt this]
end Go.Proofs.Ytknkakkdhihngaa
