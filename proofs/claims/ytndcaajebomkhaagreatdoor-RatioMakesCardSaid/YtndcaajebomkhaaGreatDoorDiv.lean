/- Division, limb by limb, and by halves of limbs: plain mathematics. No program is named here. -/
import Derived.Test.YtndcaajebomkhaaGreatDoorNum
namespace Go.Proofs.YtndcaajebomkhaaGreatDoor

/-- What the two highest digits tell by the highest one is no less than how often it goes. -/
theorem guess_over {β k Pl pl pt Bl bt : Nat} (hP : Pl < β ^ k) (hb : 0 < bt) :
    (Pl + pl * β ^ k + pt * β ^ (k + 1)) / (Bl + bt * β ^ k) ≤ (pt * β + pl) / bt := by
  have hβ : 0 < β ^ k := by omega
  have h1 : pt * β + pl < bt * ((pt * β + pl) / bt + 1) := Nat.lt_mul_div_succ _ hb
  generalize (pt * β + pl) / bt = g at *
  have h2 : (pt * β + pl + 1) * β ^ k ≤ (bt * (g + 1)) * β ^ k := Nat.mul_le_mul_right _ h1
  have h3 : pt * β ^ (k + 1) = pt * β * β ^ k := by rw [Nat.pow_succ, Nat.mul_assoc, Nat.mul_comm β]
  have h4 : (bt * (g + 1)) * β ^ k = (g + 1) * (bt * β ^ k) := by rw [Nat.mul_right_comm, Nat.mul_comm]
  rw [Nat.add_mul, Nat.add_mul, h4] at h2
  have h5 : (g + 1) * (bt * β ^ k) ≤ (g + 1) * (Bl + bt * β ^ k) := Nat.mul_le_mul_left _ (by omega)
  apply Nat.le_of_lt_succ
  show _ < g + 1
  rw [Nat.div_lt_iff_lt_mul (by have := Nat.mul_pos hb hβ; omega)]
  omega
/-- By lists: a part of n + 1 digits, a divisor of n. -/
theorem guess_digits {β n : Nat} (ps bs : List Nat) (hn : 1 ≤ n) (hp : ∀ i, i < n + 1 → nth ps i < β) (hb : 0 < nth bs (n - 1)) :
    vl β ps (n + 1) / vl β bs n ≤ (nth ps n * β + nth ps (n - 1)) / nth bs (n - 1) := by
  obtain ⟨k, rfl⟩ : ∃ k, n = k + 1 := ⟨n - 1, by omega⟩
  simp only [Nat.add_sub_cancel] at *
  rw [vl_succ, vl_succ, vl_succ]
  exact guess_over (vl_lt ps k (fun i hi => hp i (by omega))) hb
theorem guess_most {β P b : Nat} (h : P < b * β) (hβ : 0 < β) : P / b ≤ β - 1 := by
  have hb : 0 < b := Nat.pos_of_ne_zero (fun h0 => by rw [h0, Nat.zero_mul] at h; omega)
  have : P / b < β := by rw [Nat.div_lt_iff_lt_mul hb, Nat.mul_comm]; exact h
  omega

/-- One more digit: what is left, and how often. -/
theorem long_rem {β b a D' D : Nat} (hD : D = a + β * D') : (a + β * (D' % b)) % b = D % b := by
  rw [hD, Nat.add_mod, Nat.mul_mod, Nat.mod_mod, ← Nat.mul_mod, ← Nat.add_mod]
theorem long_quo {β b a D' D : Nat} (hb : 0 < b) (hD : D = a + β * D') : D / b = (a + β * (D' % b)) / b + β * (D' / b) := by
  have h := Nat.div_add_mod D' b
  have e : D = (a + β * (D' % b)) + b * (β * (D' / b)) := by
    have h2 : β * (b * (D' / b) + D' % b) = β * D' := by rw [h]
    rw [Nat.mul_add, Nat.mul_left_comm] at h2
    omega
  rw [e, Nat.add_mul_div_left _ _ hb]
theorem long_part {β b a U : Nat} (ha : a < β) (hU : U < b) : a + β * U < b * β := by
  have h : β * (U + 1) ≤ β * b := Nat.mul_le_mul_left _ hU
  rw [Nat.mul_add, Nat.mul_one, Nat.mul_comm β b] at h
  omega
/-- A number's digits from a place on are the next digit and those behind it. -/
theorem val_drop_step {β : Nat} (zs : List Nat) (i : Nat) (h : i < zs.length) : val β (zs.drop i) = nth zs i + β * val β (zs.drop (i + 1)) := by
  have e : zs.drop i = nth zs i :: zs.drop (i + 1) := by
    rw [nth_lt _ _ h]; exact List.drop_eq_getElem_cons h
  rw [e, val_cons]
/-- The digits above are nought, where the number is less. -/
theorem val_drop_zero {β n : Nat} (zs : List Nat) (h : val β zs < β ^ n) (hn : n ≤ zs.length) : val β (zs.drop n) = 0 := by
  have h1 : val β zs = vl β zs n + β ^ n * val β (zs.drop n) := by
    have := vl_add (β := β) zs n (zs.length - n)
    rw [show n + (zs.length - n) = zs.length by omega] at this
    unfold val
    rw [this, List.length_drop]
  by_cases h0 : val β (zs.drop n) = 0
  · exact h0
  · have : β ^ n * 1 ≤ β ^ n * val β (zs.drop n) := Nat.mul_le_mul_left _ (by omega)
    omega
theorem vl_of_lt {β n : Nat} (zs : List Nat) (h : val β zs < β ^ n) (hn : n ≤ zs.length) : vl β zs n = val β zs := by
  have h1 : val β zs = vl β zs n + β ^ n * val β (zs.drop n) := by
    have := vl_add (β := β) zs n (zs.length - n)
    rw [show n + (zs.length - n) = zs.length by omega] at this
    show vl β zs zs.length = _
    rw [this]; unfold val; rw [List.length_drop]
  rw [val_drop_zero zs h hn, Nat.mul_zero, Nat.add_zero] at h1
  exact h1.symm
/-- Lists one behind the other. -/
theorem val_append {β : Nat} (xs ys : List Nat) : val β (xs ++ ys) = val β xs + β ^ xs.length * val β ys := by
  unfold val
  rw [List.length_append, vl_add, vl_congr (xs := xs ++ ys) (ys := xs) (fun i hi => nth_append_lt _ _ _ hi),
    List.drop_append_of_le_length (Nat.le_refl _), List.drop_of_length_le (Nat.le_refl _), List.nil_append]

/-- Moved up and down again. -/
theorem mod_moved {a b s : Nat} : (a * 2 ^ s) % (b * 2 ^ s) / 2 ^ s = a % b := by
  rw [Nat.mul_mod_mul_right, Nat.mul_div_cancel _ (Nat.pow_pos (by omega))]
theorem div_moved {a b s : Nat} : (a * 2 ^ s) / (b * 2 ^ s) = a / b := Nat.mul_div_mul_right _ _ (Nat.pow_pos (by omega))

/-! math/bits.Div64: a limb and a half by a limb, its highest bit 1, by halves. -/
/-- The guess is one or two too great at most. -/
theorem half_guess {u y yn1 yn0 : Nat} (hy : y = yn1 * 4294967296 + yn0) (h0 : yn0 < 4294967296) (h1 : 2147483648 ≤ yn1) (hu : u < y) : u / yn1 ≤ 4294967297 := by
  have : u / yn1 < 4294967298 := by
    rw [Nat.div_lt_iff_lt_mul (by omega)]
    omega
  omega
theorem half_over {u y yn1 yn0 u1 : Nat} (hy : y = yn1 * 4294967296 + yn0) (h1 : 0 < yn1) (hu1 : u1 < 4294967296) : (u * 4294967296 + u1) / y ≤ u / yn1 := by
  have := guess_over (β := 4294967296) (k := 1) (Pl := u1) (pl := u % 4294967296) (pt := u / 4294967296) (Bl := yn0) (bt := yn1) (by omega) h1
  have e1 := Nat.div_add_mod u 4294967296
  rw [Nat.pow_one] at this
  rw [show u1 + u % 4294967296 * 4294967296 + u / 4294967296 * 4294967296 ^ (1 + 1) = u * 4294967296 + u1 by omega, show yn0 + yn1 * 4294967296 = y by omega,
    show u / 4294967296 * 4294967296 + u % 4294967296 = u by omega] at this
  exact this
/-- What the loop keeps: q is no less than how often, and r is what it leaves of u by the half. -/
structure HalfInv (u u1 y yn1 yn0 q r : Nat) : Prop where
  over : (u * 4294967296 + u1) / y ≤ q
  left : q * yn1 + r = u
/-- The loop's second test. -/
theorem half_test {u u1 y yn1 yn0 q r : Nat} (hy : y = yn1 * 4294967296 + yn0) (h : HalfInv u u1 y yn1 yn0 q r) : (4294967296 * r + u1 < q * yn0) ↔ (u * 4294967296 + u1 < q * y) := by
  have e : q * y = q * yn1 * 4294967296 + q * yn0 := by rw [hy, Nat.mul_add, Nat.mul_assoc]
  have hl := h.left
  omega
theorem half_less {u u1 y yn1 yn0 q r : Nat} (hy : y = yn1 * 4294967296 + yn0) (h : HalfInv u u1 y yn1 yn0 q r) (hq : (u * 4294967296 + u1) / y < q) : HalfInv u u1 y yn1 yn0 (q - 1) (r + yn1) := by
  refine ⟨Nat.le_sub_one_of_lt hq, ?_⟩
  have := h.left
  have hq0 : 0 < q := Nat.lt_of_le_of_lt (Nat.zero_le _) hq
  clear hq
  obtain ⟨k, rfl⟩ : ∃ k, q = k + 1 := ⟨q - 1, by omega⟩
  rw [Nat.add_mul] at this
  rw [Nat.add_sub_cancel]
  omega
theorem half_lt {X y q : Nat} (hy : 0 < y) (h : X < q * y) : X / y < q := by rwa [Nat.div_lt_iff_lt_mul hy]
theorem half_eq {X y q : Nat} (hy : 0 < y) (h : q * y ≤ X) (ho : X / y ≤ q) : q = X / y := by
  have := (Nat.le_div_iff_mul_le hy).2 h
  omega
/-- At the way out by rhat. -/
theorem half_out {u u1 y yn1 yn0 q r : Nat} (hy : y = yn1 * 4294967296 + yn0) (h0 : yn0 < 4294967296) (h : HalfInv u u1 y yn1 yn0 q r) (hr : 4294967296 ≤ r) (hq : q ≤ 4294967296) : q * y ≤ u * 4294967296 + u1 := by
  have e : q * y = q * yn1 * 4294967296 + q * yn0 := by rw [hy, Nat.mul_add, Nat.mul_assoc]
  have h2 : q * yn0 ≤ 4294967296 * yn0 := Nat.mul_le_mul_right _ hq
  have hl := h.left
  omega
theorem half_small {u u1 y : Nat} (hu : u < y) (h1 : u1 < 4294967296) : (u * 4294967296 + u1) / y < 4294967296 := by
  rw [Nat.div_lt_iff_lt_mul (by omega)]
  have : (u + 1) * 4294967296 ≤ y * 4294967296 := Nat.mul_le_mul_right _ hu
  omega
/-- What is left, reckoned in words. -/
theorem half_left {u u1 y q X : Nat} (hy0 : 0 < y) (hX : X = u * 4294967296 + u1) (hy : y < 18446744073709551616) (hq : q = X / y) :
    (((u : Int) * 4294967296 % 18446744073709551616 + u1) % 18446744073709551616 - (q : Int) * y % 18446744073709551616) % 18446744073709551616 = ((X % y : Nat) : Int) := by
  have h1 := Nat.div_add_mod X y
  rw [← hq, Nat.mul_comm] at h1
  have h2 := Nat.mod_lt X hy0
  generalize X % y = m at *
  have e : ((q * y : Nat) : Int) + m = (u : Int) * 4294967296 + u1 := by omega
  rw [Int.natCast_mul] at e
  generalize (q : Int) * y = z at *
  omega
/-- Two halves of the quotient are the whole. -/
theorem halves {U y u u1 u0 : Nat} (hy : 0 < y) (hU : U = (u * 4294967296 + u1) * 4294967296 + u0) :
    (u * 4294967296 + u1) / y * 4294967296 + ((u * 4294967296 + u1) % y * 4294967296 + u0) / y = U / y ∧ ((u * 4294967296 + u1) % y * 4294967296 + u0) % y = U % y := by
  have h1 := long_quo (β := 4294967296) (b := y) (a := u0) (D' := u * 4294967296 + u1) (D := U) hy (by omega)
  have h2 := long_rem (β := 4294967296) (b := y) (a := u0) (D' := u * 4294967296 + u1) (D := U) (by omega)
  rw [Nat.add_comm u0, Nat.mul_comm 4294967296 ((u * 4294967296 + u1) % y)] at h1 h2
  rw [Nat.mul_comm 4294967296 ((u * 4294967296 + u1) / y)] at h1
  exact ⟨by omega, h2⟩
/-- hi and lo, moved up, as three parts. -/
theorem moved_parts {hi lo s : Nat} (hs : s < 64) (hlo : lo < 18446744073709551616) : (hi * 18446744073709551616 + lo) * 2 ^ s = (hi * 2 ^ s + lo / 2 ^ (64 - s)) * 18446744073709551616 + lo * 2 ^ s % 18446744073709551616 := by
  have e : 18446744073709551616 = 2 ^ s * 2 ^ (64 - s) := by rw [← Nat.pow_add]; rw [show s + (64 - s) = 64 by omega]
  have h1 : lo * 2 ^ s % 18446744073709551616 = (lo % 2 ^ (64 - s)) * 2 ^ s := by
    rw [e, Nat.mul_comm lo, Nat.mul_mod_mul_left, Nat.mul_comm]
  have h2 := Nat.div_add_mod lo (2 ^ (64 - s))
  rw [h1, Nat.add_mul, Nat.add_mul]
  have h3 : (2 ^ (64 - s) * (lo / 2 ^ (64 - s)) + lo % 2 ^ (64 - s)) * 2 ^ s = lo * 2 ^ s := by rw [h2]
  rw [Nat.add_mul] at h3
  have h4 : 2 ^ (64 - s) * (lo / 2 ^ (64 - s)) * 2 ^ s = lo / 2 ^ (64 - s) * 18446744073709551616 := by
    rw [e, Nat.mul_comm (2 ^ (64 - s)), Nat.mul_assoc, Nat.mul_comm (2 ^ (64 - s)) (2 ^ s)]
  have h5 : hi * 18446744073709551616 * 2 ^ s = hi * 2 ^ s * 18446744073709551616 := Nat.mul_right_comm _ _ _
  omega

/-! Long division, limb by limb from the top: as: the number; from place k on zs holds what is left, qs how often. -/
structure LongInv (β : Nat) (as : List Nat) (Y M k : Nat) (zs qs : List Nat) : Prop where
  zl : zs.length = as.length
  zw : ∀ j, nth zs j < β
  old : ∀ j, j < k → nth zs j = nth as j
  rem : val β (zs.drop k) = val β (as.drop k) % Y
  ql : qs.length + k = M
  qw : ∀ j, nth qs j < β
  quo : val β qs = val β (as.drop k) / Y
theorem LongInv.start {β : Nat} {as : List Nat} {Y M : Nat} (hβ : 0 < β) (hw : ∀ j, nth as j < β) (h : val β (as.drop M) < Y) : LongInv β as Y M M as [] :=
  ⟨rfl, hw, fun _ _ => rfl, (Nat.mod_eq_of_lt h).symm, by simp, fun j => by rw [nth_nil]; exact hβ, by rw [Nat.div_eq_of_lt h]; rfl⟩
/-- The part at a place: its digits, and what they are. -/
structure LongPart (β : Nat) (as zs ps : List Nat) (Y i m : Nat) : Prop where
  count : ps.length = m + 1
  at' : ∀ j, j < m + 1 → nth ps j = nth zs (i + j)
  word : ∀ j, j < m + 1 → nth ps j < β
  v : val β ps = nth as i + β * (val β (as.drop (i + 1)) % Y)
  lt : val β ps < Y * β
theorem LongInv.part {β : Nat} {as zs qs : List Nat} {Y M i m : Nat} (h : LongInv β as Y M (i + 1) zs qs) (hY : 0 < Y) (hYm : Y ≤ β ^ m) (hi : i + (m + 1) ≤ as.length) :
    LongPart β as zs ((zs.drop i).take (m + 1)) Y i m := by
  have hzl := h.zl
  have hd : val β (zs.drop i) = nth as i + β * (val β (as.drop (i + 1)) % Y) := by
    rw [val_drop_step zs i (by omega), h.old i (by omega), h.rem]
  have hlt : val β (zs.drop i) < Y * β := by
    rw [hd]
    exact long_part (by rw [← h.old i (by omega)]; exact h.zw i) (Nat.mod_lt _ hY)
  have hlt2 : val β (zs.drop i) < β ^ (m + 1) := by
    rw [Nat.pow_succ]
    exact Nat.lt_of_lt_of_le hlt (Nat.mul_le_mul_right _ hYm)
  have hv : val β ((zs.drop i).take (m + 1)) = val β (zs.drop i) := by
    rw [val_take _ _ (by rw [List.length_drop]; omega)]
    exact vl_of_lt _ hlt2 (by rw [List.length_drop]; omega)
  have hat : ∀ j, j < m + 1 → nth ((zs.drop i).take (m + 1)) j = nth zs (i + j) := fun j hj => by rw [nth_take _ _ _ hj, nth_drop]
  exact ⟨by rw [List.length_take, List.length_drop]; omega, hat, fun j hj => by rw [hat j hj]; exact h.zw _, by rw [hv, hd], by rw [hv]; exact hlt⟩
theorem LongInv.next {β : Nat} {as zs qs ls : List Nat} {Y M i m P : Nat} (h : LongInv β as Y M (i + 1) zs qs) (hβ : 0 < β) (hY : 0 < Y) (hYm : Y ≤ β ^ m) (hi : i + (m + 1) ≤ as.length)
    (hP : P = val β ((zs.drop i).take (m + 1))) (hl : ls.length = m + 1) (hw : ∀ j, j < m + 1 → nth ls j < β) (hv : val β ls = P % Y) :
    LongInv β as Y M i (zs.take i ++ (ls ++ zs.drop (i + (m + 1)))) (P / Y :: qs) := by
  have hp := h.part hY hYm hi
  have hzl := h.zl
  have hD := val_drop_step (β := β) as i (by omega)
  have hPv := hp.v
  have hPl := hp.lt
  rw [← hP] at hPv hPl
  have htl : (zs.take i).length = i := by rw [List.length_take]; omega
  have hz : val β (zs.drop (i + (m + 1))) = 0 := by
    rw [← List.drop_drop]
    apply val_drop_zero (n := m + 1)
    · rw [val_drop_step zs i (by omega), h.old i (by omega), h.rem, ← hPv, Nat.pow_succ]
      exact Nat.lt_of_lt_of_le hPl (Nat.mul_le_mul_right _ hYm)
    · rw [List.length_drop]; omega
  refine ⟨?_, fun j => ?_, fun j hj => ?_, ?_, by have := h.ql; simp; omega, fun j => ?_, ?_⟩
  · simp only [List.length_append, List.length_take, List.length_drop, hl]; omega
  · by_cases h1 : j < i
    · rw [nth_append_lt _ _ _ (by omega), nth_take _ _ _ h1]; exact h.zw j
    · rw [nth_append_ge _ _ _ (by omega), htl]
      by_cases h2 : j - i < m + 1
      · rw [nth_append_lt _ _ _ (by omega)]; exact hw _ h2
      · rw [nth_append_ge _ _ _ (by omega), nth_drop]; exact h.zw _
  · rw [nth_append_lt _ _ _ (by omega), nth_take _ _ _ hj]; exact h.old j (by omega)
  · rw [List.drop_append_of_le_length (by omega), List.drop_of_length_le (by omega), List.nil_append, val_append, hz, hv, hPv]
    simp only [Nat.mul_zero, Nat.add_zero]
    exact long_rem hD
  · cases j with
    | zero =>
      rw [nth_cons_zero, Nat.div_lt_iff_lt_mul hY, Nat.mul_comm]; exact hPl
    | succ j => rw [nth_cons_succ]; exact h.qw j
  · rw [val_cons, h.quo, hPv]
    exact (long_quo hY hD).symm
/-- The places behind a step. -/
theorem long_cells {zs ls : List Nat} {i n L : Nat} (hz : zs.length = L) (hi : i + n ≤ L) (hl : ls.length = n) (j : Nat) :
    nth (zs.take i ++ (ls ++ zs.drop (i + n))) j = if i ≤ j ∧ j < i + n then nth ls (j - i) else nth zs j := by
  have htl : (zs.take i).length = i := by rw [List.length_take]; omega
  by_cases h1 : j < i
  · rw [nth_append_lt _ _ _ (by omega), nth_take _ _ _ h1, if_neg (by omega)]
  · rw [nth_append_ge _ _ _ (by omega), htl]
    by_cases h2 : j < i + n
    · rw [nth_append_lt _ _ _ (by omega), if_pos (by omega)]
    · rw [nth_append_ge _ _ _ (by omega), nth_drop, hl, if_neg (by omega)]; congr 1; omega

end Go.Proofs.YtndcaajebomkhaaGreatDoor
