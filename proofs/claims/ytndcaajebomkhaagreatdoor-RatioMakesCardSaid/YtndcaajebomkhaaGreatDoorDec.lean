/- Numbers told in decimal digits: plain mathematics. No program is named here. -/
import Derived.Test.YtndcaajebomkhaaGreatDoorDiv
import Derived.Lib.ItoaNum
namespace Go.Proofs.YtndcaajebomkhaaGreatDoor

theorem dec_small {u : Nat} (h : u < 10) : Lib.decDigits u = [UInt8.ofNat (48 + u)] := by rw [Lib.decDigits, dif_pos h]
theorem dec_big {u : Nat} (h : ¬ u < 10) : Lib.decDigits u = Lib.decDigits (u / 10) ++ [UInt8.ofNat (48 + u % 10)] := by rw [Lib.decDigits, dif_neg h]
/-- A number's last k digits, with noughts ahead. -/
def padk : Nat → Nat → List UInt8
  | 0, _ => []
  | k + 1, r => padk k (r / 10) ++ [UInt8.ofNat (48 + r % 10)]
theorem padk_zero (k : Nat) : padk k 0 = List.replicate k 48 := by
  induction k with
  | zero => rfl
  | succ k ih => rw [padk, show 0 / 10 = 0 from rfl, ih, List.replicate_succ']; rfl
/-- A number above 0, with k digits more. -/
theorem dec_pad (a k r : Nat) (ha : 0 < a) (hr : r < 10 ^ k) : Lib.decDigits (a * 10 ^ k + r) = Lib.decDigits a ++ padk k r := by
  induction k generalizing r with
  | zero =>
    have : r = 0 := by simpa using hr
    subst this
    simp [padk]
  | succ k ih =>
    have hp : 0 < 10 ^ k := Nat.pow_pos (by omega)
    have h1 : 10 ≤ a * 10 ^ (k + 1) := by
      rw [Nat.pow_succ]
      have : 1 * 1 ≤ a * 10 ^ k := Nat.mul_le_mul ha hp
      rw [← Nat.mul_assoc]; omega
    have e1 : a * 10 ^ (k + 1) = 10 * (a * 10 ^ k) := by rw [Nat.pow_succ]; rw [Nat.mul_comm 10, Nat.mul_assoc]
    have e2 : (a * 10 ^ (k + 1) + r) / 10 = a * 10 ^ k + r / 10 := by rw [e1]; omega
    have e3 : (a * 10 ^ (k + 1) + r) % 10 = r % 10 := by rw [e1]; omega
    rw [dec_big (by omega), e2, e3, ih (r / 10) (by rw [Nat.pow_succ] at hr; omega), padk, List.append_assoc]
theorem dec_length_pos (u : Nat) : 0 < (Lib.decDigits u).length := by
  by_cases h : u < 10
  · rw [dec_small h]; simp
  · rw [dec_big h]; simp
/-- The digits with noughts ahead are the noughts and the digits. -/
theorem padk_dec (k r : Nat) (hk : 0 < k) (hr : r < 10 ^ k) : padk k r = List.replicate (k - (Lib.decDigits r).length) 48 ++ Lib.decDigits r ∧ (Lib.decDigits r).length ≤ k := by
  induction k generalizing r with
  | zero => omega
  | succ k ih =>
    by_cases h : r < 10
    · rw [padk, dec_small h, show r / 10 = 0 by omega, padk_zero, show r % 10 = r by omega]
      simp
    · by_cases hk0 : k = 0
      · subst hk0; rw [Nat.pow_one] at hr; omega
      · obtain ⟨h1, h2⟩ := ih (r / 10) (by omega) (by rw [Nat.pow_succ] at hr; omega)
        rw [padk, h1, dec_big h]
        simp only [List.length_append, List.length_singleton]
        exact ⟨by rw [List.append_assoc, show k + 1 - ((Lib.decDigits (r / 10)).length + 1) = k - (Lib.decDigits (r / 10)).length by omega], by omega⟩
/-- One digit less, from the end. -/
theorem dec_last (u : Nat) : Lib.decDigits u = (if u / 10 = 0 then [] else Lib.decDigits (u / 10)) ++ [UInt8.ofNat (48 + u % 10)] := by
  by_cases h : u < 10
  · rw [dec_small h, if_pos (by omega), show u % 10 = u by omega]; rfl
  · rw [dec_big h, if_neg (by omega)]

/-- The text of a whole number. -/
def textB (z : Int) : List UInt8 := (if z < 0 then [45] else []) ++ Lib.decDigits z.natAbs

/-! Texts that are read: a row of digits is a number. -/
/-- What the digits so far come to. -/
def decStep (v : Nat) (c : UInt8) : Nat := 10 * v + (c.toNat - 48)
def decVal (v : Nat) (l : List UInt8) : Nat := l.foldl decStep v
theorem decVal_nil (v : Nat) : decVal v [] = v := by unfold decVal; rw [List.foldl_nil]
theorem decVal_cons (v : Nat) (c : UInt8) (r : List UInt8) : decVal v (c :: r) = decVal (10 * v + (c.toNat - 48)) r := by unfold decVal; rw [List.foldl_cons]; unfold decStep; rfl
def isDig (c : UInt8) : Prop := 48 ≤ c.toNat ∧ c.toNat ≤ 57
theorem decVal_append (v : Nat) (xs ys : List UInt8) : decVal v (xs ++ ys) = decVal (decVal v xs) ys := by
  induction xs generalizing v with
  | nil => rw [List.nil_append, decVal_nil]
  | cons c r ih => rw [List.cons_append, decVal_cons, decVal_cons]; exact ih _
theorem dig_ofNat {c : UInt8} (h : isDig c) : UInt8.ofNat (48 + (c.toNat - 48)) = c := by
  rw [show 48 + (c.toNat - 48) = c.toNat by have := h.1; omega]
  simp
/-- A row of digits that does not begin with a nought is the text of what it comes to. -/
theorem dec_of_row (v : Nat) (hv : 0 < v) (xs : List UInt8) (hx : ∀ c ∈ xs, isDig c) : Lib.decDigits (decVal v xs) = Lib.decDigits v ++ xs := by
  induction xs generalizing v with
  | nil => rw [decVal_nil, List.append_nil]
  | cons c r ih =>
    have hc := hx c (by simp)
    have h1 : (c.toNat - 48) < 10 := by have := hc.2; omega
    rw [decVal_cons, ih (10 * v + (c.toNat - 48)) (by omega) (fun d hd => hx d (by simp [hd])), dec_big (by omega), show (10 * v + (c.toNat - 48)) / 10 = v by omega, show (10 * v + (c.toNat - 48)) % 10 = c.toNat - 48 by omega, dig_ofNat hc, List.append_assoc]
    rfl
theorem dec_row {c : UInt8} {r : List UInt8} (hc : isDig c) (hc0 : c ≠ 48) (hr : ∀ d ∈ r, isDig d) : Lib.decDigits (decVal 0 (c :: r)) = c :: r := by
  have h1 : 0 < c.toNat - 48 := by
    have := hc.1
    have h2 : c.toNat ≠ 48 := fun h => hc0 (UInt8.toNat_inj.1 h)
    omega
  rw [decVal_cons, show 10 * 0 + (c.toNat - 48) = c.toNat - 48 by omega, dec_of_row _ h1 r hr, dec_small (by have := hc.2; omega), dig_ofNat hc]
  rfl
theorem dig_toNat {d : Nat} (hd : d < 10) : (UInt8.ofNat (48 + d)).toNat = 48 + d := UInt8.toNat_ofNat_of_lt (show 48 + d < 256 by omega)
theorem dec_digs (u : Nat) : ∀ c ∈ Lib.decDigits u, isDig c := by
  induction u using Nat.strongRecOn with
  | _ u ih =>
    have hd : ∀ d, d < 10 → isDig (UInt8.ofNat (48 + d)) := fun d hd => by
      have : (UInt8.ofNat (48 + d)).toNat = 48 + d := dig_toNat hd
      exact ⟨by rw [this]; omega, by rw [this]; omega⟩
    by_cases h : u < 10
    · rw [dec_small h]; intro c hc; obtain rfl := List.mem_singleton.1 hc; exact hd u h
    · rw [dec_big h]; intro c hc
      rcases List.mem_append.1 hc with hc | hc
      · exact ih _ (by omega) c hc
      · obtain rfl := List.mem_singleton.1 hc; exact hd _ (by omega)
theorem dec_val (u : Nat) : decVal 0 (Lib.decDigits u) = u := by
  induction u using Nat.strongRecOn with
  | _ u ih =>
    have hd : ∀ d, d < 10 → (UInt8.ofNat (48 + d)).toNat - 48 = d := fun d hd => by
      have : (UInt8.ofNat (48 + d)).toNat = 48 + d := dig_toNat hd
      omega
    by_cases h : u < 10
    · rw [dec_small h, decVal_cons, decVal_nil, hd u h]; omega
    · rw [dec_big h, decVal_append, ih _ (by omega), decVal_cons, decVal_nil, hd _ (by omega)]; omega
theorem dec_no_nought {u : Nat} (hu : 0 < u) : ∃ c r, Lib.decDigits u = c :: r ∧ c ≠ 48 := by
  induction u using Nat.strongRecOn with
  | _ u ih =>
    by_cases h : u < 10
    · refine ⟨_, [], dec_small h, fun hc => ?_⟩
      have h1 := congrArg UInt8.toNat hc
      rw [dig_toNat h, show (48 : UInt8).toNat = 48 from rfl] at h1
      omega
    · obtain ⟨c, r, h1, h2⟩ := ih (u / 10) (by omega) (by omega)
      exact ⟨c, r ++ [UInt8.ofNat (48 + u % 10)], by rw [dec_big h, h1]; rfl, h2⟩
end Go.Proofs.YtndcaajebomkhaaGreatDoor
