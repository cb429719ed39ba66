/- Texts that are a number's: plain mathematics. No program is named here. -/
import Derived.Test.YtndcaajebomkhaaGreatDoorParse
namespace Go.Proofs.YtndcaajebomkhaaGreatDoor

theorem hp_nil (a : UInt8) : Lib.hasPrefix [] [a] = false := rfl
theorem hp_cons (a c : UInt8) (r : List UInt8) : Lib.hasPrefix (c :: r) [a] = (a == c) := by simp [Lib.hasPrefix, List.isPrefixOf]
theorem digsOf_minus (r : List UInt8) : digsOf (45 :: r) = r := by
  unfold digsOf Lib.trimPrefix
  rw [hp_cons, if_pos (by rfl)]
  rfl
theorem digsOf_plain {l : List UInt8} (h : Lib.hasPrefix l [45] = false) : digsOf l = l := by
  unfold digsOf Lib.trimPrefix
  rw [h]
  rfl
theorem textB_neg {z : Int} (h : z < 0) : textB z = 45 :: Lib.decDigits z.natAbs := by unfold textB; rw [if_pos h]; rfl
theorem textB_nonneg {z : Int} (h : ¬ z < 0) : textB z = Lib.decDigits z.natAbs := by unfold textB; rw [if_neg h]; rfl
theorem dec_head_ne {u : Nat} : Lib.hasPrefix (Lib.decDigits u) [45] = false := by
  cases h : Lib.decDigits u with
  | nil => rfl
  | cons c r =>
    have hd := dec_digs u c (by rw [h]; simp)
    rw [hp_cons]
    refine beq_eq_false_iff_ne.2 (fun e => ?_)
    subst e
    exact absurd hd.1 (by decide)
theorem dec_no48 {u : Nat} (hu : 0 < u) : Lib.hasPrefix (Lib.decDigits u) [48] = false := by
  obtain ⟨c, r, h, hc⟩ := dec_no_nought hu
  rw [h, hp_cons]
  exact beq_eq_false_iff_ne.2 (fun e => hc e.symm)
/-- A number's text: its digits and its sign. -/
theorem text_parts (z : Int) : digsOf (textB z) = Lib.decDigits z.natAbs ∧ Lib.hasPrefix (textB z) [45] = decide (z < 0) := by
  by_cases h : z < 0
  · rw [textB_neg h, digsOf_minus, hp_cons, decide_eq_true h]
    exact ⟨rfl, rfl⟩
  · rw [textB_nonneg h, digsOf_plain dec_head_ne, dec_head_ne, decide_eq_false h]
    exact ⟨rfl, rfl⟩
theorem text_ok (z : Int) : okText (textB z) := by
  obtain ⟨h1, _⟩ := text_parts z
  unfold okText
  rw [h1]
  refine ⟨?_, dec_length_pos _, dec_digs _⟩
  by_cases h0 : z = 0
  · right; subst h0; rw [textB_nonneg (by omega)]; exact dec_small (by decide)
  · left; exact dec_no48 (by omega)
theorem row_text {ds : List UInt8} (hp : Lib.hasPrefix ds [48] = false) (h0 : 0 < ds.length) (hd : ∀ c ∈ ds, isDig c) : Lib.decDigits (decVal 0 ds) = ds ∧ 0 < decVal 0 ds := by
  cases ds with
  | nil => simp at h0
  | cons c r =>
    have hc : c ≠ 48 := fun e => by rw [hp_cons, e] at hp; simp at hp
    have e := dec_row (hd c (by simp)) hc (fun d hd' => hd d (List.mem_cons_of_mem _ hd'))
    refine ⟨e, Nat.pos_of_ne_zero (fun h => hc ?_)⟩
    rw [h, dec_small (by omega)] at e
    exact (List.cons.inj e).1.symm
/-- A text that is read is its number's text. -/
theorem ok_text {l : List UInt8} (h : okText l) : l = textB (wv (Lib.hasPrefix l [45]) (decVal 0 (digsOf l))) := by
  obtain ⟨h1, h2, h3⟩ := h
  cases hn : Lib.hasPrefix l [45] with
  | true =>
    cases l with
    | nil => rw [hp_nil] at hn; cases hn
    | cons c r =>
      rw [hp_cons] at hn
      obtain rfl : 45 = c := by simpa using hn
      rw [digsOf_minus] at h1 h2 h3 ⊢
      have h1' : Lib.hasPrefix r [48] = false := h1.resolve_right (fun e => by have := (List.cons.inj e).1; exact absurd this (by decide))
      obtain ⟨e, hp⟩ := row_text h1' h2 h3
      rw [wv_true, textB_neg (by omega), show (-(decVal 0 r : Int)).natAbs = decVal 0 r by omega, e]
  | false =>
    rw [digsOf_plain hn] at h1 h2 h3 ⊢
    rw [wv_false, textB_nonneg (by omega), show ((decVal 0 l : Nat) : Int).natAbs = decVal 0 l by omega]
    rcases h1 with h1 | h1
    · exact (row_text h1 h2 h3).1.symm
    · subst h1
      rw [decVal_cons, decVal_nil, show 10 * 0 + ((48 : UInt8).toNat - 48) = 0 by decide]
      exact (dec_small (u := 0) (by decide)).symm
theorem not_ok {l : List UInt8} (h : ¬ okText l) (z : Int) : l ≠ textB z := fun e => h (e ▸ text_ok z)
/-- How many digits. -/
theorem dec_length_le {u k : Nat} (h : u < 10 ^ k) (hk : 0 < k) : (Lib.decDigits u).length ≤ k := by
  induction k generalizing u with
  | zero => omega
  | succ k ih =>
    by_cases h1 : u < 10
    · rw [dec_small h1]; simp
    · rw [dec_big h1, List.length_append, List.length_singleton]
      have hk0 : 0 < k := Nat.pos_of_ne_zero (fun e => by subst e; rw [Nat.pow_one] at h; omega)
      have := ih (u := u / 10) (by rw [Nat.pow_succ] at h; omega) hk0
      omega
theorem limbs_dec {u m k : Nat} (h : u < W64 ^ m) (hk : k = 20 * m) : u < 10 ^ k := by
  subst hk
  refine Nat.lt_of_lt_of_le h ?_
  rw [Nat.pow_mul]
  exact Nat.pow_le_pow_left (by unfold W64; decide) m
end Go.Proofs.YtndcaajebomkhaaGreatDoor
