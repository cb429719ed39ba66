/- Layer 1 (nat): Cmp and Len of any numbers. -/
import Derived.Test.YtknkakkdhihngaaNatA
import Derived.Deep.QuietTactic
import Derived.BigQuiet
namespace Go.Proofs.Ytknkakkdhihngaa
open Go.RowKit

/-- -1, 0, 1. -/
def cmpN (x y : Nat) : Int := if x < y then -1 else if y < x then 1 else 0


/-! Plain mathematics: two numbers without noughts at the top, from the top down. -/
theorem digs_le_length {β : Nat} (hb : 2 ≤ β) {x y : Nat} (h : (digs β x).length < (digs β y).length) : x < y := by
  have h1 := (digs_length_le hb x (digs β x).length).1 (Nat.le_refl _)
  have h2 := (digs_lt_length hb y (digs β x).length).1 h
  omega
theorem vl_top_lt {β : Nat} (xs ys : List Nat) (n k : Nat) (hk : k < n) (hx : ∀ i, i < n → nth xs i < β) (he : ∀ j, k < j → j < n → nth xs j = nth ys j) (hlt : nth xs k < nth ys k) : vl β xs n < vl β ys n := by
  induction n with
  | zero => omega
  | succ n ih =>
    rw [vl_succ, vl_succ]
    by_cases h : k = n
    · subst h
      have h1 := vl_lt xs k (fun i hi => hx i (by omega))
      have h2 : (nth xs k + 1) * β ^ k ≤ nth ys k * β ^ k := Nat.mul_le_mul_right _ hlt
      rw [Nat.add_mul] at h2
      omega
    · rw [he n (by omega) (by omega)]
      have := ih (by omega) (fun i hi => hx i (by omega)) (fun j h1 h2 => he j h1 (by omega))
      omega
theorem cmpN_lt {x y : Nat} (h : x < y) : cmpN x y = -1 := by simp [cmpN, h]
theorem cmpN_gt {x y : Nat} (h : y < x) : cmpN x y = 1 := by simp [cmpN, h, Nat.lt_asymm h]
theorem cmpN_eq {x y : Nat} (h : x = y) : cmpN x y = 0 := by simp [cmpN, h]
/-- By lengths that part. -/
theorem cmp_len {β x y n m : Nat} (hb : 2 ≤ β) (hx : (digs β x).length = n) (hy : (digs β y).length = m) (h : n ≠ m) : cmpN n m = cmpN x y := by
  by_cases h1 : n < m
  · rw [cmpN_lt h1, cmpN_lt (digs_le_length hb (by omega))]
  · rw [cmpN_gt (by omega), cmpN_gt (digs_le_length hb (by omega))]
/-- By the highest place at which they part. -/
theorem cmp_at {β x y n k : Nat} (hb : 2 ≤ β) (hx : (digs β x).length = n) (hy : (digs β y).length = n) (hk : k < n)
    (he : ∀ j, k < j → j < n → nth (digs β x) j = nth (digs β y) j) (hne : nth (digs β x) k ≠ nth (digs β y) k) : cmpN (nth (digs β x) k) (nth (digs β y) k) = cmpN x y := by
  have ex : vl β (digs β x) n = x := by have := val_digs hb x; unfold val at this; rw [hx] at this; exact this
  have ey : vl β (digs β y) n = y := by have := val_digs hb y; unfold val at this; rw [hy] at this; exact this
  by_cases h1 : nth (digs β x) k < nth (digs β y) k
  · have := vl_top_lt (β := β) (digs β x) (digs β y) n k hk (fun i _ => digs_word hb _ _) he h1
    rw [ex, ey] at this
    rw [cmpN_lt h1, cmpN_lt this]
  · have := vl_top_lt (β := β) (digs β y) (digs β x) n k hk (fun i _ => digs_word hb _ _) (fun j a b => (he j a b).symm) (by omega)
    rw [ex, ey] at this
    rw [cmpN_gt (by omega), cmpN_gt this]
theorem cmp_same {β x y n : Nat} (hb : 2 ≤ β) (hx : (digs β x).length = n) (hy : (digs β y).length = n) (he : ∀ j, j < n → nth (digs β x) j = nth (digs β y) j) : cmpN x y = 0 :=
  cmpN_eq (digs_inj hb (ext_nth (by omega) (fun i hi => he i (by omega))))

end Go.Proofs.Ytknkakkdhihngaa
