/- Layer 1 (nat): addTo, carryUp and Add of any numbers. -/
import Derived.Test.YtknkakkdhihngaaNatC
namespace Go.Proofs.Ytknkakkdhihngaa
open Go.RowKit

/-! Plain mathematics: one limb with a carry. -/
theorem limb_step {β s x y c n A X Y : Nat} (_hb : 0 < β) (hs : s = (x + y + c) % β) (h : A + c * β ^ n = X + Y) :
    A + s * β ^ n + (x + y + c) / β * β ^ (n + 1) = (X + x * β ^ n) + (Y + y * β ^ n) := by
  have h1 := Nat.div_add_mod (x + y + c) β
  rw [← hs] at h1
  have h2 : (β * ((x + y + c) / β) + s) * β ^ n = (x + y + c) * β ^ n := by rw [h1]
  rw [Nat.add_mul, Nat.add_mul, Nat.add_mul] at h2
  have h3 : (x + y + c) / β * β ^ (n + 1) = β * ((x + y + c) / β) * β ^ n := by
    rw [Nat.pow_succ, Nat.mul_comm (β ^ n) β, ← Nat.mul_assoc, Nat.mul_comm _ β]
  rw [h3]
  omega
theorem carry_le {β x y c : Nat} (hb : 0 < β) (hx : x < β) (hy : y < β) (hc : c ≤ 1) : (x + y + c) / β ≤ 1 := by
  have : (x + y + c) / β < 2 := by rw [Nat.div_lt_iff_lt_mul hb]; omega
  omega

/-- A row in which the places from off on hold the digits zs, and the others what they held (f). -/
structure Part (k : IntKind) (f f' : Nat → Value) (off : Nat) (zs : List Nat) : Prop where
  new : ∀ i, i < zs.length → f' (off + i) = .int k ((nth zs i : Nat) : Int)
  old : ∀ j, j < off ∨ off + zs.length ≤ j → f' j = f j
theorem Part.none (k : IntKind) (f : Nat → Value) (off : Nat) : Part k f f off [] := ⟨fun i hi => by simp at hi, fun _ _ => rfl⟩
theorem Part.snoc {k : IntKind} {f f' : Nat → Value} {off : Nat} {zs : List Nat} (h : Part k f f' off zs) (z n : Nat) (hn : zs.length = n) : Part k f (fun j => if j = off + n then .int k (z : Int) else f' j) off (zs ++ [z]) := by
  subst hn
  refine ⟨fun i hi => ?_, fun j hj => ?_⟩
  · by_cases h1 : i = zs.length
    · subst h1; simp [nth_snoc]
    · have h2 : i < zs.length := by simp at hi; omega
      have h3 : ¬ off + i = off + zs.length := by omega
      simp only [if_neg h3]
      rw [nth_append_lt _ _ _ h2]; exact h.new i h2
  · have h1 : ¬ j = off + zs.length := by simp at hj; omega
    simp only [if_neg h1]
    exact h.old j (by simp at hj; omega)

/-- What addTo leaves behind. -/
def AddedTo (g e N : Nat) (f : Nat → Value) (off m : Nat) (xs ys : List Nat) (w : World) (en : Ending) (w' : World) : Prop :=
  ∃ zs f' c, en = .returned (.int .u64 ((c : Nat) : Int)) ∧ c ≤ 1 ∧ zs.length = m ∧ (∀ i, i < m → nth zs i < W64) ∧ Row w' g e N f' ∧ Part .u64 f f' off zs ∧
    vl W64 zs m + c * W64 ^ m = vl W64 xs m + vl W64 ys m ∧ w.grownBy w' (some g)

end Go.Proofs.Ytknkakkdhihngaa
