/- Layer 1 (nat): addTo, carryUp and Add of any numbers. -/
import Derived.Test.YtndcaajebomkhaaGreatDoorNatC
namespace Go.Proofs.YtndcaajebomkhaaGreatDoor
open Go.RowKit

/-! Plain mathematics: one limb with a carry. -/
theorem limb_step {β s x y c n A X Y : Nat} (_hb : 0 < β) (hs : s = (x + y + c) % β) (h : A + c * β ^ n = X + Y) :
    A + s * β ^ n + (x + y + c) / β * β ^ (n + 1) = (X + x * β ^ n) + (Y + y * β ^ n) := by
  have h1 := Nat.div_add_mod (x + y + c) β
  rw [← hs] at h1
  have h2 : (β * ((x + y + c) / β) + s) * β ^ n = (x + y + c) * β ^ n := by rw [h1]
  rw [Nat.add_mul, Nat.add_mul, Nat.add_mul] at h2
  have h3 : (x + y + c) / β * β ^ (n + 1) = β * ((x + y + c) / β) * β ^ n := by
    rw [Nat.pow_succ, Nat.mul_comm (β ^ n) β, ← Nat.mul_assoc, Nat.mul_comm _ β]
  rw [h3]
  omega
theorem carry_le {β x y c : Nat} (hb : 0 < β) (hx : x < β) (hy : y < β) (hc : c ≤ 1) : (x + y + c) / β ≤ 1 := by
  have : (x + y + c) / β < 2 := by rw [Nat.div_lt_iff_lt_mul hb]; omega
  omega

/-- A row in which the places from off on hold the digits zs, and the others what they held (f). -/
structure Part (k : IntKind) (f f' : Nat → Value) (off : Nat) (zs : List Nat) : Prop where
  new : ∀ i, i < zs.length → f' (off + i) = .int k ((nth zs i : Nat) : Int)
  old : ∀ j, j < off ∨ off + zs.length ≤ j → f' j = f j
theorem Part.none (k : IntKind) (f : Nat → Value) (off : Nat) : Part k f f off [] := ⟨fun i hi => by simp at hi, fun _ _ => rfl⟩
theorem Part.snoc {k : IntKind} {f f' : Nat → Value} {off : Nat} {zs : List Nat} (h : Part k f f' off zs) (z n : Nat) (hn : zs.length = n) : Part k f (fun j => if j = off + n then .int k (z : Int) else f' j) off (zs ++ [z]) := by
  subst hn
  refine ⟨fun i hi => ?_, fun j hj => ?_⟩
  · by_cases h1 : i = zs.length
    · subst h1; simp [nth_snoc]
    · have h2 : i < zs.length := by simp at hi; omega
      have h3 : ¬ off + i = off + zs.length := by omega
      simp only [if_neg h3]
      rw [nth_append_lt _ _ _ h2]; exact h.new i h2
  · have h1 : ¬ j = off + zs.length := by simp at hj; omega
    simp only [if_neg h1]
    exact h.old j (by simp at hj; omega)

/-- What addTo leaves behind. -/
def AddedTo (g e N : Nat) (f : Nat → Value) (off m : Nat) (xs ys : List Nat) (w : World) (en : Ending) (w' : World) : Prop :=
  ∃ zs f' c, en = .returned (.int .u64 ((c : Nat) : Int)) ∧ c ≤ 1 ∧ zs.length = m ∧ (∀ i, i < m → nth zs i < W64) ∧ Row w' g e N f' ∧ Part .u64 f f' off zs ∧
    vl W64 zs m + c * W64 ^ m = vl W64 xs m + vl W64 ys m ∧ w.grownBy w' (some g)

set_option maxHeartbeats 1000000 in
theorem addTo_any {B : Nat} (g e N off n m cap c2 : Nat) (f : Nat → Value) (q : Option Addr) (xs ys : List Nat) (w : World) (hm : m ≤ n) (hn : n ≤ 1000000) (hN : off + n ≤ N) (h2 : m ≤ c2)
    (hrow : Row w g e N f) (hxs : ∀ i, i < m → f (off + i) = .int .u64 ((nth xs i : Nat) : Int)) (hxw : ∀ i, i < m → nth xs i < W64) (hR : Rd .u64 W64 B w q m ys) (hB : B ≤ g) :
    Calls Tryz.prog 101 #[.slice (some ⟨g, off, none⟩) n cap, .slice q m c2] w (AddedTo g e N f off m xs ys w) := by
  have hgw := hrow.lt
  go_enter Tryz.func101, Tryz.ntmps101
  go_wp2
  go_loopw [5, 10] (fun c i wr => ∃ (k d : Nat) (zs : List Nat) (f' : Nat → Value), k ≤ m ∧ i = .int .i64 k ∧ c = .int .u64 d ∧ d ≤ 1 ∧ Hid (zs.length = k) ∧ Hid (∀ i, i < k → nth zs i < W64) ∧ Row wr g e N f' ∧ Part .u64 f f' off zs ∧
      Hid (vl W64 zs k + d * W64 ^ k = vl W64 xs k + vl W64 ys k) ∧ w.grownBy wr (some g)) (fun _ i _ => m - (intOf i).toNat)
  case atStart => exact ⟨0, 0, [], f, Nat.zero_le _, rfl, rfl, by omega, Lib.hid rfl, Lib.hid (fun i hi => by omega), hrow, Part.none _ _ _, Lib.hid (by simp [vl]), World.grownBy.refl _ _⟩
  case round =>
    obtain ⟨k, d, zs, f', hk, rfl, rfl, hd, hzl, hzw, hr, hp, hv, hg⟩ := hrel
    by_cases hlt : k < m
    · obtain ⟨b, o, rfl, hb, hcy⟩ := (hR.grown hg hB (by omega)).cell k hlt
      have hcx := hr.cell (off + k) (by omega)
      rw [hp.old (off + k) (by right; rw [hzl.out]; exact Nat.le_refl _), hxs k hlt] at hcx
      have hfr := hr.free (off + k)
      have hx := hxw k hlt
      have hy := hR.word k hlt
      obtain ⟨x, hex⟩ : ∃ x, x = nth xs k := ⟨_, rfl⟩
      obtain ⟨y, hey⟩ : ∃ y, y = nth ys k := ⟨_, rfl⟩
      rw [← hex] at hcx hx
      rw [← hey] at hcy hy
      obtain ⟨s, hs⟩ : ∃ s, s = (x + y + d) % W64 := ⟨_, rfl⟩
      obtain ⟨d', hd'⟩ : ∃ d', d' = (x + y + d) / W64 := ⟨_, rfl⟩
      have hA := add64 x y d hd
      rw [← hs, ← hd'] at hA
      have h1 : d' ≤ 1 := by rw [hd']; exact carry_le W64_pos hx hy hd
      have H1 : Hid (nth (zs ++ [s]) k = s) := Lib.hid (nth_snoc _ _ _ hzl.out.symm)
      have H2 : Hid (vl W64 (zs ++ [s]) (k + 1) + d' * W64 ^ (k + 1) = vl W64 xs (k + 1) + vl W64 ys (k + 1)) := Lib.hid (by
        rw [vl_succ, vl_succ, vl_succ, H1.out, ← hex, ← hey, vl_congr (xs := zs ++ [s]) (ys := zs) (fun i hi => nth_append_lt _ _ _ (by rw [hzl.out]; exact hi)), hd']
        exact limb_step W64_pos hs hv.out)
      have H3 : Hid (∀ i, i < k + 1 → nth (zs ++ [s]) i < W64) := Lib.hid (fun i hi => by
        by_cases hik : i = k
        · rw [hik, H1.out, hs]; exact Nat.mod_lt _ W64_pos
        · rw [nth_append_lt _ _ _ (by rw [hzl.out]; omega)]; exact hzw.out i (by omega))
      have H4 := hp.snoc s k hzl.out
      have H5 : Hid ((zs ++ [s]).length = k + 1) := Lib.hid (by simp [hzl.out])
      have HA := Lib.hid hA
      clear hA hs hd' hex hey hv hzw hzl H1 hx hy
      have H6 := hr.set (off + k) (.int .u64 (s : Int))
      go_wp2_with (simp only [HA.out])
      go_roundw
      case rel => exact ⟨k + 1, d', zs ++ [s], _, by omega, by go_num, rfl, h1, H5, H3, H6, H4, H2, grown_trans hg (grown_set _ _ _ _)⟩
      case measure => simp [intOf]; omega
    · obtain rfl : k = m := by omega
      go_wp2
      go_ret
      exact ⟨zs, f', d, rfl, hd, hzl.out, hzw.out, hr, hp, hv.out, hg⟩
end Go.Proofs.YtndcaajebomkhaaGreatDoor
