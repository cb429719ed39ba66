/- Layer 3 (split): twos, the closure that takes twos out, and Gcd of any numbers. -/
import Derived.Test.YtndcaajebomkhaaGreatDoorSplitC
import Derived.OneCell
import Derived.Deep.LoopGhost
namespace Go.Proofs.YtndcaajebomkhaaGreatDoor
open Go.RowKit

theorem TabVar.below {w w' : World} (h : TabVar w) (hb : Below w.heap.size w w') : TabVar w' := fun j hj => by
  have h0 := h j hj
  have hlt : 3 < w.heap.size := by
    rcases Nat.lt_or_ge 3 w.heap.size with h' | h'
    · exact h'
    · simp [World.cell?, Array.getElem?_eq_none h'] at h0
  rw [hb.cell (p := ⟨3, j, none⟩) hlt]; exact h0

/-- A block of one cell, which holds no number. -/
structure One (w : World) (A : Nat) (v : Value) : Prop where
  heap : w.heap[A]? = some (.cells #[v] 22 (0, 0))
  sl : ∃ p l c, v = .slice p l c
theorem One.c0 {w : World} {A : Nat} {v : Value} (h : One w A v) : w.cell? ⟨A, 0, none⟩ = some v := cell_of_one h.heap
theorem One.free {w : World} {A : Nat} {v : Value} (h : One w A v) : w.frozen? ⟨A, 0, none⟩ = false := free_of_one h.heap
theorem One.lt {w : World} {A : Nat} {v : Value} (h : One w A v) : A < w.heap.size := lt_of_block h.heap
theorem One.next {w w' : World} {A : Nat} {v : Value} (h : One w A v) (hb : Below w.heap.size w w') : One w' A v := ⟨by rw [hb.block A h.lt]; exact h.heap, h.sl⟩
theorem One.put {w : World} {A : Nat} {v : Value} (h : One w A v) (p : Option Addr) (l c : Nat) : One (w.setCell ⟨A, 0, none⟩ (.slice p l c)) A (.slice p l c) := ⟨one_setCell h.heap, _, _, _, rfl⟩
theorem One.other {w : World} {A : Nat} {v : Value} (h : One w A v) {b o : Nat} {k : IntKind} {z : Int} (hc : w.cell? ⟨b, o, none⟩ = some (.int k z)) : b ≠ A := by
  rintro rfl
  obtain ⟨p, l, c, rfl⟩ := h.sl
  simp only [World.cell?, h.heap] at hc
  cases o with
  | zero => simp at hc
  | succ o => simp at hc
theorem Rd.one {k : IntKind} {β : Nat} {w : World} {p : Option Addr} {len : Nat} {zs : List Nat} {A : Nat} {v : Value} (h : Rd k β w.heap.size w p len zs) (ho : One w A v) (u : Value) :
    Rd k β (w.setCell ⟨A, 0, Option.none⟩ u).heap.size (w.setCell ⟨A, 0, Option.none⟩ u) p len zs :=
  ⟨h.count, h.word, fun i hi => by
    obtain ⟨b, o, h1, h2, h3⟩ := h.cell i hi
    have hne := ho.other h3
    refine ⟨b, o, h1, by simpa [World.setCell] using h2, ?_⟩
    have hh := Below.heap_setCell w ⟨A, 0, Option.none⟩ u b hne
    unfold World.cell? at h3 ⊢
    simp only at h3 ⊢
    rw [hh]; exact h3⟩
theorem below_one {w W : World} {A : Nat} (h : Below w.heap.size w W) (hA : w.heap.size ≤ A) (u : Value) : Below w.heap.size w (W.setCell ⟨A, 0, none⟩ u) := h.setCell (by simpa using hA) u

/-! Plain mathematics: twos. -/
theorem twos_at {x k c m z : Nat} (ds : List Nat) (hk : k < ds.length) (h0 : ∀ j, j < k → nth ds j = 0) (hz : nth ds k = z) (hzc : z = 2 ^ c * (2 * m + 1)) (hc : c < 64) (hx : x = val W64 ds) :
    ∃ t, x = 2 ^ (64 * k + c) * (2 * t + 1) := by
  have h1 : vl W64 ds k = 0 := by
    rw [vl_congr (ys := List.replicate k 0) (fun i hi => by rw [h0 i hi, nth_replicate]; split <;> rfl), vl_replicate]
  have h2 : val W64 ds = vl W64 ds k + W64 ^ k * val W64 (ds.drop k) := by
    have := vl_add (β := W64) ds k (ds.length - k)
    rw [show k + (ds.length - k) = ds.length by omega] at this
    unfold val
    rw [this, List.length_drop]
  rw [h1, Nat.zero_add, val_drop_step ds k hk, hz, hzc] at h2
  generalize val W64 (ds.drop (k + 1)) = r at h2
  have e1 : W64 = 2 ^ c * (2 * 2 ^ (63 - c)) := by
    rw [W64_pow, ← Nat.mul_assoc, ← Nat.pow_succ, ← Nat.pow_add]; congr 1; omega
  refine ⟨m + 2 ^ (63 - c) * r, ?_⟩
  rw [hx, h2, Nat.pow_add, Nat.pow_mul, show (2 : Nat) ^ 64 = W64 from W64_pow.symm, Nat.mul_assoc (W64 ^ k)]
  congr 1
  have e2 : W64 * r = 2 ^ c * (2 * 2 ^ (63 - c)) * r := by rw [← e1]
  rw [e2, Nat.mul_assoc (2 ^ c), ← Nat.mul_add]
  congr 1
  rw [Nat.mul_add, Nat.mul_assoc 2]
  omega
theorem odd_gcd_two (n t y : Nat) (hy : y % 2 = 1) : Nat.gcd (2 ^ n * t) y = Nat.gcd t y := by
  apply Nat.Coprime.gcd_mul_left_cancel
  apply Nat.Coprime.pow_left
  have : Nat.gcd 2 y = Nat.gcd (y % 2) 2 := Nat.gcd_rec 2 y
  unfold Nat.Coprime
  rw [this, hy]
  decide
theorem gcd_twos {i j X Y : Nat} (hX : X % 2 = 1) (hY : Y % 2 = 1) : Nat.gcd (2 ^ i * X) (2 ^ j * Y) = Nat.gcd X Y * 2 ^ (min i j) := by
  by_cases h : i ≤ j
  · obtain ⟨d, rfl⟩ : ∃ d, j = i + d := ⟨j - i, by omega⟩
    rw [Nat.pow_add, Nat.mul_assoc, Nat.gcd_mul_left, Nat.gcd_comm X, odd_gcd_two _ _ _ hX, Nat.gcd_comm Y, Nat.mul_comm, Nat.min_eq_left (by omega)]
  · obtain ⟨d, rfl⟩ : ∃ d, i = j + d := ⟨i - j, by omega⟩
    rw [Nat.pow_add, Nat.mul_assoc, Nat.gcd_mul_left, odd_gcd_two _ _ _ hY, Nat.mul_comm, Nat.min_eq_right (by omega)]
theorem gcd_step {u v n t : Nat} (huv : v ≤ u) (h : u - v = 2 ^ n * (2 * t + 1)) (hv : v % 2 = 1) : Nat.gcd (2 * t + 1) v = Nat.gcd u v := by
  rw [← odd_gcd_two n (2 * t + 1) v hv, ← h]
  have : u = (u - v) + v := by omega
  conv => rhs; rw [this]
  simp
theorem pow_mul_odd_lt {n t x : Nat} (h : x = 2 ^ n * (2 * t + 1)) : 2 * t + 1 ≤ x := by
  rw [h]; exact Nat.le_mul_of_pos_left _ (Nat.pow_pos (by omega))
theorem div_odd {n t x : Nat} (h : x = 2 ^ n * (2 * t + 1)) : x / 2 ^ n = 2 * t + 1 := by
  rw [h, Nat.mul_div_cancel_left _ (Nat.pow_pos (by omega))]

set_option maxHeartbeats 1000000 in
theorem twos_any {B : Nat} (p : Option Addr) (len cap : Nat) (zs : List Nat) (w : World) (hl : len ≤ 1000000) (hr : Rd .u64 W64 B w p len zs) (hx : 0 < val W64 zs) (hT : TabVar w) :
    Calls Tryz.prog 56 #[.slice p len cap] w fun e w' => ∃ n t : Nat, e = .returned (.int .i64 (n : Int)) ∧ val W64 zs = 2 ^ n * (2 * t + 1) ∧ n < 64 * len ∧ w = w' := by
  obtain ⟨x, hx'⟩ : ∃ x, x = val W64 zs := ⟨_, rfl⟩
  rw [← hx'] at hx ⊢
  have HX := Lib.hid hx'
  have HP := Lib.hid hx
  have HT := Lib.hid hT
  clear hx' hx hT
  go_enter Tryz.func56, Tryz.ntmps56
  go_wp2
  go_loopw [7] (fun i wr => ∃ k : Nat, k ≤ len ∧ i = .int .i64 (k : Int) ∧ Hid (∀ j, j < k → nth zs j = 0) ∧ w = wr) (fun i _ => len - (intOf i).toNat)
  case atStart => exact ⟨0, Nat.zero_le _, rfl, Lib.hid (fun j hj => by omega), rfl⟩
  case round =>
    obtain ⟨k, hk, rfl, h0, rfl⟩ := hrel
    by_cases hlt : k < len
    · have hltz : (k : Int) < len := by omega
      obtain ⟨b, o, rfl, hb, hcx⟩ := hr.cell k hlt
      have hzw := hr.word k hlt
      obtain ⟨z, hez⟩ : ∃ z, z = nth zs k := ⟨_, rfl⟩
      rw [← hez] at hcx hzw
      have HZ := Lib.hid hez
      clear hez
      by_cases hz : z = 0
      · subst hz
        have H1 : Hid (∀ j, j < k + 1 → nth zs j = 0) := Lib.hid (fun j hj => by
          by_cases h : j = k
          · rw [h, ← HZ.out]
          · exact h0.out j (by omega))
        go_wp2
        go_roundw
        case rel => exact ⟨k + 1, by omega, by go_num, H1, by first | rfl | trivial⟩
        case measure => simp [intOf]; omega
      · have hz0 : 0 < z := by omega
        have hC := bits_TrailingZeros64 z hzw w HT.out
        obtain ⟨m, hm, hc64⟩ := Lib.ctzFrom_spec 64 z hz0 hzw
        have hcz : Lib.ctz 64 z = Lib.ctzFrom 64 z := if_neg hz
        rw [← hcz] at hm hc64
        obtain ⟨c, hc⟩ : ∃ c, c = Lib.ctz 64 z := ⟨_, rfl⟩
        rw [← hc] at hC hm hc64
        have hcnt := hr.count
        obtain ⟨t, ht⟩ := twos_at zs (by omega) h0.out HZ.out.symm hm hc64 HX.out
        have HTT := Lib.hid ht
        replace hC : Calls Tryz.prog 87 #[.int .u64 (z : Int)] w fun e w' => e = .returned (.int .i64 (c : Int)) ∧ w = w' := hC.mono fun e w' ⟨h1, h2⟩ => ⟨h1, h2.symm⟩
        have HC := Lib.hid hC
        clear hC hm hcz hc ht hcnt h0
        go_wp2_with (go_at_call 87; refine (HC.out).mono ?_; rintro e w' ⟨rfl, rfl⟩)
        go_ret
        exact ⟨64 * k + c, t, by go_num, HTT.out, by omega, rfl⟩
    · exfalso
      obtain rfl : k = len := by omega
      have h1 : vl W64 zs k = 0 := by
        rw [vl_congr (ys := List.replicate k 0) (fun i hi => by rw [h0.out i hi, nth_replicate]; split <;> rfl), vl_replicate]
      have := HP.out
      rw [HX.out, ← hr.vl, h1] at this
      omega

set_option maxHeartbeats 1000000 in
/-- The closure: twos are taken out of the number that its variable holds. -/
theorem takeTwos_any (A : Nat) (p : Option Addr) (len cap x : Nat) (w : World) (ho : One w A (.slice p len cap)) (hlc : len ≤ cap) (hl : len ≤ 1000000) (hr : Rd .u64 W64 w.heap.size w p len (digs W64 x)) (hx : 0 < x) (hT : TabVar w) :
    Calls Tryz.prog 55 #[.pointer (some ⟨A, 0, none⟩)] w fun e w' => ∃ (n t : Nat) (q : Option Addr) (m c : Nat), e = .returned (.int .i64 (n : Int)) ∧ x = 2 ^ n * (2 * t + 1) ∧ n < 64 * len ∧
      One w' A (.slice q m c) ∧ m ≤ c ∧ (q = none → c = 0) ∧ Rd .u64 W64 w'.heap.size w' q m (digs W64 (2 * t + 1)) ∧ w.grownBy w' (some A) := by
  have oc := ho.c0
  have HX := Lib.hid hx
  clear hx
  go_enter Tryz.func55, Tryz.ntmps55
  go_wp2_with fail
  refine (twos_any p len cap (digs W64 x) w hl hr (by rw [val_digs two_le_W64]; exact HX.out) hT).mono ?_
  rw [val_digs two_le_W64]
  rintro e w' ⟨n, t, rfl, hn, hnl, rfl⟩
  have HN := Lib.hid hn
  clear hn
  go_wp2_with fail
  refine (natShr_any p len cap n (n : Int) (digs W64 x) w hlc hl hr (Nat.le_refl _) (Or.inl rfl) (by omega)).mono ?_
  rw [val_digs two_le_W64, div_odd HN.out]
  rintro e w1 ⟨q, m, c, rfl, hmc, hq, hR, hb⟩
  have ho1 := ho.next hb
  have oc1 := ho1.c0
  have of1 := ho1.free
  have hA := ho1.lt
  clear oc
  go_wp2
  go_ret
  exact ⟨n, t, q, m, c, rfl, HN.out, hnl, ho1.put q m c, hmc, hq, hR.one ho1 _, grown_trans ⟨hb.os, hb.tape, hb.output, hb.size, fun i hi _ => hb.block i hi⟩ (grown_set _ _ _ _)⟩
end Go.Proofs.YtndcaajebomkhaaGreatDoor
