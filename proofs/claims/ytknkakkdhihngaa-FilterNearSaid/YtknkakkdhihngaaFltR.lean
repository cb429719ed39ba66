/- The document's own answers for layer 5: power, Fields, Finite, Parts of any bits. -/
import Derived.Test.YtknkakkdhihngaaFltB
namespace Go.Proofs.Ytknkakkdhihngaa
open Go.RowKit

set_option maxHeartbeats 1000000 in
theorem power_any (n p : Nat) (hn : n < 64) (hp : 2 ^ n = p) (w : World) :
    Calls Try.prog 49 #[.int .i64 (n : Int)] w fun e w' => e = .returned (.int .u64 (p : Int)) ∧ w = w' := by
  have HP := Lib.hid hp
  clear hp
  go_enter Try.func49, Try.ntmps49
  go_wp2
  go_loopw [3, 4] (fun s i wr => ∃ k q : Nat, k ≤ n ∧ s = .int .u64 (q : Int) ∧ i = .int .i64 (k : Int) ∧ q ≤ 9223372036854775808 ∧ Hid (q = 2 ^ k) ∧ w = wr) (fun _ i _ => n - (intOf i).toNat)
  case atStart => exact ⟨0, 1, Nat.zero_le _, rfl, rfl, by omega, Lib.hid rfl, rfl⟩
  case round =>
    obtain ⟨k, q, hk, rfl, rfl, hq, hq2, rfl⟩ := hrel
    by_cases hlt : k < n
    · have hltz : (k : Int) < n := by omega
      have h1 : 2 ^ (k + 1) ≤ 2 ^ 63 := Nat.pow_le_pow_right (by omega) (by omega)
      have h2 : 2 * q = 2 ^ (k + 1) := by rw [hq2.out, Nat.pow_succ, Nat.mul_comm]
      have h3 : 2 * q ≤ 9223372036854775808 := by rw [h2]; exact h1
      have HQ := Lib.hid h2
      clear h1 h2
      go_wp2
      go_roundw
      case rel => exact ⟨k + 1, 2 * q, by omega, by go_num, by go_num, h3, HQ, by first | rfl | trivial⟩
      case measure => simp [intOf]; omega
    · obtain rfl : k = n := by omega
      have hqp : Hid (q = p) := Lib.hid (by rw [hq2.out, HP.out])
      go_wp2
      go_ret
      exact ⟨by rw [← hqp.out]; rfl, rfl⟩
theorem power52 (w : World) : Calls Try.prog 49 #[.int .i64 52] w fun e w' => e = .returned (.int .u64 4503599627370496) ∧ w = w' :=
  power_any 52 4503599627370496 (by omega) (by decide) w
theorem power63 (w : World) : Calls Try.prog 49 #[.int .i64 63] w fun e w' => e = .returned (.int .u64 9223372036854775808) ∧ w = w' :=
  power_any 63 9223372036854775808 (by omega) (by decide) w
set_option maxHeartbeats 1000000 in
theorem fields_any (b E F : Nat) (s : Bool) (hb : b < 18446744073709551616) (hE : fE b = E) (hF : fF b = F) (hs : fS b = s) (w : World) :
    Calls Try.prog 44 #[.int .u64 (b : Int)] w fun e w' => e = .returned (.tuple #[.bool s, .int .i64 (E : Int), .int .u64 (F : Int)]) ∧ ∃ n, w' = w.drewN n := by
  have H1 := Lib.hid power52
  have H2 := Lib.hid power63
  have HE : Hid ((b : Int) / 4503599627370496 % 2048 = (E : Int)) := Lib.hid (by rw [← hE]; unfold fE P52; omega)
  have HF : Hid ((b : Int) % 4503599627370496 = (F : Int)) := Lib.hid (by rw [← hF]; unfold fF P52; omega)
  have HS : Hid (decide ((9223372036854775808 : Int) ≤ b) = s) := Lib.hid (by rw [← hs]; unfold fS P63; rw [decide_eq_decide]; omega)
  have h0 := fE_lt b
  rw [hE] at h0
  clear hE hF hs
  go_enter Try.func44, Try.ntmps44
  go_wp2_with fail
  go_quiet (first
    | (go_at_call 49; with_reducible exact quiet_one (H2.out _))
    | (go_at_call 49; with_reducible exact quiet_more (H2.out _))
    | (go_at_call 49; with_reducible exact quiet_one (H1.out _))
    | (go_at_call 49; with_reducible exact quiet_more (H1.out _)))
  rw [HE.out, HF.out, HS.out]
  go_wp2
  go_ret3
  exact ⟨rfl, nq, rfl⟩
theorem refFinite_any (b : Nat) (f : Bool) (hb : b < 18446744073709551616) (hf : fin b = f) (w : World) :
    Calls Try.prog 29 #[.int .u64 (b : Int)] w fun e w' => e = .returned (.bool f) ∧ ∃ n, w' = w.drewN n := by
  obtain ⟨E, hE⟩ : ∃ E, fE b = E := ⟨_, rfl⟩
  obtain ⟨F, hF⟩ : ∃ F, fF b = F := ⟨_, rfl⟩
  obtain ⟨s, hs⟩ : ∃ s, fS b = s := ⟨_, rfl⟩
  have H := Lib.hid (fields_any b E F s hb hE hF hs w)
  unfold fin at hf
  rw [hE] at hf
  have HF := Lib.hid hf
  clear hE hF hs hf
  go_enter Try.func29, Try.ntmps29
  go_wp2_with (go_at_call 44; with_reducible refine (H.out).mono ?_; rintro e w' ⟨rfl, n, rfl⟩)
  go_ret
  refine ⟨?_, _, rfl⟩
  rw [← HF.out]
  by_cases h : E = 2047
  · subst h; rfl
  · simp [h]; omega
theorem refParts_zero (b : Nat) (hb : b < 18446744073709551616) (hf : fM b = 0) (w : World) :
    Calls Try.prog 33 #[.int .u64 (b : Int)] w fun e w' => e = .returned (.tuple #[.bool false, .int .u64 0, .int .i64 0]) ∧ Below w.heap.size w w' := by
  have h0 : fE b = 0 ∧ fF b = 0 := by
    unfold fM at hf
    split at hf
    · exact ⟨by assumption, hf⟩
    · unfold P52 at hf; omega
  obtain ⟨s, hs⟩ : ∃ s, fS b = s := ⟨_, rfl⟩
  have H := Lib.hid (fields_any b 0 0 s hb h0.1 h0.2 hs w)
  clear hf h0 hs
  go_enter Try.func33, Try.ntmps33
  go_wp2_with (go_at_call 44; with_reducible refine (H.out).mono ?_; rintro e w' ⟨rfl, n, rfl⟩)
  all_goals go_ret3
  all_goals exact ⟨rfl, below_drewN (Below.refl _ _) _⟩
theorem half_odd {z m t : Nat} (hz : z = m * 2 ^ t) (hm : m % 2 = 1) : (z % 2 = 0 → 0 < t ∧ z / 2 = m * 2 ^ (t - 1)) ∧ (¬ z % 2 = 0 → t = 0 ∧ z = m) := by
  cases t with
  | zero => rw [Nat.pow_zero, Nat.mul_one] at hz; exact ⟨fun h => by omega, fun _ => ⟨rfl, hz⟩⟩
  | succ t =>
    rw [Nat.pow_succ, ← Nat.mul_assoc] at hz
    exact ⟨fun _ => ⟨by omega, by rw [Nat.add_sub_cancel]; omega⟩, fun h => by omega⟩
set_option maxHeartbeats 2000000 in
theorem refParts_any (b m t : Nat) (s : Bool) (x : Int) (hb : b < 18446744073709551616) (h : fM b = m * 2 ^ t) (hm : m % 2 = 1) (hs : fS b = s) (hx : (fX b : Int) - 1074 + t = x) (w : World) :
    Calls Try.prog 33 #[.int .u64 (b : Int)] w fun e w' => e = .returned (.tuple #[.bool s, .int .u64 (m : Int), .int .i64 x]) ∧ Below w.heap.size w w' := by
  obtain ⟨E, hE⟩ : ∃ E, fE b = E := ⟨_, rfl⟩
  obtain ⟨F, hF⟩ : ∃ F, fF b = F := ⟨_, rfl⟩
  have H := Lib.hid (fields_any b E F s hb hE hF hs w)
  have HP := Lib.hid power52
  have fl := fF_lt b
  have el := fE_lt b
  have ht := (odd_small h hm (fM_lt b)).2
  have hM0 : 0 < fM b := by rw [h]; exact Nat.mul_pos (by omega) (Nat.pow_pos (by omega))
  unfold fX at hx
  unfold fM at h hM0
  rw [hE] at hx el h hM0
  rw [hF] at fl h hM0
  unfold P52 at fl
  have HM := Lib.hid hm
  by_cases h0 : E = 0
  · subst h0
    rw [if_pos rfl] at h hM0
    have hx2 : (-1074 : Int) + t = x := by omega
    have HX := Lib.hid h
    have nz : ¬ (F : Int) = 0 := by omega
    have fl2 : F < 9007199254740992 := by omega
    clear hE hF hs h hx fl hm
    go_enter Try.func33, Try.ntmps33
    go_wp2_with (go_at_call 44; with_reducible refine (H.out).mono ?_; rintro e w' ⟨rfl, n, rfl⟩)
    have hW : Below w.heap.size w (w.drewN n) := below_drewN (Below.refl _ _) n
    obtain ⟨W, hWe⟩ : ∃ W, W = w.drewN n := ⟨_, rfl⟩
    rw [← hWe] at hW ⊢
    clear hWe
    go_loopw [6, 7] (fun e z wr => ∃ k Z : Nat, k ≤ t ∧ e = .int .i64 (x - k) ∧ z = .int .u64 (Z : Int) ∧ Z < 9007199254740992 ∧ Hid (Z = m * 2 ^ k) ∧ Below w.heap.size w wr) (fun e _ _ => (x - intOf e).toNat)
    case atStart => exact ⟨t, F, Nat.le_refl _, by go_num, rfl, fl2, HX, hW⟩
    case round =>
      obtain ⟨k, Z, hk, rfl, rfl, hZ, hZ2, hW⟩ := hrel
      by_cases hz : Z % 2 = 0
      · obtain ⟨hk0, hh⟩ := (half_odd hZ2.out HM.out).1 hz
        have hzz : (Z : Int) % 2 = 0 := by omega
        obtain ⟨Y, hY⟩ : ∃ Y, Y = Z / 2 := ⟨_, rfl⟩
        have hYz : (Z : Int) / 2 = (Y : Int) := by omega
        have hYl : Y < 9007199254740992 := by omega
        rw [← hY] at hh
        have HH := Lib.hid hh
        clear hh hY hz hZ2
        go_wp2
        go_roundw
        case rel => exact ⟨k - 1, Y, by omega, by go_num, by go_num, hYl, HH, hW⟩
        case measure => simp [intOf]; omega
      · obtain ⟨hk0, hh⟩ := (half_odd hZ2.out HM.out).2 hz
        subst hk0 hh
        have hzz : ¬ (Z : Int) % 2 = 0 := by omega
        clear hz hZ2
        go_wp2
        go_ret3
        exact ⟨by rw [show x - ((0 : Nat) : Int) = x by omega]; rfl, hW⟩
  · rw [if_neg h0] at h hM0
    have hx2 : (E : Int) - 1075 + t = x := by omega
    have HX := Lib.hid h
    have fl2 : F + P52 < 9007199254740992 := by unfold P52; omega
    have nz : ¬ (E : Int) = 0 := by omega
    have mz : (F : Int) + 4503599627370496 = ((F + P52 : Nat) : Int) := by unfold P52; omega
    have nz2 : ¬ ((F + P52 : Nat) : Int) = 0 := by omega
    obtain ⟨M, hM⟩ : ∃ M, M = F + P52 := ⟨_, rfl⟩
    rw [← hM] at fl2 mz nz2 HX
    clear hE hF hs h hx hm hM hM0 h0
    go_enter Try.func33, Try.ntmps33
    go_wp2_with (first
      | (go_at_call 44; with_reducible refine (H.out).mono ?_; rintro e w' ⟨rfl, n, rfl⟩)
      | (go_at_call 49; with_reducible refine (HP.out _).mono ?_; rintro e w' ⟨rfl, rfl⟩))
    have hW : Below w.heap.size w (w.drewN n) := below_drewN (Below.refl _ _) n
    obtain ⟨W, hWe⟩ : ∃ W, W = w.drewN n := ⟨_, rfl⟩
    rw [← hWe] at hW ⊢
    clear hWe
    go_loopw [6, 7] (fun e z wr => ∃ k Z : Nat, k ≤ t ∧ e = .int .i64 (x - k) ∧ z = .int .u64 (Z : Int) ∧ Z < 9007199254740992 ∧ Hid (Z = m * 2 ^ k) ∧ Below w.heap.size w wr) (fun e _ _ => (x - intOf e).toNat)
    case atStart => exact ⟨t, M, Nat.le_refl _, by go_num, rfl, fl2, HX, hW⟩
    case round =>
      obtain ⟨k, Z, hk, rfl, rfl, hZ, hZ2, hW⟩ := hrel
      by_cases hz : Z % 2 = 0
      · obtain ⟨hk0, hh⟩ := (half_odd hZ2.out HM.out).1 hz
        have hzz : (Z : Int) % 2 = 0 := by omega
        obtain ⟨Y, hY⟩ : ∃ Y, Y = Z / 2 := ⟨_, rfl⟩
        have hYz : (Z : Int) / 2 = (Y : Int) := by omega
        have hYl : Y < 9007199254740992 := by omega
        rw [← hY] at hh
        have HH := Lib.hid hh
        clear hh hY hz hZ2
        go_wp2
        go_roundw
        case rel => exact ⟨k - 1, Y, by omega, by go_num, by go_num, hYl, HH, hW⟩
        case measure => simp [intOf]; omega
      · obtain ⟨hk0, hh⟩ := (half_odd hZ2.out HM.out).2 hz
        subst hk0 hh
        have hzz : ¬ (Z : Int) % 2 = 0 := by omega
        clear hz hZ2
        go_wp2
        go_ret3
        exact ⟨by rw [show x - ((0 : Nat) : Int) = x by omega]; rfl, hW⟩
end Go.Proofs.Ytknkakkdhihngaa
