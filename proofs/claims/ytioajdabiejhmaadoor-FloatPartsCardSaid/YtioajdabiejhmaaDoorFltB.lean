/- Layer 5 (float): Parts of any bits. -/
import Derived.Test.YtioajdabiejhmaaDoorFltA
import Derived.Test.YtioajdabiejhmaaDoorTab
namespace Go.Proofs.YtioajdabiejhmaaDoor
open Go.RowKit

theorem results_tmp4 {fn : Func} {t u v x : Tmp} (h : fn.results = #[.tmp t, .tmp u, .tmp v, .tmp x]) (tmps : Array Value) (P : Program) (w : World) :
    (results fn tmps).run P w = .ok (.tuple #[tmps.getD t undef, tmps.getD u undef, tmps.getD v undef, tmps.getD x undef]) w := by
  simp [results, h]
theorem fin_no {b E : Nat} (hE : fE b = E) (h : fin b = false) : E = 2047 := by
  unfold fin at h; rw [hE] at h; simpa using h
theorem fin_yes {b E : Nat} (hE : fE b = E) (h : fin b = true) : E ≠ 2047 := by
  unfold fin at h; rw [hE] at h; simpa using h

theorem floatParts_none (b : Nat) (hb : b < 18446744073709551616) (hf : fin b = false) (w : World) :
    Calls Tryd.prog 7 #[.int .u64 (b : Int)] w fun e w' => e = .returned (.tuple #[.bool false, .int .u64 0, .int .i64 0, .iface 43 (.int .i64 1)]) ∧ Below w.heap.size w w' := by
  obtain ⟨E, hE⟩ : ∃ E, fE b = E := ⟨_, rfl⟩
  have H := Lib.hid (fun w => high_any b E hb hE w)
  have e1 := and_low b hb
  obtain ⟨F, hF⟩ : ∃ F, fF b = F := ⟨_, rfl⟩
  rw [hF] at e1
  obtain rfl := fin_no hE hf
  clear hE hF hf
  go_enter Tryd.func7, Tryd.ntmps7
  go_wp2_with (go_at_call 16; with_reducible refine (H.out _).mono ?_; rintro e w' ⟨rfl, rfl⟩)
  all_goals (try simp only [Exit.inBlock, Exit.then])
  all_goals refine bodyPost_ret (results_tmp4 rfl _ _ _) rfl ?_
  all_goals exact ⟨rfl, Below.refl _ _⟩
theorem floatParts_zero (b : Nat) (hb : b < 18446744073709551616) (hf : fM b = 0) (w : World) :
    Calls Tryd.prog 7 #[.int .u64 (b : Int)] w fun e w' => e = .returned (.tuple #[.bool false, .int .u64 0, .int .i64 0, .nilIface]) ∧ Below w.heap.size w w' := by
  have h0 : fE b = 0 ∧ fF b = 0 := by
    unfold fM at hf
    split at hf
    · exact ⟨by assumption, hf⟩
    · unfold P52 at hf; omega
  have H := Lib.hid (fun w => high_any b 0 hb h0.1 w)
  have e1 := and_low b hb
  rw [h0.2] at e1
  clear hf h0
  go_enter Tryd.func7, Tryd.ntmps7
  go_wp2_with (go_at_call 16; with_reducible refine (H.out _).mono ?_; rintro e w' ⟨rfl, rfl⟩)
  all_goals (try simp only [Exit.inBlock, Exit.then])
  all_goals refine bodyPost_ret (results_tmp4 rfl _ _ _) rfl ?_
  all_goals exact ⟨rfl, Below.refl _ _⟩
theorem twos_of {M m t : Nat} (h : M = m * 2 ^ t) (hm : m % 2 = 1) (hM : M < 2 * P52) (w : World) (hT : TabVar w) :
    Calls Tryd.prog 17 #[.int .u64 (M : Int)] w fun e w' => e = .returned (.int .i64 (t : Int)) ∧ w = w' := by
  unfold P52 at hM
  have h0 : 0 < M := by rw [h]; exact Nat.mul_pos (by omega) (Nat.pow_pos (by omega))
  obtain ⟨k, hk, hc64⟩ := Lib.ctzFrom_spec 64 M h0 (by omega)
  have hcz : Lib.ctz 64 M = Lib.ctzFrom 64 M := if_neg (by omega)
  rw [← hcz, Nat.mul_comm] at hk
  have := (odd_part_one (hk.symm.trans h) (by omega) hm).2
  rw [← this]
  exact (bits_TrailingZeros64 M (by omega) w hT).mono fun e w' ⟨h1, h2⟩ => ⟨h1, h2.symm⟩
theorem shr_odd {M m t : Nat} (h : M = m * 2 ^ t) : ((M : Nat) : Int) / 2 ^ t = (m : Int) := by
  have h1 : M / 2 ^ t = m := by rw [h]; exact Nat.mul_div_cancel _ (Nat.pow_pos (by omega))
  rw [← h1]; simp
set_option maxHeartbeats 2000000 in
theorem floatParts_any (b m t : Nat) (s : Bool) (x : Int) (hb : b < 18446744073709551616) (hf : fin b = true) (h : fM b = m * 2 ^ t) (hm : m % 2 = 1) (hs : fS b = s) (hx : (fX b : Int) - 1074 + t = x) (w : World) (hT : TabVar w) :
    Calls Tryd.prog 7 #[.int .u64 (b : Int)] w fun e w' => e = .returned (.tuple #[.bool s, .int .u64 (m : Int), .int .i64 x, .nilIface]) ∧ Below w.heap.size w w' := by
  obtain ⟨E, hE⟩ : ∃ E, fE b = E := ⟨_, rfl⟩
  have H := Lib.hid (fun w => high_any b E hb hE w)
  have HB := Lib.hid (fun w => below_any b s hb hs w)
  have e1 := and_low b hb
  have fl := fF_lt b
  have el := fE_lt b
  have ne := fin_yes hE hf
  have hM := fM_lt b
  have HT := Lib.hid (twos_of h hm hM w hT)
  have hsh := shr_odd h
  have ht := (odd_small h hm hM).2
  have hM0 : 0 < fM b := by rw [h]; exact Nat.mul_pos (by omega) (Nat.pow_pos (by omega))
  obtain ⟨F, hF⟩ : ∃ F, fF b = F := ⟨_, rfl⟩
  unfold fM at HT hsh hM hM0
  unfold fX at hx
  rw [hE] at hx HT hsh el hM hM0
  rw [hF] at e1 fl HT hsh hM hM0
  have hm64 : m < 18446744073709551616 := by have := (odd_small h hm (fM_lt b)).1; unfold P52 at this; omega
  by_cases h0 : E = 0
  · subst h0
    rw [if_pos rfl] at HT hsh hM hM0
    have hx2 : (-1074 : Int) + t = x := by omega
    have nz : ¬ (F : Int) = 0 := by omega
    unfold P52 at fl
    clear hE hF hs hf h hx hT
    go_enter Tryd.func7, Tryd.ntmps7
    go_wp2_with (first
      | (go_at_call 16; with_reducible refine (H.out _).mono ?_; rintro e w' ⟨rfl, rfl⟩)
      | (go_at_call 17; with_reducible refine (HT.out).mono ?_; rintro e w' ⟨rfl, rfl⟩)
      | (go_at_call 18; with_reducible refine (HB.out _).mono ?_; rintro e w' ⟨rfl, rfl⟩))
    go_quiet (first
      | (go_at_call 18; exact quiet_one (HB.out _))
      | (go_at_call 18; exact quiet_more (HB.out _)))
    go_wp2
    (try simp only [Exit.inBlock, Exit.then])
    refine bodyPost_ret (results_tmp4 rfl _ _ _) rfl ?_
    exact ⟨rfl, below_drewN (Below.refl _ _) _⟩
  · rw [if_neg h0] at HT hsh hM hM0
    have e2 := or_low F fl
    have hx2 : (E : Int) - 1 + -1074 + t = x := by omega
    obtain ⟨M, hM1⟩ : ∃ M, M = F + P52 := ⟨_, rfl⟩
    rw [← hM1] at HT hsh e2 hM
    unfold P52 at hM fl
    clear hE hF hs hf h hx hT hM1
    go_enter Tryd.func7, Tryd.ntmps7
    go_wp2_with (first
      | (go_at_call 16; with_reducible refine (H.out _).mono ?_; rintro e w' ⟨rfl, rfl⟩)
      | (go_at_call 17; with_reducible refine (HT.out).mono ?_; rintro e w' ⟨rfl, rfl⟩)
      | (go_at_call 18; with_reducible refine (HB.out _).mono ?_; rintro e w' ⟨rfl, rfl⟩))
    go_quiet (first
      | (go_at_call 18; exact quiet_one (HB.out _))
      | (go_at_call 18; exact quiet_more (HB.out _)))
    go_wp2
    (try simp only [Exit.inBlock, Exit.then])
    refine bodyPost_ret (results_tmp4 rfl _ _ _) rfl ?_
    exact ⟨rfl, below_drewN (Below.refl _ _) _⟩
end Go.Proofs.YtioajdabiejhmaaDoor
