/- The statements of layer 1 first ask for answers that the document fixes: they are given. -/
import Derived.Test.YtafmoonfnkcpoaaDoorRefC
import Derived.Test.YtafmoonfnkcpoaaDoorErr
namespace Go.Proofs.YtafmoonfnkcpoaaDoor
open Go.RowKit

theorem digs_W64 : digs W64 W64 = [0, 1] := by
  have h1 := two_le_W64
  rw [digs_pos h1 W64_pos, Nat.mod_self, Nat.div_self W64_pos, digs_pos h1 (by omega), Nat.mod_eq_of_lt (by omega), Nat.div_eq_of_lt (by omega), digs_zero]
theorem val_ones : val W64 [W64 - 1] + val W64 [1, 0] = W64 := by
  have := two_le_W64
  simp only [val_cons, val_nil]
  omega
theorem val_one : val W64 [1] = 1 := by simp [val_cons, val_nil]
theorem nbits_W64 : nbits (val W64 [0, 1]) = 65 := by
  rw [show val W64 [0, 1] = W64 by simp [val_cons, val_nil], W64_pow]
  exact nbits_of (k := 64) (Nat.le_refl _) (by rw [Nat.pow_succ]; have : 0 < 2 ^ 64 := Nat.pow_pos (by omega); omega)

set_option maxHeartbeats 1000000 in
theorem awake_any (w : World) : Calls Tryd.prog 5 #[] w fun e w' => e = .returned (.bool true) ∧ Below w.heap.size w w' := by
  have h2 := two_le_W64
  have hlit : ((W64 - 1 : Nat) : Int) = 18446744073709551615 := by unfold W64; rfl
  have HL := Lib.hid hlit
  have H2 := Lib.hid h2
  clear hlit h2
  go_enter Tryd.func5, Tryd.ntmps5
  go_wp2_with fail
  refine (natAdd_any (B1 := w.heap.size + 2) (B2 := w.heap.size + 2) _ _ 1 2 1 2 [W64 - 1] [1, 0] _ (by omega) (by omega) (by omega) (by omega)
    ⟨rfl, fun i hi => ?_, fun i hi => ?_⟩ ⟨rfl, fun i hi => ?_, fun i hi => ?_⟩ (by simp) (by simp)).mono ?_
  · obtain rfl : i = 0 := by omega
    rw [nth_cons_zero]; have := H2.out; omega
  · obtain rfl : i = 0 := by omega
    exact ⟨_, _, rfl, by simp, by rw [nth_cons_zero, HL.out]; simp [go_sem, World.cell?_alloc_past]⟩
  · have := H2.out
    match i, hi with
    | 0, _ => rw [nth_cons_zero]; omega
    | 1, _ => rw [nth_cons_succ, nth_cons_zero]; omega
  · match i, hi with
    | 0, _ => exact ⟨_, _, rfl, by simp, by rw [nth_cons_zero]; simp [go_sem, World.cell?_alloc_past]⟩
    | 1, _ => exact ⟨_, _, rfl, by simp, by rw [nth_cons_succ, nth_cons_zero]; simp [go_sem, World.cell?_alloc_past]⟩
  rw [val_ones]
  rintro e w1 ⟨q, m, c, rfl, hmc, hq, hR, hb⟩
  rw [digs_W64] at hR
  obtain rfl : 2 = m := hR.count
  have hb1 : Below w.heap.size w w1 := (((Below.refl _ _).alloc (Nat.le_refl _) _).alloc (by simp) _).trans (hb.mono (by simp; omega))
  clear hb
  go_wp2_with fail
  refine (natSub_below (B1 := 0) (B2 := w1.heap.size + 1) _ _ 0 1 0 1 [] [1] _ (by omega) (by omega) (by omega) (by omega) (Rd.nil _ _ _ _ _) ⟨rfl, fun i hi => ?_, fun i hi => ?_⟩ (by rw [val_nil, val_one]; omega)).mono ?_
  · obtain rfl : i = 0 := by omega
    rw [nth_cons_zero]; have := H2.out; omega
  · obtain rfl : i = 0 := by omega
    exact ⟨_, _, rfl, by simp, by rw [nth_cons_zero]; simp [go_sem]⟩
  rintro e w2 ⟨rfl, hb2⟩
  have hb3 : Below w1.heap.size w1 w2 := ((Below.refl _ _).alloc (Nat.le_refl _) _).trans (hb2.mono (by simp))
  have hR2 := hR.below hb3
  have hbel : Below w.heap.size w w2 := hb1.trans (hb3.mono hb1.size)
  obtain ⟨b, off, rfl, _, hc0⟩ := hR2.cell 0 (by omega)
  have hc1 := (hR2.at 1 (by omega)).2
  rw [nth_cons_zero] at hc0
  rw [nth_cons_succ, nth_cons_zero] at hc1
  have hc0' : w2.cell? ⟨b, off, none⟩ = some (.int .u64 0) := hc0
  have hc1' : w2.cell? ⟨b, off + 1, none⟩ = some (.int .u64 1) := hc1
  have HN := Lib.hid nbits_W64
  clear hc0 hc1 hR hb2 hb3 hb1
  go_wp2_with (first
    | (go_at_call 23; refine (is_code _ _).mono ?_; rintro e w' ⟨rfl, rfl⟩)
    | (go_at_call 12; refine (natLen_any _ 2 c [0, 1] _ (by omega) (by omega) hR2).mono ?_; rw [HN.out]; rintro e w' ⟨rfl, rfl⟩))
  go_ret
  exact ⟨rfl, hbel⟩
end Go.Proofs.YtafmoonfnkcpoaaDoor
