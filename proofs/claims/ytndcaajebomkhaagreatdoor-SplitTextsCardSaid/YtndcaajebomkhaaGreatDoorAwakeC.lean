/- The statements of layer 3 first ask for answers that the document fixes: they are given. -/
import Derived.Test.YtndcaajebomkhaaGreatDoorSplitE
import Derived.Test.YtndcaajebomkhaaGreatDoorTextB
namespace Go.Proofs.YtndcaajebomkhaaGreatDoor
open Go.RowKit

theorem digs_lone {v : Nat} (h0 : 0 < v) (h : v < W64) : digs W64 v = [v] := by
  rw [digs_pos two_le_W64 h0, Nat.mod_eq_of_lt h, Nat.div_eq_of_lt h, digs_zero]
theorem dec120 : Lib.decDigits 120 = [49, 50, 48] := by
  rw [Lib.decDigits, dif_neg (by omega), show 120 / 10 = 12 from rfl, Lib.decDigits, dif_neg (by omega), show 12 / 10 = 1 from rfl, Lib.decDigits, dif_pos (by omega)]
  decide
/-- Two literals, one behind the other. -/
structure Lits (w W : World) (p q : Option Addr) (a b : Nat) : Prop where
  r1 : Rd .u64 W64 W.heap.size W p 1 [a]
  r2 : Rd .u64 W64 W.heap.size W q 1 [b]
  b : Below w.heap.size w W
theorem lits (w : World) (a b : Nat) (x y : Int) (ha : a < W64) (hb : b < W64) (hx : x = (a : Int)) (hy : y = (b : Int)) :
    Lits w ((w.alloc (.cells #[.int .u64 x] 53)).alloc (.cells #[.int .u64 y] 53)) (some ⟨w.heap.size, 0, none⟩) (some ⟨w.heap.size + 1, 0, none⟩) a b := by
  have h1 := single_rd (W := w) (k := .u64) (β := W64) (T := 53) ha hx
  have h2 := single_rd (W := w.alloc (.cells #[.int .u64 x] 53)) (k := .u64) (β := W64) (T := 53) hb hy
  have hs : (w.alloc (.cells #[.int .u64 x] 53)).heap.size = w.heap.size + 1 := by simp
  rw [hs] at h2
  have hal : Below (w.heap.size + 1) (w.alloc (.cells #[.int .u64 x] 53)) ((w.alloc (.cells #[.int .u64 x] 53)).alloc (.cells #[.int .u64 y] 53)) := (Below.refl _ _).alloc (by simp) _
  exact ⟨(h1.below hal).mono (by simp), h2.mono (by simp), ((Below.refl _ _).alloc (Nat.le_refl _) _).alloc (by simp) _⟩

set_option maxRecDepth 100000 in
set_option maxHeartbeats 4000000 in
theorem awakeC_any (w : World) (hT : TabVar w) (hP : PowVar w) : Calls Tryz.prog 5 #[] w fun e w' => e = .returned (.bool true) ∧ Below w.heap.size w w' := by
  have hw := two_le_W64
  have HW : Hid (120 < W64) := Lib.hid (by unfold W64; omega)
  go_enter Tryz.func5, Tryz.ntmps5
  go_wp2_with fail
  have hl := lits w 17 5 17 5 (by have := HW.out; omega) (by have := HW.out; omega) rfl rfl
  obtain ⟨W1, hW1⟩ : ∃ W1, W1 = (w.alloc (.cells #[.int .u64 17] 53)).alloc (.cells #[.int .u64 5] 53) := ⟨_, rfl⟩
  rw [← hW1] at hl ⊢
  clear hW1
  refine (splitQuo_any _ _ 1 1 1 1 [17] [5] W1 (Nat.le_refl _) (Nat.le_refl _) (by omega) (by omega) hl.r1 hl.r2 (Nat.le_refl _) (Nat.le_refl _) (by rw [val_single]; omega)).mono ?_
  rw [val_single, val_single]
  rintro e W2 ⟨q1, m1, c1, q2, m2, c2, rfl, hm1, _, hR1, hm2, _, hR2, hb⟩
  rw [show 17 / 5 = 3 from rfl, digs_lone (by omega) (by have := HW.out; omega)] at hR1
  rw [show 17 % 5 = 2 from rfl, digs_lone (by omega) (by have := HW.out; omega)] at hR2
  obtain rfl : 1 = m1 := hR1.count
  obtain rfl : 1 = m2 := hR2.count
  have hW := below_next hl.b hb
  have hT2 := hT.below hW
  clear hb hl
  go_wp2_with fail
  have hl := lits W2 12 18 12 18 (by have := HW.out; omega) (by have := HW.out; omega) rfl rfl
  obtain ⟨W3, hW3⟩ : ∃ W3, W3 = (W2.alloc (.cells #[.int .u64 12] 53)).alloc (.cells #[.int .u64 18] 53) := ⟨_, rfl⟩
  rw [← hW3] at hl ⊢
  clear hW3
  refine (splitGcd_any _ _ 1 1 1 1 [12] [18] W3 (Nat.le_refl _) (Nat.le_refl _) (by omega) (by omega) hl.r1 hl.r2 (Nat.le_refl _) (Nat.le_refl _) (hT2.below hl.b)).mono ?_
  rw [val_single, val_single]
  rintro e W4 ⟨q3, m3, c3, rfl, hm3, _, hR3, hb⟩
  rw [show Nat.gcd 12 18 = 6 from by decide, digs_lone (by omega) (by have := HW.out; omega)] at hR3
  obtain rfl : 1 = m3 := hR3.count
  have hb' := below_next hl.b hb
  replace hR1 := hR1.next hb'
  replace hR2 := hR2.next hb'
  replace hW := below_next hW hb'
  clear hb hl hb' hT2
  go_wp2_with fail
  have hs1 := single_rd (W := W4) (k := .u64) (β := W64) (T := 53) (x := 120) (z := 120) HW.out rfl
  have hal : Below W4.heap.size W4 (W4.alloc (.cells #[.int .u64 120] 53)) := (Below.refl _ _).alloc (Nat.le_refl _) _
  have hsz : (W4.alloc (.cells #[.int .u64 120] 53)).heap.size = W4.heap.size + 1 := by simp
  obtain ⟨W5, hW5⟩ : ∃ W5, W5 = W4.alloc (.cells #[.int .u64 120] 53) := ⟨_, rfl⟩
  rw [← hW5] at hs1 hal hsz ⊢
  clear hW5
  rw [← hsz] at hs1
  replace hR1 := hR1.next hal
  replace hR2 := hR2.next hal
  replace hR3 := hR3.next hal
  replace hW := below_next hW hal
  refine (text_one true _ 1 1 [120] W5 (Nat.le_refl _) (by omega) hs1 (by rw [val_single]; omega) (by rw [val_single]; unfold P19; omega) (hP.below hW)).mono ?_
  rw [val_single, dec120]
  rintro e W6 ⟨rfl, hb⟩
  replace hR1 := hR1.next hb
  replace hR2 := hR2.next hb
  replace hR3 := hR3.next hb
  replace hW := below_next hW hb
  obtain ⟨b1, o1, rfl, _, hc1⟩ := hR1.cell 0 (by omega)
  obtain ⟨b2, o2, rfl, _, hc2⟩ := hR2.cell 0 (by omega)
  obtain ⟨b3, o3, rfl, _, hc3⟩ := hR3.cell 0 (by omega)
  rw [nth_cons_zero, Nat.add_zero] at hc1 hc2 hc3
  replace hc1 : W6.cell? ⟨b1, o1, none⟩ = some (.int .u64 3) := hc1
  replace hc2 : W6.cell? ⟨b2, o2, none⟩ = some (.int .u64 2) := hc2
  replace hc3 : W6.cell? ⟨b3, o3, none⟩ = some (.int .u64 6) := hc3
  rw [show (⟨((if true = true then [45] else []) ++ [49, 50, 48] : List UInt8).toArray⟩ : ByteArray) = ⟨#[45, 49, 50, 48]⟩ from rfl]
  clear hR1 hR2 hR3 hb hal hs1
  go_wp2
  go_ret
  exact ⟨rfl, hW⟩
end Go.Proofs.YtndcaajebomkhaaGreatDoor
