/- Layer 3 (split): Text of any whole number, 0 too. -/
import Derived.Test.YtndcaajebomkhaaGreatDoorTextC
import Derived.Test.YtndcaajebomkhaaGreatDoorInt
namespace Go.Proofs.YtndcaajebomkhaaGreatDoor
open Go.RowKit

set_option maxRecDepth 100000 in
set_option maxHeartbeats 1000000 in
theorem text_zero (neg : Bool) (p0 : Option Addr) (l0 c0 : Nat) (xs : List Nat) (w : World) (h1 : l0 ≤ c0) (k1 : l0 ≤ 1024) (r1 : Rd .u64 W64 w.heap.size w p0 l0 xs) (hx0 : val W64 xs = 0) :
    Calls Tryz.prog 7 #[.agg #[.bool neg, .slice p0 l0 c0]] w fun e w' => e = .returned (.tuple #[.string ⟨#[48]⟩, .nilIface]) ∧ Below w.heap.size w w' := by
  have HX := Lib.hid hx0
  clear hx0
  go_enter Tryz.func7, Tryz.ntmps7
  go_wp2_with fail
  have hal : Below w.heap.size w (w.alloc (.cells #[.bool neg, .slice p0 l0 c0] 24)) := (Below.refl _ _).alloc (Nat.le_refl _) _
  have hc0 := cell_new2 w (.bool neg) (.slice p0 l0 c0) 24
  refine (cutUp_any p0 l0 c0 xs _ h1 k1 (r1.next hal) (Nat.le_refl _)).mono ?_
  rw [HX.out, digs_zero]
  rintro e W1 ⟨q, m, c, rfl, hmc, hq, hR, hm11, hb⟩
  obtain rfl : 0 = m := hR.count
  have hW := below_next hal hb
  clear hal hb r1 hR hc0
  go_wp2
  go_ret2
  exact ⟨rfl, hW⟩
theorem text_any (neg : Bool) (p0 : Option Addr) (l0 c0 : Nat) (xs : List Nat) (w : World) (h1 : l0 ≤ c0) (k1 : l0 ≤ 1024) (r1 : Rd .u64 W64 w.heap.size w p0 l0 xs) (htab : PowVar w) {z : Int} (hz : wv neg (val W64 xs) = z) :
    Calls Tryz.prog 7 #[.agg #[.bool neg, .slice p0 l0 c0]] w fun e w' => e = .returned (.tuple #[.string ⟨(textB z).toArray⟩, .nilIface]) ∧ Below w.heap.size w w' := by
  subst hz
  by_cases h : val W64 xs = 0
  · have e : textB (wv neg (val W64 xs)) = [48] := by
      rw [h]
      have : wv neg 0 = 0 := by cases neg <;> rfl
      rw [this]
      unfold textB
      rw [show (0 : Int).natAbs = 0 from rfl, dec_small (by omega)]
      rfl
    rw [e]
    exact text_zero neg p0 l0 c0 xs w h1 k1 r1 h
  · have e : textB (wv neg (val W64 xs)) = (if neg then [45] else []) ++ Lib.decDigits (val W64 xs) := by
      unfold textB
      have h2 := wv_neg neg (val W64 xs)
      rw [decide_eq_true (show 0 < val W64 xs by omega), Bool.and_true] at h2
      rw [wv_abs]
      cases neg with
      | true => rw [if_pos (of_decide_eq_true h2)]; rfl
      | false => rw [if_neg (of_decide_eq_false h2)]; rfl
    rw [e]
    exact text_many neg p0 l0 c0 xs w h1 k1 r1 (by omega) htab
end Go.Proofs.YtndcaajebomkhaaGreatDoor
