/- Layer 3 (split): Text of a whole number of one part. -/
import Derived.Test.YtndcaajebomkhaaGreatDoorTextA
import Derived.Test.YtndcaajebomkhaaGreatDoorBld
import Derived.Deep.Cut
import Derived.OneCell
import Derived.Laws.Rows
namespace Go.Proofs.YtndcaajebomkhaaGreatDoor
open Go.RowKit

theorem cell_new2 (w : World) (u v : Value) (t : TypeId) : (w.alloc (.cells #[u, v] t)).cell? ⟨w.heap.size, 0, none⟩ = some u := by
  rw [World.cell?_alloc_at _ _ _ _ rfl]; rfl
theorem bld_new (w : World) : Bld (w.alloc (.cells #[.pointer none, .slice none 0 0] 62)) w.heap.size w.heap.size [] :=
  Or.inl ⟨Nat.le_refl _, _, heap_alloc_new w _, World.ownsRow_nil _ _ _ _, by simp [Value.ownBlock]⟩
theorem bld_next {w w' : World} {B b : Nat} {l : List UInt8} (h : Bld w B b l) (hb : Below w.heap.size w w') : Bld w' B b l := by
  rcases h with ⟨h1, v, h2, h3, h4⟩ | ⟨h1, v, h2, h3, h4⟩
  · exact Or.inl ⟨h1, v, by rw [hb.block b (lt_of_block h2)]; exact h2, owns_below h3 hb (Nat.le_refl _), h4⟩
  · exact Or.inr ⟨h1, v, by rw [hb.block b (lt_of_block h2)]; exact h2, owns_below h3 hb (Nat.le_refl _), h4⟩

set_option maxRecDepth 100000 in
set_option maxHeartbeats 4000000 in
/-- Text of a number above 0, and below 10^19, with its sign. -/
theorem text_one (neg : Bool) (p0 : Option Addr) (l0 c0 : Nat) (xs : List Nat) (w : World) (h1 : l0 ≤ c0) (k1 : l0 ≤ 1024) (r1 : Rd .u64 W64 w.heap.size w p0 l0 xs) (hx0 : 0 < val W64 xs) (hx1 : val W64 xs < P19) (htab : PowVar w) :
    Calls Tryz.prog 7 #[.agg #[.bool neg, .slice p0 l0 c0]] w fun e w' => e = .returned (.tuple #[.string ⟨((if neg then [45] else []) ++ Lib.decDigits (val W64 xs)).toArray⟩, .nilIface]) ∧ Below w.heap.size w w' := by
  obtain ⟨x, hx⟩ : ∃ x, x = val W64 xs := ⟨_, rfl⟩
  rw [← hx] at hx0 hx1 ⊢
  have HX := Lib.hid hx
  have hd : digs P19 x = [x] := by rw [digs_pos two_le_P19 hx0, Nat.mod_eq_of_lt hx1, Nat.div_eq_of_lt hx1, digs_zero]
  have HD := Lib.hid hd
  have hxw : x < 18446744073709551616 := Nat.lt_trans hx1 P19_lt
  clear hx hd hx1
  cases neg with
  | true =>
    go_enter Tryz.func7, Tryz.ntmps7
    go_wp2_with fail
    have hc0 := cell_new2 w (.bool true) (.slice p0 l0 c0) 24
    have hal : Below w.heap.size w (w.alloc (.cells #[.bool true, .slice p0 l0 c0] 24)) := (Below.refl _ _).alloc (Nat.le_refl _) _
    obtain ⟨A, hA⟩ : ∃ A, A = w.heap.size := ⟨_, rfl⟩
    obtain ⟨W0, hW0⟩ : ∃ W0, W0 = w.alloc (.cells #[.bool true, .slice p0 l0 c0] 24) := ⟨_, rfl⟩
    have hA0 : A < W0.heap.size := by rw [hA, hW0]; simp
    rw [← hW0, ← hA] at hc0 ⊢
    rw [← hW0] at hal
    clear hA hW0
    refine (cutUp_any p0 l0 c0 xs W0 h1 k1 (r1.next hal) (Nat.le_refl _)).mono ?_
    rw [← HX.out, HD.out]
    rintro e W1 ⟨q, m, c, rfl, hmc, hq, hR, _, hb⟩
    obtain rfl : 1 = m := hR.count
    have hW := below_next hal hb
    replace hc0 := (hb.cell (p := ⟨A, 0, none⟩) hA0).trans hc0
    replace hA0 := Nat.lt_of_lt_of_le hA0 hb.size
    clear hal hb r1
    obtain ⟨bp, op, rfl, hbp, hpc⟩ := hR.cell 0 (by omega)
    rw [nth_cons_zero, Nat.add_zero] at hpc
    have hB0 := bld_new W1
    have hb2 : Below W1.heap.size W1 (W1.alloc (.cells #[.pointer none, .slice none 0 0] 62)) := (Below.refl _ _).alloc (Nat.le_refl _) _
    obtain ⟨b, hbb⟩ : ∃ b, b = W1.heap.size := ⟨_, rfl⟩
    obtain ⟨W2, hW2⟩ : ∃ W2, W2 = W1.alloc (.cells #[.pointer none, .slice none 0 0] 62) := ⟨_, rfl⟩
    rw [← hW2] at hB0 hb2
    rw [← hbb] at hB0 hb2 hA0 hbp
    have HW2 := Lib.hid hW2
    have HBB := Lib.hid hbb
    have hs2 : b ≤ W2.heap.size := by rw [hbb]; exact hbb ▸ hb2.size
    replace hc0 := (hb2.cell (p := ⟨A, 0, none⟩) hA0).trans hc0
    replace hpc := (hb2.cell (p := ⟨bp, op, none⟩) hbp).trans hpc
    have hWb : w.heap.size ≤ b := by rw [hbb]; exact hW.size
    replace hW := hW.trans (hb2.mono hWb)
    clear hW2 hbb hb2 hR
    go_upto_region 7 with fail
    rw [← HBB.out, ← HW2.out]
    go_wp2_with fail
    refine (writeByte_any b b [] 45 W2 hB0 (by simp) hs2).mono ?_
    rintro e W3 ⟨rfl, hB1, hb⟩
    rw [List.nil_append] at hB1
    have hs3 := Nat.le_trans hs2 hb.size
    replace hpc := (hb.cell (p := ⟨bp, op, none⟩) hbp).trans hpc
    replace hW := hW.trans (hb.mono hWb)
    clear hb hB0
    have htab3 := htab.below hW
    have HF := Lib.hid (formatUint_any x hxw W3 htab3)
    clear htab3 hc0
    go_wp2_with fail
    refine (HF.out).mono ?_
    rintro e W4 ⟨rfl, hb⟩
    replace hB1 := bld_next hB1 hb
    have hs4 := Nat.le_trans hs3 hb.size
    replace hW := below_next hW hb
    have hlen : (Lib.decDigits x).length ≤ 1000000 := by
      rw [Lib.decDigits_length]
      by_cases h : 1 ≤ x
      · have := Lib.numDigits_eq x h hxw; split at this <;> omega
      · omega
    clear hb HF
    go_wp2_with fail
    refine (writeString_any b b [45] (Lib.decDigits x) W4 hB1 (by simp) hlen hs4).mono ?_
    rintro e W5 ⟨rfl, hB2, hb⟩
    have hs5 := Nat.le_trans hs4 hb.size
    replace hW := hW.trans (hb.mono hWb)
    clear hb hB1
    go_wp2_with fail
    refine wp_loop_rounds 1 ?_
    rw [rounds_succ]
    go_wp2_with fail
    refine (builderString_any b b _ W5 hB2 hs5).mono ?_
    rintro e W6 ⟨rfl, hb⟩
    replace hW := hW.trans (hb.mono hWb)
    go_wp2
    go_ret2
    exact ⟨by first | rfl | simp, hW⟩
  | false =>
    go_enter Tryz.func7, Tryz.ntmps7
    go_wp2_with fail
    have hc0 := cell_new2 w (.bool false) (.slice p0 l0 c0) 24
    have hal : Below w.heap.size w (w.alloc (.cells #[.bool false, .slice p0 l0 c0] 24)) := (Below.refl _ _).alloc (Nat.le_refl _) _
    obtain ⟨A, hA⟩ : ∃ A, A = w.heap.size := ⟨_, rfl⟩
    obtain ⟨W0, hW0⟩ : ∃ W0, W0 = w.alloc (.cells #[.bool false, .slice p0 l0 c0] 24) := ⟨_, rfl⟩
    have hA0 : A < W0.heap.size := by rw [hA, hW0]; simp
    rw [← hW0, ← hA] at hc0 ⊢
    rw [← hW0] at hal
    clear hA hW0
    refine (cutUp_any p0 l0 c0 xs W0 h1 k1 (r1.next hal) (Nat.le_refl _)).mono ?_
    rw [← HX.out, HD.out]
    rintro e W1 ⟨q, m, c, rfl, hmc, hq, hR, _, hb⟩
    obtain rfl : 1 = m := hR.count
    have hW := below_next hal hb
    replace hc0 := (hb.cell (p := ⟨A, 0, none⟩) hA0).trans hc0
    replace hA0 := Nat.lt_of_lt_of_le hA0 hb.size
    clear hal hb r1
    obtain ⟨bp, op, rfl, hbp, hpc⟩ := hR.cell 0 (by omega)
    rw [nth_cons_zero, Nat.add_zero] at hpc
    have hB0 := bld_new W1
    have hb2 : Below W1.heap.size W1 (W1.alloc (.cells #[.pointer none, .slice none 0 0] 62)) := (Below.refl _ _).alloc (Nat.le_refl _) _
    obtain ⟨b, hbb⟩ : ∃ b, b = W1.heap.size := ⟨_, rfl⟩
    obtain ⟨W2, hW2⟩ : ∃ W2, W2 = W1.alloc (.cells #[.pointer none, .slice none 0 0] 62) := ⟨_, rfl⟩
    rw [← hW2] at hB0 hb2
    rw [← hbb] at hB0 hb2 hA0 hbp
    have HW2 := Lib.hid hW2
    have HBB := Lib.hid hbb
    have hs2 : b ≤ W2.heap.size := by rw [hbb]; exact hbb ▸ hb2.size
    replace hc0 := (hb2.cell (p := ⟨A, 0, none⟩) hA0).trans hc0
    replace hpc := (hb2.cell (p := ⟨bp, op, none⟩) hbp).trans hpc
    have hWb : w.heap.size ≤ b := by rw [hbb]; exact hW.size
    replace hW := hW.trans (hb2.mono hWb)
    clear hW2 hbb hb2 hR
    go_upto_region 7 with fail
    rw [← HBB.out, ← HW2.out]
    have hB1 := hB0
    have hs3 := hs2
    have htab3 := htab.below hW
    have HF := Lib.hid (formatUint_any x hxw W2 htab3)
    clear htab3
    go_wp2_with fail
    clear hc0
    refine (HF.out).mono ?_
    rintro e W4 ⟨rfl, hb⟩
    replace hB1 := bld_next hB1 hb
    have hs4 := Nat.le_trans hs3 hb.size
    replace hW := below_next hW hb
    have hlen : (Lib.decDigits x).length ≤ 1000000 := by
      rw [Lib.decDigits_length]
      by_cases h : 1 ≤ x
      · have := Lib.numDigits_eq x h hxw; split at this <;> omega
      · omega
    clear hb HF
    go_wp2_with fail
    refine (writeString_any b b [] (Lib.decDigits x) W4 hB1 (by simp) hlen hs4).mono ?_
    rintro e W5 ⟨rfl, hB2, hb⟩
    have hs5 := Nat.le_trans hs4 hb.size
    replace hW := hW.trans (hb.mono hWb)
    clear hb hB1
    go_wp2_with fail
    refine wp_loop_rounds 1 ?_
    rw [rounds_succ]
    go_wp2_with fail
    refine (builderString_any b b _ W5 hB2 hs5).mono ?_
    rintro e W6 ⟨rfl, hb⟩
    replace hW := hW.trans (hb.mono hWb)
    go_wp2
    go_ret2
    exact ⟨by first | rfl | simp, hW⟩
end Go.Proofs.YtndcaajebomkhaaGreatDoor
