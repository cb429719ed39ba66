/- Layer 2 (whole): signed, Plain, Neg, Sign, Cmp, Add, Sub, Mul, Of. -/
import Derived.Test.YtndcaajebomkhaaGreatDoorInt
import Derived.Test.YtndcaajebomkhaaGreatDoorNatG
namespace Go.Proofs.YtndcaajebomkhaaGreatDoor
open Go.RowKit

theorem digs_size_pos {x m : Nat} (h : (digs W64 x).length = m) : decide (0 < m) = decide (0 < x) := by
  have := digs_length_pos two_le_W64 x
  rw [decide_eq_decide]; omega
set_option maxHeartbeats 1000000 in
theorem signed_any {B : Nat} (n : Bool) (q : Option Addr) (m c x : Nat) (w : World) (h : m ≤ c) (hl : m ≤ 1000000) (hR : Rd .u64 W64 B w q m (digs W64 x)) (hB : B ≤ w.heap.size) :
    Calls Tryz.prog 76 #[.bool n, .slice q m c] w (GivesInt w (wv n x)) := by
  have hm := digs_size_pos hR.count
  have hn := wv_neg n x
  rw [← hm] at hn
  have HN := Lib.hid hn
  clear hm hn
  go_enter Tryz.func76, Tryz.ntmps76
  go_wp2
  · rename_i hn
    have H := HN.out
    rw [hn, Bool.true_and] at H
    have hb : Below w.heap.size w (w.alloc (.cells #[.bool (decide (0 < m)), .slice q m c] 24)) := (Below.refl _ _).alloc (Nat.le_refl _) _
    exact bodyPost_ret (v := .agg #[.bool (decide (0 < m)), .slice q m c]) (by simp [results, Tryz.results76, go_sem]) rfl
      ⟨_, rfl, ⟨q, m, c, by rw [hn, H], h, by rw [wv_abs]; exact (hR.mono hB).next hb⟩, hb⟩
  · rename_i hn
    have hn : n = false := by simpa using hn
    have H := HN.out
    rw [hn, Bool.false_and] at H
    have hb : Below w.heap.size w (w.alloc (.cells #[.bool false, .slice q m c] 24)) := (Below.refl _ _).alloc (Nat.le_refl _) _
    exact bodyPost_ret (v := .agg #[.bool false, .slice q m c]) (by simp [results, Tryz.results76, go_sem]) rfl
      ⟨_, rfl, ⟨q, m, c, by rw [hn, H], h, by rw [wv_abs]; exact (hR.mono hB).next hb⟩, hb⟩

set_option maxHeartbeats 1000000 in
theorem wholePlain_any (v : Value) (z : Int) (w : World) (hv : IntAt w v 900000 z) :
    Calls Tryz.prog 44 #[v] w (GivesInt w z) := by
  obtain ⟨n, q, m, c, xs, rfl, h1, h2, hR, hz⟩ := hv
  obtain ⟨W0, hW0, hW, tA, tZ⟩ := enter2 w (.bool n) (.slice q m c) 24 (.bool false) (.slice none 0 0) 24
  replace hR := hR.below (kd hW)
  have tA0 := tA.c0; have tA1 := tA.c1
  have HZ : Hid (wv n (val W64 xs) = z) := Lib.hid (by rw [hz])
  clear hz
  go_enter Tryz.func44, Tryz.ntmps44
  go_wp2_with fail
  rw [← hW0]
  clear hW0
  go_region_held3 (fun w' => w'.cell? ⟨w.heap.size, 0, none⟩ = some (.bool n) ∧ w'.cell? ⟨w.heap.size, 1, none⟩ = some (.slice q m c))
    (((try go_split_ands); ((repeat' apply And.intro) <;> first | exact kdc (by assumption) | exact kp hb (by assumption) | exact ksc (ksc (by assumption) (by first | (simp; done) | (simp; omega))) (by first | (simp; done) | (simp; omega)))))
    (first
      | (go_at_call 50; refine (plain_any q m c xs _ h1 (by omega) hR).mono ?_; rintro e W1 ⟨q1, m1, c1, rfl, hmc1, _, hR2, hb⟩; have hb1 := hb; have tZ1 := tZ.drew.next hb1)
      | (go_at_call 76; refine (signed_any n q1 m1 c1 _ _ hmc1 (by have := hR2.count; have := hR.digs_size; omega) hR2 (Nat.le_refl _)).mono ?_; rintro e W9 ⟨v, rfl, ⟨q9, m9, c9, rfl, hm9, hR9⟩, hb⟩; have hb9 := hb; have t9 := tZ1.next hb9; have t90 := t9.c0; have t91 := t9.c1; have t92 := t9.f0; have t93 := t9.f1))
  have hr := (t9.set0 (.bool (decide (wv n (val W64 xs) < 0)))).set1 (.slice q9 m9 c9)
  have r0 := hr.c0
  have r1 := hr.c1
  go_wp2
  exact bodyPost_ret (v := .agg #[.bool (decide (wv n (val W64 xs) < 0)), .slice q9 m9 c9]) (by simp [results, Tryz.results44, go_sem, r0, r1]) rfl
    ⟨_, rfl, by rw [← HZ.out]; exact PlainAt.set2 hm9 hR9 t9 _ _, below_set2 (below_next (below_next (kd hW) hb1) hb9) (by omega)⟩


set_option maxHeartbeats 1000000 in
theorem wholeSign_any (v : Value) (z : Int) (w : World) (hv : IntAt w v 900000 z) :
    Calls Tryz.prog 42 #[v] w fun e w' => e = .returned (.int .i64 z.sign) ∧ Below w.heap.size w w' := by
  obtain ⟨n, q, m, c, xs, rfl, h1, h2, hR, hz⟩ := hv
  obtain ⟨W0, hW0, hW, tA⟩ := enter1 w (.bool n) (.slice q m c) 24
  replace hR := hR.below hW
  have tA0 := tA.c0; have tA1 := tA.c1
  have hs := wv_sign n (val W64 xs)
  rw [hz] at hs
  have HS := Lib.hid hs
  have L := natLen_any q m c xs W0 h1 (by omega) hR
  have h0 := nbits_le (val W64 xs) 0
  clear hs hz
  by_cases hx : val W64 xs = 0
  · rw [show nbits (val W64 xs) = 0 by rw [hx, nbits_zero]] at L
    have HX := Lib.hid hx
    clear hx h0
    go_enter Tryz.func42, Tryz.ntmps42
    go_wp2_with fail
    rw [← hW0]
    clear hW0
    go_wp2_with (go_at_call 60; refine L.mono ?_; rintro e w' ⟨rfl, rfl⟩)
    go_ret
    exact ⟨by rw [HS.out, if_pos HX.out]; rfl, hW⟩
  · have hp : 0 < nbits (val W64 xs) := by
      simp only [Nat.pow_zero, Nat.le_zero] at h0; omega
    have HX := Lib.hid hx
    clear hx h0
    generalize nbits (val W64 xs) = k at L hp
    cases n
    all_goals
      go_enter Tryz.func42, Tryz.ntmps42
      go_wp2_with fail
      rw [← hW0]
      clear hW0
      go_wp2_with (go_at_call 60; refine L.mono ?_; rintro e w' ⟨rfl, rfl⟩)
      go_ret
      exact ⟨by rw [HS.out, if_neg HX.out]; rfl, hW⟩
theorem wholeSign_is (v : Value) (z s : Int) (w : World) (hv : IntAt w v 900000 z) (hs : z.sign = s) :
    Calls Tryz.prog 42 #[v] w fun e w' => e = .returned (.int .i64 s) ∧ Below w.heap.size w w' := by
  rw [← hs]; exact wholeSign_any v z w hv
end Go.Proofs.YtndcaajebomkhaaGreatDoor
