/- NatSums, the law's walk: any two numbers of at most 100 limbs are plain, are compared, have sums, differences and lengths, as the document says. -/
import Derived.Test.YtafmoonfnkcpoaaDoorTools
import Derived.Test.YtafmoonfnkcpoaaDoorRefE
import Derived.Test.YtafmoonfnkcpoaaDoorAs
namespace Go.Proofs.YtafmoonfnkcpoaaDoor
open Go.RowKit

theorem owns_made_empty (w : World) (e : TypeId) : (w.alloc (.cells #[] e)).ownsRow w.heap.size e 1 (.slice (some ⟨w.heap.size, 0, none⟩) 0 0) 0 (ints .u64 []) :=
  World.ownsRow_made (base := w.heap.size) w #[] 0 (Nat.le_refl _) (by unfold maxLen; omega) rfl

set_option maxHeartbeats 8000000 in
theorem natSums_walk (p1 p2 : Option Addr) (l1 l2 c1 c2 : Nat) (xs ys : List Nat) (w : World) (h1 : l1 ≤ c1) (h2 : l2 ≤ c2) (z1 : p1 = none → c1 = 0)
    (r1 : Rd .u64 W64 w.heap.size w p1 l1 xs) (r2 : Rd .u64 W64 w.heap.size w p2 l2 ys) (hg : ErrVar w) :
    Calls Tryd.prog 3 #[.slice p1 l1 c1, .slice p2 l2 c2] w fun e w' => e = .returned (.bool true) ∧ Below w.heap.size w w' := by
  by_cases a1 : 100 < l1
  · go_enter Tryd.func3, Tryd.ntmps3
    go_wp2_with fail
    refine (awake_any w).mono ?_
    rintro e w1 ⟨rfl, hb1⟩
    go_wp2
    go_ret
    exact ⟨rfl, hb1⟩
  by_cases a2 : 100 < l2
  · go_enter Tryd.func3, Tryd.ntmps3
    go_wp2_with fail
    refine (awake_any w).mono ?_
    rintro e w1 ⟨rfl, hb1⟩
    go_wp2
    go_ret
    exact ⟨rfl, hb1⟩
  have a3 : l1 ≤ 100 := by omega
  have a4 : l2 ≤ 100 := by omega
  clear a1 a2
  obtain ⟨x, hx⟩ : ∃ x, x = val W64 xs := ⟨_, rfl⟩
  obtain ⟨y, hy⟩ : ∃ y, y = val W64 ys := ⟨_, rfl⟩
  have bx : Hid (x < W64 ^ 100) := Lib.hid (by rw [hx]; exact r1.val_lt W64_pos a3)
  have byy : Hid (y < W64 ^ 100) := Lib.hid (by rw [hy]; exact r2.val_lt W64_pos a4)
  have bs : Hid (x + y < W64 ^ 101) := Lib.hid (add_lt bx.out byy.out)
  have bd : Hid (x - y < W64 ^ 100) := Lib.hid (Nat.lt_of_le_of_lt (Nat.sub_le _ _) bx.out)
  have HX := Lib.hid hx
  have HY := Lib.hid hy
  clear hx hy
  go_enter Tryd.func3, Tryd.ntmps3
  go_wp2_with fail
  refine (awake_any w).mono ?_
  rintro e w1 ⟨rfl, hb1⟩
  replace hg := hg.below hb1
  replace r1 := r1.next hb1
  replace r2 := r2.next hb1
  have HZ := Lib.hid z1
  clear z1
  go_wp2_with (at_builtin; refine wpl_append_nums Tryd.numTy64 rfl _ _ rfl w1.heap.size 0 _ [] rfl (owns_made_empty w1 _) p1 l1 c1 xs rfl (r1.below ((Below.refl _ _).alloc (Nat.le_refl _) _)) HZ.out (by omega) (by omega) (by simp) ?_)
  intro q0 c0 w2 hown hgrow
  have hb : Below w1.heap.size w1 w2 := ((Below.refl _ _).alloc (Nat.le_refl _) _).grown hgrow (by simp) (fun k hk => by simp [Value.ownBlock] at hk; omega)
  have hown2 : w2.ownsRow w1.heap.size 44 1 (.slice q0 l1 c0) l1 (ints .u64 xs) := by simpa using hown
  have ro : Rd .u64 W64 w2.heap.size w2 q0 l1 xs := owns_rd hown2 (Nat.le_refl _) r1.words_lt
  have h0 := owns_room hown2
  replace r1 := r1.next hb
  replace r2 := r2.next hb
  replace hg := hg.below hb
  replace hb1 := below_next hb1 hb
  clear hb hown hown2 hgrow HZ
  go_wp2_with fail
  refine (refDigits_any p1 l1 c1 _ w2 h1 (by omega) r1 (Nat.le_refl _)).mono ?_
  rintro e w3 ⟨q3, n3, c3, rfl, hc3, _, R3, hb⟩
  rw [← HX.out] at R3
  have s3 : n3 ≤ 400 := R3.short (by omega) (by rw [← pow_W64 100 400 rfl]; exact bx.out)
  replace r1 := r1.next hb
  replace r2 := r2.next hb
  replace ro := ro.next hb
  replace hg := hg.below hb
  replace hb1 := below_next hb1 hb
  clear hb
  go_wp2_with fail
  refine (refDigits_any p2 l2 c2 _ w3 h2 (by omega) r2 (Nat.le_refl _)).mono ?_
  rintro e w4 ⟨q4, n4, c4, rfl, hc4, _, R4, hb⟩
  rw [← HY.out] at R4
  have s4 : n4 ≤ 400 := R4.short (by omega) (by rw [← pow_W64 100 400 rfl]; exact byy.out)
  replace r1 := r1.next hb
  replace r2 := r2.next hb
  replace ro := ro.next hb
  replace R3 := R3.next hb
  replace hg := hg.below hb
  replace hb1 := below_next hb1 hb
  clear hb
  go_wp2_with fail
  refine (plain_any q0 l1 c0 xs w4 h0 (by omega) ro).mono ?_
  rintro e w5 ⟨q5, n5, c5, rfl, hc5, _, R5, hb⟩
  rw [← HX.out] at R5
  have s5 : n5 ≤ 100 := R5.short two_le_W64 bx.out
  replace r1 := r1.next hb
  replace r2 := r2.next hb
  replace ro := ro.next hb
  replace R3 := R3.next hb
  replace R4 := R4.next hb
  replace hg := hg.below hb
  replace hb1 := below_next hb1 hb
  clear hb
  go_wp2_with fail
  refine (refLimbs_any q3 n3 c3 _ w5 hc3 (by omega) R3 (Nat.le_refl _)).mono ?_
  rintro e w6 ⟨q6, n6, c6, rfl, hc6, _, R6, hb⟩
  rw [val_digs (by omega)] at R6
  have s6 : n6 ≤ 100 := R6.short two_le_W64 bx.out
  replace r1 := r1.next hb
  replace r2 := r2.next hb
  replace ro := ro.next hb
  replace R3 := R3.next hb
  replace R4 := R4.next hb
  replace R5 := R5.next hb
  replace hg := hg.below hb
  replace hb1 := below_next hb1 hb
  clear hb
  go_wp2_with fail
  refine (refSame_true q5 q6 n5 n6 c5 c6 _ _ w6 (by omega) (by omega) R5 R6 rfl).mono ?_
  rintro e w7 ⟨rfl, hb⟩
  replace r1 := r1.next hb
  replace r2 := r2.next hb
  replace ro := ro.next hb
  replace R3 := R3.next hb
  replace R4 := R4.next hb
  replace hg := hg.below hb
  replace hb1 := below_next hb1 hb
  clear hb R5 R6
  go_wp2_with fail
  refine (natCmp_keeps q0 p2 l1 l2 c0 c2 xs ys w7 h0 h2 (by omega) (by omega) ro r2 (c := cmpN x y) (by rw [← HX.out, ← HY.out])).mono ?_
  rintro e w8 ⟨rfl, hb⟩
  replace r1 := r1.next hb
  replace r2 := r2.next hb
  replace ro := ro.next hb
  replace R3 := R3.next hb
  replace R4 := R4.next hb
  replace hg := hg.below hb
  replace hb1 := below_next hb1 hb
  clear hb
  go_wp2_with fail
  refine (refCmp_any q3 q4 n3 n4 c3 c4 _ _ w8 hc3 hc4 (by omega) (by omega) R3 R4).mono ?_
  rintro e w9 ⟨he, hb⟩
  rw [val_digs (by omega), val_digs (by omega)] at he
  subst he
  replace r1 := r1.next hb
  replace r2 := r2.next hb
  replace ro := ro.next hb
  replace R3 := R3.next hb
  replace R4 := R4.next hb
  replace hg := hg.below hb
  replace hb1 := below_next hb1 hb
  clear hb
  go_wp2_with fail
  refine (natLen_any q0 l1 c0 xs w9 h0 (by omega) ro).mono ?_
  rintro e w10 ⟨he, hw⟩
  rw [← HX.out] at he
  subst he hw
  go_wp2_with fail
  refine (refLen_any q3 n3 c3 _ w9 hc3 (by omega) R3).mono ?_
  rintro e w10 ⟨he, hw⟩
  rw [val_digs (by omega)] at he
  subst he hw
  go_wp2_with fail
  refine (natAdd_any q0 p2 l1 l2 c0 c2 xs ys w9 h0 h2 (by omega) (by omega) ro r2 (Nat.le_refl _) (Nat.le_refl _)).mono ?_
  rintro e w10 ⟨q7, n7, c7, rfl, hc7, _, R7, hb⟩
  rw [← HX.out, ← HY.out] at R7
  have s7 : n7 ≤ 101 := R7.short two_le_W64 bs.out
  replace r1 := r1.next hb
  replace r2 := r2.next hb
  replace ro := ro.next hb
  replace R3 := R3.next hb
  replace R4 := R4.next hb
  replace hg := hg.below hb
  replace hb1 := below_next hb1 hb
  clear hb
  go_wp2_with fail
  refine (refAdd_any q3 q4 n3 n4 c3 c4 _ _ w10 (by omega) (by omega) R3 R4 (Nat.le_refl _) (Nat.le_refl _)).mono ?_
  rintro e w11 ⟨q8, n8, c8, rfl, hc8, _, R8, hb⟩
  rw [val_digs (by omega), val_digs (by omega)] at R8
  have s8 : n8 ≤ 404 := R8.short (by omega) (by rw [← pow_W64 101 404 rfl]; exact bs.out)
  replace r1 := r1.next hb
  replace r2 := r2.next hb
  replace ro := ro.next hb
  replace R3 := R3.next hb
  replace R4 := R4.next hb
  replace R7 := R7.next hb
  replace hg := hg.below hb
  replace hb1 := below_next hb1 hb
  clear hb
  go_wp2_with fail
  refine (refLimbs_any q8 n8 c8 _ w11 hc8 (by omega) R8 (Nat.le_refl _)).mono ?_
  rintro e w12 ⟨q9, n9, c9, rfl, hc9, _, R9, hb⟩
  rw [val_digs (by omega)] at R9
  have s9 : n9 ≤ 101 := R9.short two_le_W64 bs.out
  replace r1 := r1.next hb
  replace r2 := r2.next hb
  replace ro := ro.next hb
  replace R3 := R3.next hb
  replace R4 := R4.next hb
  replace R7 := R7.next hb
  replace R8 := R8.next hb
  replace hg := hg.below hb
  replace hb1 := below_next hb1 hb
  clear hb
  go_wp2_with fail
  refine (refSame_true q7 q9 n7 n9 c7 c9 _ _ w12 (by omega) (by omega) R7 R9 rfl).mono ?_
  rintro e w13 ⟨rfl, hb⟩
  replace r1 := r1.next hb
  replace r2 := r2.next hb
  replace ro := ro.next hb
  replace R3 := R3.next hb
  replace R4 := R4.next hb
  replace hg := hg.below hb
  replace hb1 := below_next hb1 hb
  clear hb R7 R8 R9
  by_cases hlt : x < y
  · have hneg := cmpN_neg hlt
    go_wp2_with fail
    refine (natSub_below q0 p2 l1 l2 c0 c2 xs ys w13 h0 h2 (by omega) (by omega) ro r2 (by rw [← HX.out, ← HY.out]; exact hlt)).mono ?_
    rintro e w14 ⟨rfl, hb⟩
    replace r1 := r1.next hb
    replace r2 := r2.next hb
    replace ro := ro.next hb
    replace R3 := R3.next hb
    replace R4 := R4.next hb
    replace hg := hg.below hb
    replace hb1 := below_next hb1 hb
    clear hb
    go_wp2_with fail
    refine (refCmp_any q3 q4 n3 n4 c3 c4 _ _ w14 hc3 hc4 (by omega) (by omega) R3 R4).mono ?_
    rintro e w15 ⟨he, hb⟩
    rw [val_digs (by omega), val_digs (by omega)] at he
    subst he
    replace r1 := r1.next hb
    replace r2 := r2.next hb
    replace ro := ro.next hb
    replace R3 := R3.next hb
    replace R4 := R4.next hb
    replace hg := hg.below hb
    replace hb1 := below_next hb1 hb
    clear hb
    go_wp2_with fail
    refine (code_hit 8 (by omega) (by omega) w15 hg).mono ?_
    rintro e w16 ⟨rfl, hb⟩
    replace r1 := r1.next hb
    replace r2 := r2.next hb
    replace ro := ro.next hb
    replace R3 := R3.next hb
    replace R4 := R4.next hb
    replace hg := hg.below hb
    replace hb1 := below_next hb1 hb
    clear hb
    go_wp2
    go_ret
    exact ⟨rfl, hb1⟩
  · have hge : y ≤ x := by omega
    have hnn := cmpN_nonneg hge
    have HGE := Lib.hid hge
    clear hlt hge
    go_wp2_with fail
    refine (natSub_any q0 p2 l1 l2 c0 c2 xs ys w13 h0 h2 (by omega) (by omega) ro r2 (Nat.le_refl _) (by rw [← HX.out, ← HY.out]; exact HGE.out)).mono ?_
    rintro e w14 ⟨q10, n10, c10, rfl, hc10, _, R10, hb⟩
    rw [← HX.out, ← HY.out] at R10
    have s10 : n10 ≤ 100 := R10.short two_le_W64 bd.out
    replace r1 := r1.next hb
    replace r2 := r2.next hb
    replace ro := ro.next hb
    replace R3 := R3.next hb
    replace R4 := R4.next hb
    replace hg := hg.below hb
    replace hb1 := below_next hb1 hb
    clear hb
    go_wp2_with fail
    refine (refCmp_any q3 q4 n3 n4 c3 c4 _ _ w14 hc3 hc4 (by omega) (by omega) R3 R4).mono ?_
    rintro e w15 ⟨he, hb⟩
    rw [val_digs (by omega), val_digs (by omega)] at he
    subst he
    replace r1 := r1.next hb
    replace r2 := r2.next hb
    replace ro := ro.next hb
    replace R3 := R3.next hb
    replace R4 := R4.next hb
    replace R10 := R10.next hb
    replace hg := hg.below hb
    replace hb1 := below_next hb1 hb
    clear hb
    go_wp2_with fail
    refine (refSub_any q3 q4 n3 n4 c3 c4 _ _ w15 (by omega) (by omega) R3 R4 (Nat.le_refl _) (Nat.le_refl _) (by rw [val_digs (by omega), val_digs (by omega)]; exact HGE.out)).mono ?_
    rintro e w16 ⟨q11, n11, c11, rfl, hc11, _, R11, hb⟩
    rw [val_digs (by omega), val_digs (by omega)] at R11
    have s11 : n11 ≤ 400 := R11.short (by omega) (by rw [← pow_W64 100 400 rfl]; exact bd.out)
    replace r1 := r1.next hb
    replace r2 := r2.next hb
    replace ro := ro.next hb
    replace R3 := R3.next hb
    replace R4 := R4.next hb
    replace R10 := R10.next hb
    replace hg := hg.below hb
    replace hb1 := below_next hb1 hb
    clear hb
    go_wp2_with fail
    refine (refLimbs_any q11 n11 c11 _ w16 hc11 (by omega) R11 (Nat.le_refl _)).mono ?_
    rintro e w17 ⟨q12, n12, c12, rfl, hc12, _, R12, hb⟩
    rw [val_digs (by omega)] at R12
    have s12 : n12 ≤ 100 := R12.short two_le_W64 bd.out
    replace r1 := r1.next hb
    replace r2 := r2.next hb
    replace ro := ro.next hb
    replace R3 := R3.next hb
    replace R4 := R4.next hb
    replace R10 := R10.next hb
    replace R11 := R11.next hb
    replace hg := hg.below hb
    replace hb1 := below_next hb1 hb
    clear hb
    go_wp2_with fail
    refine (refSame_true q10 q12 n10 n12 c10 c12 _ _ w17 (by omega) (by omega) R10 R12 rfl).mono ?_
    rintro e w18 ⟨rfl, hb⟩
    replace r1 := r1.next hb
    replace ro := ro.next hb
    replace hg := hg.below hb
    replace hb1 := below_next hb1 hb
    clear hb R10 R11 R12 R3 R4 r2
    go_wp2_with fail
    refine (refSame_true q0 p1 l1 l1 c0 c1 _ _ w18 (by omega) (by omega) ro r1 rfl).mono ?_
    rintro e w19 ⟨rfl, hb⟩
    replace hg := hg.below hb
    replace hb1 := below_next hb1 hb
    clear hb ro r1
    go_wp2
    go_ret
    exact ⟨rfl, hb1⟩
end Go.Proofs.YtafmoonfnkcpoaaDoor
