/- The document's own answers for layer 2: Small, Mul, Shl. -/
import Derived.Test.YtknkakkdhihngaaRefW
import Derived.Test.YtknkakkdhihngaaRefE
namespace Go.Proofs.Ytknkakkdhihngaa
open Go.RowKit

/-- A slice of one number that the call has just made. -/
theorem one_rd {W : World} {k : IntKind} {β x : Nat} {T : TypeId} {z : Int} (hx : x < β) (hz : z = (x : Int)) : Rd k β (W.heap.size + 1) (W.alloc (.cells #[.int k z] T)) (some ⟨W.heap.size, 0, none⟩) 1 [x] := by
  subst hz
  refine ⟨rfl, fun i hi => ?_, fun i hi => ?_⟩
  · obtain rfl : i = 0 := by omega
    rw [nth_cons_zero]; exact hx
  · obtain rfl : i = 0 := by omega
    refine ⟨_, _, rfl, by omega, ?_⟩
    rw [nth_cons_zero]; simp [go_sem]
theorem val_one_digit (β x : Nat) : val β [x] = x := by simp [val_cons, val_nil]


set_option maxHeartbeats 4000000 in
theorem refIntMul_any (v v' : Value) (z z' : Int) (w : World) (hv : NumAt w v z) (hv' : NumAt w v' z') (k1 : (digs 65536 z.natAbs).length ≤ 400000) (k2 : (digs 65536 z'.natAbs).length ≤ 400000) :
    Calls Try.prog 30 #[v, v'] w (GivesNum w (z * z')) := by
  obtain ⟨q, m, c, rfl, h1, hR⟩ := hv
  obtain ⟨q', m', c', rfl, h1', hR'⟩ := hv'
  obtain ⟨n, hn⟩ : ∃ b, b = (decide (z < 0)) := ⟨_, rfl⟩
  obtain ⟨n', hn'⟩ : ∃ b, b = (decide (z' < 0)) := ⟨_, rfl⟩
  obtain ⟨x, hx⟩ : ∃ x, x = z.natAbs := ⟨_, rfl⟩
  obtain ⟨y, hy⟩ : ∃ y, y = z'.natAbs := ⟨_, rfl⟩
  have hz : wv n x = z := by rw [hn, hx, wv_self]
  have hz' : wv n' y = z' := by rw [hn', hy, wv_self]
  rw [← hn, ← hn']
  rw [← hx] at hR k1
  rw [← hy] at hR' k2
  clear hn hn' hx hy
  have HZ : Hid (wv (n != n') (x * y) = z * z') := Lib.hid (by rw [wv_mul, hz, hz'])
  clear hz hz'
  obtain ⟨W0, hW0, hW, tA, tB, tZ⟩ := enter3 w (.bool n) (.slice q m c) 36 (.bool n') (.slice q' m' c') 36 (.bool false) (.slice none 0 0) 36
  have hd := kd (Below.refl W0.heap.size W0)
  have rA := hR.next (kd hW)
  have rB := hR'.next (kd hW)
  have hm : m ≤ 400000 := by have := hR.count; omega
  have hm' : m' ≤ 400000 := by have := hR'.count; omega
  have HX := Lib.hid (val_digs (β := 65536) (by omega) x)
  have HY := Lib.hid (val_digs (β := 65536) (by omega) y)
  have L1 := digs_prod_len (β := 65536) (by omega) k1 k2
  have tA0 := tA.c0; have tA1 := tA.c1; have tB0 := tB.c0; have tB1 := tB.c1
  clear hR hR'
  go_enter Try.func30, Try.ntmps30
  go_wp2_with fail
  rw [← hW0]
  clear hW0
  replace tZ := tZ.next hd
  replace hW := below_next hW hd
  go_region_held3 (fun w' => w'.cell? ⟨w.heap.size, 0, none⟩ = some (.bool n) ∧ w'.cell? ⟨w.heap.size, 1, none⟩ = some (.slice q m c) ∧ w'.cell? ⟨w.heap.size + 1, 0, none⟩ = some (.bool n') ∧ w'.cell? ⟨w.heap.size + 1, 1, none⟩ = some (.slice q' m' c'))
    (((try go_split_ands); ((repeat' apply And.intro) <;> first | exact kdc (by assumption) | exact kp hb (by assumption) | exact ksc (ksc (by assumption) (by first | (simp; done) | (simp; omega))) (by first | (simp; done) | (simp; omega)))))
    (first
      | (go_at_call 45; refine (refMul_any q q' m m' c c' _ _ _ h1 h1' (by omega) (by omega) rA rB (Nat.le_refl _) (Nat.le_refl _)).mono ?_; rw [HX.out, HY.out]; rintro e W1 ⟨q1, m1, c1, rfl, hmc1, _, hR2, hb⟩; have tZ := tZ.next hb; have hW := below_next hW hb)
      | (go_at_call 20; refine (refNew_any (n != n') _ _ _ _ _ (hmc1) (by have := hR2.count; omega) hR2 (Nat.le_refl _) (val_digs (by omega) _)).mono ?_; rintro e W9 ⟨v, rfl, ⟨q9, m9, c9, rfl, hm9, hR9⟩, hb⟩; have tZ := tZ.next hb; have hW := below_next hW hb; have t90 := tZ.c0; have t91 := tZ.c1; have t92 := tZ.f0; have t93 := tZ.f1))
  have hr := (tZ.set0 (.bool (decide (wv (n != n') (x * y) < 0)))).set1 (.slice q9 m9 c9)
  have r0 := hr.c0
  have r1 := hr.c1
  go_wp2
  exact bodyPost_ret (v := .agg #[.bool (decide (wv (n != n') (x * y) < 0)), .slice q9 m9 c9]) (by simp [results, Try.results30, go_sem, r0, r1]) rfl
    ⟨_, rfl, by rw [← HZ.out]; exact NumAt.set2 hm9 hR9 tZ _ _, below_set2 hW (by omega)⟩

set_option maxHeartbeats 4000000 in
theorem refIntShl_any (v : Value) (z : Int) (k L r : Nat) (w : World) (hv : NumAt w v z) (k1 : (digs 65536 z.natAbs).length ≤ 100000) (hk : k ≤ 65536) (hL : k / 16 = L) (hr : k % 16 = r) :
    Calls Try.prog 15 #[v, .int .i64 (k : Int)] w (GivesNum w (z * 2 ^ k)) := by
  obtain ⟨q, m, c, rfl, h1, hR⟩ := hv
  obtain ⟨n, hn⟩ : ∃ b, b = (decide (z < 0)) := ⟨_, rfl⟩
  obtain ⟨x, hx⟩ : ∃ x, x = z.natAbs := ⟨_, rfl⟩
  have hz : wv n x = z := by rw [hn, hx, wv_self]
  rw [← hn]
  rw [← hx] at hR k1
  clear hn hx
  have HZ : Hid (wv n (x * 2 ^ k) = z * 2 ^ k) := Lib.hid (by rw [wv_times, hz])
  clear hz
  obtain ⟨W0, hW0, hW, tA, tZ⟩ := enter2 w (.bool n) (.slice q m c) 36 (.bool false) (.slice none 0 0) 36
  have hd := kd (Below.refl W0.heap.size W0)
  have rA := hR.next (kd hW)
  have hm : m ≤ 100000 := by have := hR.count; omega
  have HX := Lib.hid (val_digs (β := 65536) (by omega) x)
  obtain ⟨j, hj1, hj2⟩ : ∃ j : Nat, j ≤ 4096 ∧ 4096 ≤ j := ⟨4096, Nat.le_refl _, Nat.le_refl _⟩
  have L1 := digs_shl_len (β := 65536) (k := k) (j := j) (by omega) (by rw [show (65536 : Nat) = 2 ^ 16 by rfl, ← Nat.pow_mul]; exact Nat.pow_le_pow_right (by omega) (by omega)) k1
  clear hj2
  have HL := Lib.hid hL
  have HR := Lib.hid hr
  have tA0 := tA.c0; have tA1 := tA.c1
  obtain ⟨P, hP⟩ : ∃ P, P = x * 2 ^ k := ⟨_, rfl⟩
  rw [← hP] at HZ L1
  have HP := Lib.hid hP
  clear hR hL hr hP
  go_enter Try.func15, Try.ntmps15
  go_wp2_with fail
  rw [← hW0]
  clear hW0
  replace tZ := tZ.next hd
  replace hW := below_next hW hd
  go_region_held3 (fun w' => w'.cell? ⟨w.heap.size, 0, none⟩ = some (.bool n) ∧ w'.cell? ⟨w.heap.size, 1, none⟩ = some (.slice q m c))
    (((try go_split_ands); ((repeat' apply And.intro) <;> first | exact kdc (by assumption) | exact kp hb (by assumption) | exact ksc (ksc (by assumption) (by first | (simp; done) | (simp; omega))) (by first | (simp; done) | (simp; omega)))))
    (first
      | (go_at_call 32; refine (refShl_any q m c k L r _ _ h1 hm rA (Nat.le_refl _) hk HL.out HR.out).mono ?_; rw [HX.out, ← HP.out]; rintro e W1 ⟨q1, m1, c1, rfl, hmc1, _, hR2, hb⟩; have tZ := tZ.next hb; have hW := below_next hW hb)
      | (go_at_call 20; refine (refNew_any n _ _ _ _ _ (hmc1) (by have := hR2.count; omega) hR2 (Nat.le_refl _) (val_digs (by omega) _)).mono ?_; rintro e W9 ⟨v, rfl, ⟨q9, m9, c9, rfl, hm9, hR9⟩, hb⟩; have tZ := tZ.next hb; have hW := below_next hW hb; have t90 := tZ.c0; have t91 := tZ.c1; have t92 := tZ.f0; have t93 := tZ.f1))
  have hr := (tZ.set0 (.bool (decide (wv n P < 0)))).set1 (.slice q9 m9 c9)
  have r0 := hr.c0
  have r1 := hr.c1
  go_wp2
  exact bodyPost_ret (v := .agg #[.bool (decide (wv n P < 0)), .slice q9 m9 c9]) (by simp [results, Try.results15, go_sem, r0, r1]) rfl
    ⟨_, rfl, by rw [← HZ.out]; exact NumAt.set2 hm9 hR9 tZ _ _, below_set2 hW (by omega)⟩
end Go.Proofs.Ytknkakkdhihngaa
