/- The document's own answers for layer 2: Add, Sub, Cmp, Small, Mul. -/
import Derived.Test.YtknkakkdhihngaaRefV
namespace Go.Proofs.Ytknkakkdhihngaa
open Go.RowKit


set_option maxHeartbeats 4000000 in
theorem refIntAdd_any (v v' : Value) (z z' : Int) (w : World) (hv : NumAt w v z) (hv' : NumAt w v' z') (k1 : (digs 65536 z.natAbs).length ≤ 800000) (k2 : (digs 65536 z'.natAbs).length ≤ 800000) :
    Calls Try.prog 31 #[v, v'] w (GivesNum w (z + z')) := by
  obtain ⟨q, m, c, rfl, h1, hR⟩ := hv
  obtain ⟨q', m', c', rfl, h1', hR'⟩ := hv'
  obtain ⟨n, hn⟩ : ∃ b, b = (decide (z < 0)) := ⟨_, rfl⟩
  obtain ⟨n', hn'⟩ : ∃ b, b = (decide (z' < 0)) := ⟨_, rfl⟩
  obtain ⟨x, hx⟩ : ∃ x, x = z.natAbs := ⟨_, rfl⟩
  obtain ⟨y, hy⟩ : ∃ y, y = z'.natAbs := ⟨_, rfl⟩
  have hz : wv n x = z := by rw [hn, hx, wv_self]
  have hz' : wv n' y = z' := by rw [hn', hy, wv_self]
  rw [← hn, ← hn']
  rw [← hx] at hR k1
  rw [← hy] at hR' k2
  clear hn hn' hx hy
  obtain ⟨W0, hW0, hW, tA, tB, tZ⟩ := enter3 w (.bool n) (.slice q m c) 36 (.bool n') (.slice q' m' c') 36 (.bool false) (.slice none 0 0) 36
  have rA := hR.next hW
  have rB := hR'.next hW
  have hm : m ≤ 800000 := by have := hR.count; omega
  have hm' : m' ≤ 800000 := by have := hR'.count; omega
  have hle : ∀ t, t ≤ x + y → (digs 65536 t).length ≤ 800001 := fun t ht => digs_sum_len (by omega) k1 k2 ht
  have L1 := hle (x + y) (Nat.le_refl _)
  have L2 := hle (x - y) (by omega)
  have L3 := hle (y - x) (by omega)
  have HX := Lib.hid (val_digs (β := 65536) (by omega) x)
  have HY := Lib.hid (val_digs (β := 65536) (by omega) y)
  clear hle hR hR'
  have hd := kd (Below.refl W0.heap.size W0)
  by_cases hn : n = n'
  · subst hn
    have HZ : Hid (wv n (x + y) = z + z') := Lib.hid (by rw [wv_add, hz, hz'])
    clear hz hz'
    replace rA := rA.next hd
    replace rB := rB.next hd
    have tA0 := tA.c0; have tA1 := tA.c1; have tB0 := tB.c0; have tB1 := tB.c1
    go_enter Try.func31, Try.ntmps31
    go_wp2_with fail
    rw [← hW0]
    clear hW0
    go_wp2_with fail
    replace tZ := tZ.next hd
    replace hW := below_next hW hd
    go_region_held3 (fun w' => w'.cell? ⟨w.heap.size, 0, none⟩ = some (.bool n) ∧ w'.cell? ⟨w.heap.size, 1, none⟩ = some (.slice q m c) ∧ w'.cell? ⟨w.heap.size + 1, 1, none⟩ = some (.slice q' m' c'))
      (((try go_split_ands); ((repeat' apply And.intro) <;> first | exact kdc (by assumption) | exact kp hb (by assumption) | exact ksc (ksc (by assumption) (by first | (simp; done) | (simp; omega))) (by first | (simp; done) | (simp; omega)))))
      (first
        | (go_at_call 46; refine (refAdd_any q q' m m' c c' _ _ _ (by omega) (by omega) rA rB (Nat.le_refl _) (Nat.le_refl _)).mono ?_; rw [HX.out, HY.out]; rintro e W1 ⟨q1, m1, c1, rfl, hmc1, _, hR2, hb⟩; have tZ := tZ.next hb; have hW := below_next hW hb)
        | (go_at_call 20; refine (refNew_any n _ _ _ _ _ (hmc1) (by have := hR2.count; omega) hR2 (Nat.le_refl _) (val_digs (by omega) _)).mono ?_; rintro e W9 ⟨v, rfl, ⟨q9, m9, c9, rfl, hm9, hR9⟩, hb⟩; have tZ := tZ.next hb; have hW := below_next hW hb; have t90 := tZ.c0; have t91 := tZ.c1; have t92 := tZ.f0; have t93 := tZ.f1))
    have hr := (tZ.set0 (.bool (decide (wv n (x + y) < 0)))).set1 (.slice q9 m9 c9)
    have r0 := hr.c0
    have r1 := hr.c1
    go_wp2
    exact bodyPost_ret (v := .agg #[.bool (decide (wv n (x + y) < 0)), .slice q9 m9 c9]) (by simp [results, Try.results31, go_sem, r0, r1]) rfl
      ⟨_, rfl, by rw [← HZ.out]; exact NumAt.set2 hm9 hR9 tZ _ _, below_set2 hW (by omega)⟩
  · have hn' : n' = !n := by cases n <;> cases n' <;> first | rfl | exact absurd rfl hn
    subst hn'
    clear hn
    obtain ⟨k, hk⟩ : ∃ k, cmpN x y = k := ⟨_, rfl⟩
    by_cases hk0 : k < 0
    · have hlt := cmpN_lt' (by rw [hk]; exact hk0)
      have HZ : Hid (wv (!n) (y - x) = z + z') := Lib.hid (by rw [wv_sub' n _ _ (by omega), hz, hz'])
      have HK := Lib.hid hk
      have tA0 := tA.c0; have tA1 := tA.c1; have tB0 := tB.c0; have tB1 := tB.c1
      clear hz hz' hk
      go_enter Try.func31, Try.ntmps31
      go_wp2_with fail
      rw [← hW0]
      clear hW0
      go_wp2_with fail
      refine (refCmp_any q q' m m' c c' _ _ _ h1 h1' (by omega) (by omega) rA rB).mono ?_
      rw [HX.out, HY.out, HK.out]
      rintro e W1 ⟨rfl, hb⟩
      clear tA0 tA1 tB0 tB1
      have hd := kd (Below.refl W1.heap.size W1)
      replace rA := (rA.next hb).next hd
      replace rB := (rB.next hb).next hd
      replace tA := tA.next hb
      replace tB := tB.next hb
      replace tZ := (tZ.next hb).next hd
      replace hW := below_next (below_next hW hb) hd
      have tA0 := tA.c0; have tA1 := tA.c1; have tB0 := tB.c0; have tB1 := tB.c1
      clear hb
      go_wp2_with fail
      go_region_held3 (fun w' => w'.cell? ⟨w.heap.size, 1, none⟩ = some (.slice q m c) ∧ w'.cell? ⟨w.heap.size + 1, 0, none⟩ = some (.bool !n) ∧ w'.cell? ⟨w.heap.size + 1, 1, none⟩ = some (.slice q' m' c'))
        (((try go_split_ands); ((repeat' apply And.intro) <;> first | exact kdc (by assumption) | exact kp hb (by assumption) | exact ksc (ksc (by assumption) (by first | (simp; done) | (simp; omega))) (by first | (simp; done) | (simp; omega)))))
        (first
          | (go_at_call 48; refine (refSub_any q' q m' m c' c _ _ _ (by omega) (by omega) rB rA (Nat.le_refl _) (Nat.le_refl _) (by rw [HX.out, HY.out]; omega)).mono ?_; rw [HX.out, HY.out]; rintro e W1 ⟨q1, m1, c1, rfl, hmc1, _, hR2, hb⟩; have tZ := tZ.next hb; have hW := below_next hW hb)
          | (go_at_call 20; refine (refNew_any (!n) _ _ _ _ _ (hmc1) (by have := hR2.count; omega) hR2 (Nat.le_refl _) (val_digs (by omega) _)).mono ?_; rintro e W9 ⟨v, rfl, ⟨q9, m9, c9, rfl, hm9, hR9⟩, hb⟩; have tZ := tZ.next hb; have hW := below_next hW hb; have t90 := tZ.c0; have t91 := tZ.c1; have t92 := tZ.f0; have t93 := tZ.f1))
      have hr := (tZ.set0 (.bool (decide (wv (!n) (y - x) < 0)))).set1 (.slice q9 m9 c9)
      have r0 := hr.c0
      have r1 := hr.c1
      go_wp2
      exact bodyPost_ret (v := .agg #[.bool (decide (wv (!n) (y - x) < 0)), .slice q9 m9 c9]) (by simp [results, Try.results31, go_sem, r0, r1]) rfl
        ⟨_, rfl, by rw [← HZ.out]; exact NumAt.set2 hm9 hR9 tZ _ _, below_set2 hW (by omega)⟩
    · have hge := cmpN_ge (by rw [hk]; exact hk0)
      have hk1 : 0 ≤ k := by omega
      have HZ : Hid (wv n (x - y) = z + z') := Lib.hid (by rw [wv_sub n _ _ (by omega), hz, hz'])
      have HK := Lib.hid hk
      have tA0 := tA.c0; have tA1 := tA.c1; have tB0 := tB.c0; have tB1 := tB.c1
      clear hz hz' hk hk0
      go_enter Try.func31, Try.ntmps31
      go_wp2_with fail
      rw [← hW0]
      clear hW0
      go_wp2_with fail
      refine (refCmp_any q q' m m' c c' _ _ _ h1 h1' (by omega) (by omega) rA rB).mono ?_
      rw [HX.out, HY.out, HK.out]
      rintro e W1 ⟨rfl, hb⟩
      clear tA0 tA1 tB0 tB1
      have hd := kd (Below.refl W1.heap.size W1)
      replace rA := (rA.next hb).next hd
      replace rB := (rB.next hb).next hd
      replace tA := tA.next hb
      replace tB := tB.next hb
      replace tZ := (tZ.next hb).next hd
      replace hW := below_next (below_next hW hb) hd
      have tA0 := tA.c0; have tA1 := tA.c1; have tB0 := tB.c0; have tB1 := tB.c1
      clear hb
      go_wp2_with fail
      go_region_held3 (fun w' => w'.cell? ⟨w.heap.size, 0, none⟩ = some (.bool n) ∧ w'.cell? ⟨w.heap.size, 1, none⟩ = some (.slice q m c) ∧ w'.cell? ⟨w.heap.size + 1, 1, none⟩ = some (.slice q' m' c'))
        (((try go_split_ands); ((repeat' apply And.intro) <;> first | exact kdc (by assumption) | exact kp hb (by assumption) | exact ksc (ksc (by assumption) (by first | (simp; done) | (simp; omega))) (by first | (simp; done) | (simp; omega)))))
        (first
          | (go_at_call 48; refine (refSub_any q q' m m' c c' _ _ _ (by omega) (by omega) rA rB (Nat.le_refl _) (Nat.le_refl _) (by rw [HX.out, HY.out]; omega)).mono ?_; rw [HX.out, HY.out]; rintro e W1 ⟨q1, m1, c1, rfl, hmc1, _, hR2, hb⟩; have tZ := tZ.next hb; have hW := below_next hW hb)
          | (go_at_call 20; refine (refNew_any n _ _ _ _ _ (hmc1) (by have := hR2.count; omega) hR2 (Nat.le_refl _) (val_digs (by omega) _)).mono ?_; rintro e W9 ⟨v, rfl, ⟨q9, m9, c9, rfl, hm9, hR9⟩, hb⟩; have tZ := tZ.next hb; have hW := below_next hW hb; have t90 := tZ.c0; have t91 := tZ.c1; have t92 := tZ.f0; have t93 := tZ.f1))
      have hr := (tZ.set0 (.bool (decide (wv n (x - y) < 0)))).set1 (.slice q9 m9 c9)
      have r0 := hr.c0
      have r1 := hr.c1
      go_wp2
      exact bodyPost_ret (v := .agg #[.bool (decide (wv n (x - y) < 0)), .slice q9 m9 c9]) (by simp [results, Try.results31, go_sem, r0, r1]) rfl
        ⟨_, rfl, by rw [← HZ.out]; exact NumAt.set2 hm9 hR9 tZ _ _, below_set2 hW (by omega)⟩

set_option maxHeartbeats 4000000 in
theorem refIntSub_any (v v' : Value) (z z' : Int) (w : World) (hv : NumAt w v z) (hv' : NumAt w v' z') (k1 : (digs 65536 z.natAbs).length ≤ 800000) (k2 : (digs 65536 z'.natAbs).length ≤ 800000) :
    Calls Try.prog 18 #[v, v'] w (GivesNum w (z - z')) := by
  obtain ⟨q, m, c, rfl, h1, hR⟩ := hv
  obtain ⟨q', m', c', rfl, h1', hR'⟩ := hv'
  obtain ⟨n, hn⟩ : ∃ b, b = (decide (z < 0)) := ⟨_, rfl⟩
  obtain ⟨n', hn'⟩ : ∃ b, b = (decide (z' < 0)) := ⟨_, rfl⟩
  obtain ⟨W0, hW0, hW, tA, tB, tZ⟩ := enter3 w (.bool n) (.slice q m c) 36 (.bool n') (.slice q' m' c') 36 (.bool false) (.slice none 0 0) 36
  have hd := kd (Below.refl W0.heap.size W0)
  have rA := hR.next (kd hW)
  have rB := hR'.next (kd hW)
  have iA : NumAt W0.drew (.agg #[.bool n, .slice q m c]) z := ⟨q, m, c, by rw [hn], h1, rA⟩
  have iB : NumAt W0.drew (.agg #[.bool n', .slice q' m' c']) z' := ⟨q', m', c', by rw [hn'], h1', rB⟩
  have HZ : Hid (z + -z' = z - z') := Lib.hid (by omega)
  have tA0 := tA.c0; have tA1 := tA.c1; have tB0 := tB.c0; have tB1 := tB.c1
  rw [← hn, ← hn']
  clear hR hR' rA rB hn hn'
  go_enter Try.func18, Try.ntmps18
  go_wp2_with fail
  rw [← hW0]
  clear hW0
  replace tZ := tZ.next hd
  replace hW := below_next hW hd
  go_region_held3 (fun w' => w'.cell? ⟨w.heap.size, 0, none⟩ = some (.bool n) ∧ w'.cell? ⟨w.heap.size, 1, none⟩ = some (.slice q m c) ∧ w'.cell? ⟨w.heap.size + 1, 0, none⟩ = some (.bool n') ∧ w'.cell? ⟨w.heap.size + 1, 1, none⟩ = some (.slice q' m' c'))
    (((try go_split_ands); ((repeat' apply And.intro) <;> first | exact kdc (by assumption) | exact kp hb (by assumption) | exact ksc (ksc (by assumption) (by first | (simp; done) | (simp; omega))) (by first | (simp; done) | (simp; omega)))))
    (first
      | (go_at_call 35; refine (refNeg_any _ _ _ iB (by omega)).mono ?_; rintro e W1 ⟨v1, rfl, hv1, hb⟩; have hb1 := hb; have tZ := tZ.next hb; have hW := below_next hW hb)
      | (go_at_call 31; refine (refIntAdd_any _ _ _ _ _ (iA.next hb1) hv1 k1 (by rw [Int.natAbs_neg]; exact k2)).mono ?_; rintro e W9 ⟨v, rfl, ⟨q9, m9, c9, rfl, hm9, hR9⟩, hb⟩; have tZ := tZ.next hb; have hW := below_next hW hb; have t90 := tZ.c0; have t91 := tZ.c1; have t92 := tZ.f0; have t93 := tZ.f1))
  have hr := (tZ.set0 (.bool (decide (z + -z' < 0)))).set1 (.slice q9 m9 c9)
  have r0 := hr.c0
  have r1 := hr.c1
  go_wp2
  exact bodyPost_ret (v := .agg #[.bool (decide (z + -z' < 0)), .slice q9 m9 c9]) (by simp [results, Try.results18, go_sem, r0, r1]) rfl
    ⟨_, rfl, by rw [← HZ.out]; exact NumAt.set2 hm9 hR9 tZ _ _, below_set2 hW (by omega)⟩

set_option maxHeartbeats 4000000 in
theorem refIntCmp_any (v v' : Value) (z z' : Int) (w : World) (hv : NumAt w v z) (hv' : NumAt w v' z') (k1 : (digs 65536 z.natAbs).length ≤ 800000) (k2 : (digs 65536 z'.natAbs).length ≤ 800000) :
    Calls Try.prog 19 #[v, v'] w fun e w' => e = .returned (.int .i64 (z - z').sign) ∧ Below w.heap.size w w' := by
  obtain ⟨q, m, c, rfl, h1, hR⟩ := hv
  obtain ⟨q', m', c', rfl, h1', hR'⟩ := hv'
  obtain ⟨n, hn⟩ : ∃ b, b = (decide (z < 0)) := ⟨_, rfl⟩
  obtain ⟨n', hn'⟩ : ∃ b, b = (decide (z' < 0)) := ⟨_, rfl⟩
  obtain ⟨W0, hW0, hW, tA, tB⟩ := enter2 w (.bool n) (.slice q m c) 36 (.bool n') (.slice q' m' c') 36
  have iA : NumAt W0 (.agg #[.bool n, .slice q m c]) z := ⟨q, m, c, by rw [hn], h1, hR.next hW⟩
  have iB : NumAt W0 (.agg #[.bool n', .slice q' m' c']) z' := ⟨q', m', c', by rw [hn'], h1', hR'.next hW⟩
  have tA0 := tA.c0; have tA1 := tA.c1; have tB0 := tB.c0; have tB1 := tB.c1
  obtain ⟨s, hs⟩ : ∃ s, (z - z').sign = s := ⟨_, rfl⟩
  rw [← hn, ← hn', hs]
  have HS := Lib.hid hs
  clear hR hR' hn hn' hs
  go_enter Try.func19, Try.ntmps19
  go_wp2_with fail
  rw [← hW0]
  clear hW0
  refine (refIntSub_any _ _ _ _ _ iA iB k1 k2).mono ?_
  rintro e W1 ⟨v1, rfl, hv1, hb⟩
  replace hW := below_next hW hb
  clear hb
  go_wp2_with fail
  refine (refSign_any _ _ s _ hv1 HS.out).mono ?_
  rintro e W2 ⟨rfl, hb⟩
  replace hW := below_next hW hb
  go_wp2
  go_ret
  exact ⟨rfl, hW⟩
end Go.Proofs.Ytknkakkdhihngaa
