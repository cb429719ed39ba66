/- The document's own answers for layer 4: Int, Same, Make. -/
import Derived.Test.YtndcaajebomkhaaGreatDoorRatB
import Derived.Test.YtndcaajebomkhaaGreatDoorRefV
import Derived.Test.YtndcaajebomkhaaGreatDoorRefS
namespace Go.Proofs.YtndcaajebomkhaaGreatDoor
open Go.RowKit

set_option maxHeartbeats 1000000 in
theorem refInt_any (q : Option Addr) (m c : Nat) (ds : List Nat) (w : World) (h : m ≤ c) (hl : m ≤ 900000) (hR : Rd .u32 65536 w.heap.size w q m ds) {y : Nat} (hy : val 65536 ds = y) (hly : (digs 65536 y).length ≤ 900000) :
    Calls Tryz.prog 47 #[.slice q m c] w (GivesInt w (y : Int)) := by
  have HY := Lib.hid hy
  have HL := Lib.hid hly
  obtain ⟨W0, hW0, hW, tZ⟩ := enter1 w (.bool false) (.slice none 0 0) 24
  replace hR := hR.next hW
  clear hy hly
  go_enter Tryz.func47, Tryz.ntmps47
  go_wp2_with fail
  rw [← hW0]
  clear hW0
  refine (refNew_any false q m c ds W0 h (by omega) hR (Nat.le_refl _) HY.out).mono ?_
  rintro e w1 ⟨v, rfl, hv, hb⟩
  rw [wv_false] at hv
  replace tZ := tZ.next hb
  replace hW := below_next hW hb
  obtain ⟨q1, m1, c1, rfl⟩ := hv.parts
  go_wp2_with fail
  refine (refTo_any _ _ w1 hv (by rw [Int.natAbs_natCast]; exact HL.out)).mono ?_
  rintro e w2 ⟨v2, rfl, ⟨q2, m2, c2, rfl, hm2, hR2⟩, hb2⟩
  replace tZ := tZ.next hb2
  replace hW := below_next hW hb2
  obtain ⟨z, hz⟩ : ∃ z, z = (y : Int) := ⟨_, rfl⟩
  rw [← hz] at hR2 ⊢
  have HZ := Lib.hid hz
  have z0 := tZ.c0; have z1 := tZ.c1; have f0 := tZ.f0; have f1 := tZ.f1
  have hr := (tZ.set0 (.bool (decide (z < 0)))).set1 (.slice q2 m2 c2)
  have r0 := hr.c0
  have r1 := hr.c1
  have pv := PlainAt.set2 (z := z) hm2 hR2 tZ (.bool (decide (z < 0))) (.slice q2 m2 c2)
  have hW2 := below_set2 (u := .bool (decide (z < 0))) (v := .slice q2 m2 c2) hW (Nat.le_refl _)
  clear hb hb2 hv hR hR2 hz
  go_wp2
  exact bodyPost_ret (v := .agg #[.bool (decide (z < 0)), .slice q2 m2 c2]) (by simp [results, Tryz.results47, go_sem, r0, r1]) rfl ⟨_, rfl, by rw [← HZ.out]; exact pv, hW2⟩

theorem enterFF (w : World) (x y z u : Value) (T : TypeId) (x2 y2 z2 u2 : Value) (T2 : TypeId) : ∃ W, W = (w.alloc (.cells #[x, y, z, u] T)).alloc (.cells #[x2, y2, z2, u2] T2) ∧ Below w.heap.size w W ∧ Four W w.heap.size x y z u T ∧ Four W (w.heap.size + 1) x2 y2 z2 u2 T2 :=
  ⟨_, rfl, ((Below.refl _ _).alloc (Nat.le_refl _) _).alloc (by simp) _, (Four.new _ _ _ _ _ _).alloc _, Four.made _ _ _ _ (by simp)⟩
set_option maxHeartbeats 1000000 in
theorem refRatioSame_any (v v' : Value) (z d : Int) (w : World) (hv : RatAt w v z d) (hv' : RatAt w v' z d) (hl : (digs W64 z.natAbs).length ≤ 900000) (hl' : (digs W64 d.natAbs).length ≤ 900000) :
    Calls Tryz.prog 17 #[v, v'] w fun e w' => e = .returned (.bool true) ∧ Below w.heap.size w w' := by
  obtain ⟨q1, m1, c1, q2, m2, c2, rfl, _, _, _, _, pA, pB⟩ := hv.parts
  obtain ⟨q3, m3, c3, q4, m4, c4, rfl, _, _, _, _, pC, pD⟩ := hv'.parts
  obtain ⟨W0, hW0, hW, tA, tB⟩ := enterFF w (.bool (decide (z < 0))) (.slice q1 m1 c1) (.bool (decide (d < 0))) (.slice q2 m2 c2) 44 (.bool (decide (z < 0))) (.slice q3 m3 c3) (.bool (decide (d < 0))) (.slice q4 m4 c4) 44
  replace pA := pA.next hW
  replace pB := pB.next hW
  replace pC := pC.next hW
  replace pD := pD.next hW
  have HL := Lib.hid hl
  have HL' := Lib.hid hl'
  obtain ⟨n, hn⟩ : ∃ n, n = decide (z < 0) := ⟨_, rfl⟩
  obtain ⟨n', hn'⟩ : ∃ n', n' = decide (d < 0) := ⟨_, rfl⟩
  rw [← hn] at tA tB hW0 pA pC ⊢
  rw [← hn'] at tA tB hW0 pB pD ⊢
  have a0 := tA.c0; have a1 := tA.c1; have a2 := tA.c2; have a3 := tA.c3
  have b0 := tB.c0; have b1 := tB.c1; have b2 := tB.c2; have b3 := tB.c3
  clear hl hl' hn hn' hv hv'
  go_enter Tryz.func17, Tryz.ntmps17
  go_wp2_with fail
  rw [← hW0]
  clear hW0
  refine (refIntSame_any _ _ z z W0 pA pC rfl HL.out).mono ?_
  rintro e w1 ⟨rfl, hb⟩
  replace pB := pB.next hb
  replace pD := pD.next hb
  replace tA := tA.next hb
  replace tB := tB.next hb
  replace hW := below_next hW hb
  clear hb pA pC a0 a1 a2 a3 b0 b1 b2 b3
  have a0 := tA.c0; have a1 := tA.c1; have a2 := tA.c2; have a3 := tA.c3
  have b0 := tB.c0; have b1 := tB.c1; have b2 := tB.c2; have b3 := tB.c3
  go_wp2_with fail
  refine (refIntSame_any _ _ d d w1 pB pD rfl HL'.out).mono ?_
  rintro e w2 ⟨rfl, hb⟩
  replace hW := below_next hW hb
  clear hb pB pD a0 a1 a2 a3 b0 b1 b2 b3 tA tB
  go_wp2
  go_ret
  exact ⟨rfl, hW⟩

set_option maxRecDepth 100000 in
set_option maxHeartbeats 4000000 in
theorem refRatioMake_any (v v' : Value) (z d : Int) (w : World) (hv : NumN w v z) (hv' : NumN w v' d) (hd0 : d ≠ 0) (hl : (digs 65536 z.natAbs).length ≤ 10000) (hl' : (digs 65536 d.natAbs).length ≤ 10000) :
    Calls Tryz.prog 18 #[v, v'] w (GivesRat w (numOf z d) (denOf z d)) := by
  have two : 2 ≤ 65536 := by omega
  obtain ⟨q, m, c, rfl, h1, n1, r1⟩ := hv
  obtain ⟨q', m', c', rfl, h2, n2, r2⟩ := hv'
  obtain ⟨W0, hW0, hW, tA, tB, tZ⟩ := enterM w (.bool (decide (z < 0))) (.slice q m c) 28 (.bool (decide (d < 0))) (.slice q' m' c') 28 (.bool false) (.slice none 0 0) (.bool false) (.slice none 0 0) 44
  have km := r1.count
  have km' := r2.count
  have k1 : m ≤ 10000 := by omega
  have k2 : m' ≤ 10000 := by omega
  replace r1 := r1.next hW
  replace r2 := r2.next hW
  obtain ⟨x, hx⟩ : ∃ x, x = z.natAbs := ⟨_, rfl⟩
  obtain ⟨y, hy⟩ : ∃ y, y = d.natAbs := ⟨_, rfl⟩
  have HG : Hid (0 < Nat.gcd x y) := Lib.hid (Nat.gcd_pos_of_pos_right _ (by omega))
  have HRES : Hid (wv (!(decide (z < 0) == decide (d < 0))) (x / Nat.gcd x y) = numOf z d ∧ ((y / Nat.gcd x y : Nat) : Int) = denOf z d) := Lib.hid (by
    rw [hx, hy]
    exact ⟨rfl, rfl⟩)
  have bx : Hid (x < 65536 ^ m) := Lib.hid (by have h := r1.val_lt (by omega) (Nat.le_refl _); rw [val_digs two] at h; rw [hx]; exact h)
  have bY : Hid (y < 65536 ^ m') := Lib.hid (by have h := r2.val_lt (by omega) (Nat.le_refl _); rw [val_digs two] at h; rw [hy]; exact h)
  have bg : Hid (Nat.gcd x y < 65536 ^ m') := Lib.hid (Nat.lt_of_le_of_lt (Nat.le_of_dvd (by omega) (Nat.gcd_dvd_right _ _)) bY.out)
  rw [← hx] at r1
  rw [← hy] at r2
  obtain ⟨n, hn⟩ : ∃ n, n = decide (z < 0) := ⟨_, rfl⟩
  obtain ⟨n', hn'⟩ : ∃ n', n' = decide (d < 0) := ⟨_, rfl⟩
  rw [← hn] at tA hW0 HRES ⊢
  rw [← hn'] at tB hW0 HRES ⊢
  have a0 := tA.c0; have a1 := tA.c1; have b0 := tB.c0; have b1 := tB.c1
  clear hx hy hn hn' hl hl' km km' hd0
  go_enter Tryz.func18, Tryz.ntmps18
  go_wp2_with fail
  rw [← hW0]
  clear hW0
  refine (refGcd_any q q' m m' c c' _ _ W0 h1 h2 k1 k2 n1 n2 r1 r2 (Nat.le_refl _) (Nat.le_refl _)).mono ?_
  rw [val_digs two, val_digs two]
  rintro e w1 ⟨qg, mg, cg, rfl, hmg, _, hRg, hb⟩
  have kg : mg ≤ 10000 := by have := hRg.short two bg.out; omega
  obtain ⟨g, hg⟩ : ∃ g, g = Nat.gcd x y := ⟨_, rfl⟩
  rw [← hg] at hRg HG HRES
  replace r1 := r1.next hb
  replace r2 := r2.next hb
  replace tA := tA.next hb
  replace tB := tB.next hb
  replace tZ := tZ.next hb
  replace hW := below_next hW hb
  clear hb a0 a1 b0 b1 bg hg n1 n2
  have a0 := tA.c0; have a1 := tA.c1; have b0 := tB.c0; have b1 := tB.c1
  go_wp2_with fail
  refine (refQuo_any q qg m mg c cg _ _ w1 h1 hmg k1 kg r1 hRg (Nat.le_refl _) (Nat.le_refl _) (by rw [val_digs two]; exact HG.out)).mono ?_
  rw [val_digs two, val_digs two]
  rintro e w2 ⟨q3, m3, c3, q4, m4, c4, rfl, hm3, _, hR3, _, _, _, hb⟩
  have k3 : m3 ≤ 10000 := by have := hR3.short two (Nat.lt_of_le_of_lt (Nat.div_le_self _ _) bx.out); omega
  replace r2 := r2.next hb
  replace hRg := hRg.next hb
  replace tA := tA.next hb
  replace tB := tB.next hb
  replace tZ := tZ.next hb
  replace hW := below_next hW hb
  clear hb a0 a1 b0 b1 r1
  have a0 := tA.c0; have a1 := tA.c1; have b0 := tB.c0; have b1 := tB.c1
  go_wp2_with fail
  refine (refQuo_any q' qg m' mg c' cg _ _ w2 h2 hmg k2 kg r2 hRg (Nat.le_refl _) (Nat.le_refl _) (by rw [val_digs two]; exact HG.out)).mono ?_
  rw [val_digs two, val_digs two]
  rintro e w3 ⟨q5, m5, c5, q6, m6, c6, rfl, hm5, _, hR5, _, _, _, hb⟩
  have k5 : m5 ≤ 10000 := by have := hR5.short two (Nat.lt_of_le_of_lt (Nat.div_le_self _ _) bY.out); omega
  have HLX : Hid ((digs 65536 (x / g)).length ≤ 10000) := Lib.hid (by rw [hR3.count]; exact k3)
  have HLY : Hid ((digs 65536 (y / g)).length ≤ 10000) := Lib.hid (by rw [hR5.count]; exact k5)
  replace hR3 := hR3.next hb
  replace tA := tA.next hb
  replace tB := tB.next hb
  replace tZ := tZ.next hb
  replace hW := below_next hW hb
  clear hb a0 a1 b0 b1 r2 hRg bx bY HG
  have a0 := tA.c0; have a1 := tA.c1; have b0 := tB.c0; have b1 := tB.c1
  go_wp2_with fail
  refine (refNew_any (!(n == n')) q3 m3 c3 _ w3 hm3 (by omega) hR3 (Nat.le_refl _) (val_digs two _)).mono ?_
  rintro e w4 ⟨v4, rfl, p4, hb⟩
  rw [HRES.out.1] at p4
  replace hR5 := hR5.next hb
  replace tZ := tZ.next hb
  replace hW := below_next hW hb
  have HLZ : Hid ((digs 65536 (numOf z d).natAbs).length ≤ 900000) := Lib.hid (by
    have h1 := HRES.out.1
    have h2 : (numOf z d).natAbs = x / g := by rw [← h1, wv_abs]
    have h3 := HLX.out
    rw [h2]; omega)
  obtain ⟨z', hz'⟩ : ∃ z', z' = numOf z d := ⟨_, rfl⟩
  rw [← hz'] at p4 HLZ
  have HZ' := Lib.hid hz'
  clear hb a0 a1 b0 b1 tA tB hR3 hz' HLX
  obtain ⟨q7, m7, c7, rfl⟩ := p4.parts
  go_wp2_with fail
  refine (refTo_any _ z' w4 p4 HLZ.out).mono ?_
  rintro e w5 ⟨v5, rfl, ⟨q8, m8, c8, rfl, hm8, hR8⟩, hb⟩
  replace hR5 := hR5.next hb
  replace tZ := tZ.next hb
  replace hW := below_next hW hb
  clear hb p4
  go_wp2_with fail
  refine (refInt_any q5 m5 c5 _ w5 hm5 (by omega) hR5 (val_digs two _) (by have := HLY.out; omega)).mono ?_
  rintro e w6 ⟨v6, rfl, ⟨q9, m9, c9, rfl, hm9, hR9⟩, hb⟩
  rw [HRES.out.2] at hR9 ⊢
  replace hR8 := hR8.next hb
  replace tZ := tZ.next hb
  replace hW := below_next hW hb
  obtain ⟨d', hd'⟩ : ∃ d', d' = denOf z d := ⟨_, rfl⟩
  rw [← hd'] at hR9 ⊢
  have HD' := Lib.hid hd'
  have hpv := RatAt.stored (z := z') (d := d') tZ hm8 hm9 hR8 hR9
  have hr := tZ.stored (.bool (decide (z' < 0))) (.slice q8 m8 c8) (.bool (decide (d' < 0))) (.slice q9 m9 c9)
  have r0 := hr.c0; have r1 := hr.c1; have r2 := hr.c2; have r3 := hr.c3
  have z0 := tZ.c0; have z1 := tZ.c1; have z2 := tZ.c2; have z3 := tZ.c3
  have f0 := tZ.free 0; have f1 := tZ.free 1; have f2 := tZ.free 2; have f3 := tZ.free 3
  unfold stored4 at r0 r1 r2 r3
  have hW2 : Below w.heap.size w (stored4 w6 (w.heap.size + 2) (.bool (decide (z' < 0))) (.slice q8 m8 c8) (.bool (decide (d' < 0))) (.slice q9 m9 c9)) := below_stored hW (by omega)
  have HP := Lib.hid (show GivesRat w z' d' _ _ from ⟨_, rfl, hpv, hW2⟩)
  clear hW2 hpv hR5 hR8 hR9 hr tZ hb HRES hd' HLY HLZ
  go_wp2
  exact bodyPost_ret (v := .agg #[.bool (decide (z' < 0)), .slice q8 m8 c8, .bool (decide (d' < 0)), .slice q9 m9 c9]) (by simp [results, Tryz.results18, go_sem, r0, r1, r2, r3]) rfl (by rw [← HZ'.out, ← HD'.out]; exact HP.out)
end Go.Proofs.YtndcaajebomkhaaGreatDoor
