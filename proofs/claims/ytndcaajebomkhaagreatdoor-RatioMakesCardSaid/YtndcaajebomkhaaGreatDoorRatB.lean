/- Layer 4 (ratio): Make of any two whole numbers. -/
import Derived.Test.YtndcaajebomkhaaGreatDoorRatA
import Derived.Test.YtndcaajebomkhaaGreatDoorSplitC
namespace Go.Proofs.YtndcaajebomkhaaGreatDoor
open Go.RowKit

/-- A ratio comes back, beside nil error. -/
def GivesRat2 (w : World) (z d : Int) (e : Ending) (w' : World) : Prop := ∃ v, e = .returned (.tuple #[v, .nilIface]) ∧ RatAt w' v z d ∧ Below w.heap.size w w'
def GivesRat (w : World) (z d : Int) (e : Ending) (w' : World) : Prop := ∃ v, e = .returned v ∧ RatAt w' v z d ∧ Below w.heap.size w w'

set_option maxHeartbeats 1000000 in
/-- The closure: what its variable holds is taken out of a number. -/
theorem ratioTake_any (A : Nat) (qg : Option Addr) (mg cg g : Nat) (neg : Bool) (p : Option Addr) (len cap : Nat) (xs : List Nat) (w : World) (ho : One w A (.slice qg mg cg)) (hmg : mg ≤ cg) (kg : mg ≤ 1024) (hg : Rd .u64 W64 w.heap.size w qg mg (digs W64 g)) (hg0 : 0 < g)
    (h : len ≤ cap) (hl : len ≤ 1024) (hr : Rd .u64 W64 w.heap.size w p len xs) :
    Calls Tryz.prog 43 #[.bool neg, .slice p len cap, .pointer (some ⟨A, 0, none⟩)] w (GivesInt w (wv neg (val W64 xs / g))) := by
  obtain ⟨W0, hW0, hW, tZ⟩ := enter1 w (.bool false) (.slice none 0 0) 24
  have oc := (ho.next hW).c0
  have hg1 := hg.next hW
  have hr1 := hr.next hW
  have hbl : Hid (val W64 xs / g < W64 ^ len) := Lib.hid (Nat.lt_of_le_of_lt (Nat.div_le_self _ _) (hr.val_lt W64_pos (Nat.le_refl _)))
  have HG0 := Lib.hid hg0
  have oc' : (w.alloc (.cells #[.bool false, .slice none 0 0] 24)).cell? ⟨A, 0, none⟩ = some (.slice qg mg cg) := by rw [← hW0]; exact oc
  go_enter Tryz.func43, Tryz.ntmps43
  go_wp2_with fail
  rw [← hW0]
  clear hW0 oc'
  refine (splitQuo_any p qg len mg cap cg xs _ W0 h hmg hl kg hr1 hg1 (Nat.le_refl _) (Nat.le_refl _) (by rw [val_digs two_le_W64]; exact HG0.out)).mono ?_
  rw [val_digs two_le_W64]
  rintro e w1 ⟨q1, m1, c1, q2, m2, c2, rfl, hm1, _, hR1, _, _, _, hb⟩
  have hm := hR1.short two_le_W64 hbl.out
  replace tZ := tZ.next hb
  replace hW := below_next hW hb
  clear ho oc hg hr hg1 hr1 hb
  go_wp2_with fail
  have iR : IntAt w1 (.agg #[.bool neg, .slice q1 m1 c1]) 900000 (wv neg (val W64 xs / g)) := ⟨neg, q1, m1, c1, _, rfl, hm1, by omega, hR1, by rw [val_digs two_le_W64]⟩
  obtain ⟨r, hr⟩ : ∃ r, r = wv neg (val W64 xs / g) := ⟨_, rfl⟩
  rw [← hr] at iR
  have HRV := Lib.hid hr
  clear hR1 hr
  refine (wholePlain_any _ r w1 iR).mono ?_
  rintro e w3 ⟨v, rfl, pv, hb⟩
  obtain ⟨q3, m3, c3, rfl, hm3, hR3⟩ := pv
  replace tZ := tZ.next hb
  replace hW := below_next hW hb
  have z0 := tZ.c0; have z1 := tZ.c1; have f0 := tZ.f0; have f1 := tZ.f1
  have hr := (tZ.set0 (.bool (decide (r < 0)))).set1 (.slice q3 m3 c3)
  have r0 := hr.c0
  have r1 := hr.c1
  have pv := PlainAt.set2 (z := r) hm3 hR3 tZ (.bool (decide (r < 0))) (.slice q3 m3 c3)
  have hW2 := below_set2 (u := .bool (decide (r < 0))) (v := .slice q3 m3 c3) hW (Nat.le_refl _)
  clear hb iR hR3
  go_wp2
  exact bodyPost_ret (v := .agg #[.bool (decide (r < 0)), .slice q3 m3 c3]) (by simp [results, Tryz.results43, go_sem, r0, r1]) rfl ⟨_, rfl, by rw [← HRV.out]; exact pv, hW2⟩

theorem enterM (w : World) (x y : Value) (T : TypeId) (x2 y2 : Value) (T2 : TypeId) (x3 y3 z3 u3 : Value) (T3 : TypeId) : ∃ W, W = ((w.alloc (.cells #[x, y] T)).alloc (.cells #[x2, y2] T2)).alloc (.cells #[x3, y3, z3, u3] T3) ∧ Below w.heap.size w W ∧
    Two W w.heap.size x y T ∧ Two W (w.heap.size + 1) x2 y2 T2 ∧ Four W (w.heap.size + 2) x3 y3 z3 u3 T3 :=
  ⟨_, rfl, (((Below.refl _ _).alloc (Nat.le_refl _) _).alloc (by simp) _).alloc (by simp; omega) _, ((Two.new _ _ _ _).alloc _).alloc _, (Two.made _ _ (by simp)).alloc _, Four.made _ _ _ _ (by simp)⟩
set_option maxRecDepth 100000 in
set_option maxHeartbeats 2000000 in
/-- Nothing, and the code 6, where the Den is 0. -/
theorem ratioMake_zero (n n' : Bool) (q q' : Option Addr) (m m' c c' : Nat) (ys : List Nat) (w : World) (h2 : m' ≤ c') (k2 : m' ≤ 1024)
    (r2 : Rd .u64 W64 w.heap.size w q' m' ys) (hd : wv n' (val W64 ys) = 0) :
    Calls Tryz.prog 15 #[.agg #[.bool n, .slice q m c], .agg #[.bool n', .slice q' m' c']] w fun e w' =>
      e = .returned (.tuple #[.agg #[.bool false, .slice none 0 0, .bool false, .slice none 0 0], .iface 73 (.int .i64 6)]) ∧ Below w.heap.size w w' := by
  obtain ⟨W0, hW0, hW, tA, tB, tZ⟩ := enterM w (.bool n) (.slice q m c) 24 (.bool n') (.slice q' m' c') 24 (.bool false) (.slice none 0 0) (.bool false) (.slice none 0 0) 44
  replace r2 := r2.next hW
  have iB : IntAt W0 (.agg #[.bool n', .slice q' m' c']) 900000 0 := ⟨n', q', m', c', ys, rfl, h2, by omega, r2, hd⟩
  have a0 := tA.c0; have a1 := tA.c1; have b0 := tB.c0; have b1 := tB.c1
  clear hd r2
  go_enter Tryz.func15, Tryz.ntmps15
  go_wp2_with fail
  rw [← hW0]
  clear hW0
  refine (wholeSign_is _ 0 0 W0 iB rfl).mono ?_
  rintro e w1 ⟨rfl, hb⟩
  replace tZ := tZ.next hb
  replace hW := below_next hW hb
  clear hb iB a0 a1 b0 b1 tA tB
  have z0 := tZ.c0; have z1 := tZ.c1; have z2 := tZ.c2; have z3 := tZ.c3
  have f0 := tZ.free 0; have f1 := tZ.free 1; have f2 := tZ.free 2; have f3 := tZ.free 3
  have hr := (((tZ.set0 (.bool false)).set1 (.slice none 0 0)).set2 (.bool false)).set3 (.slice none 0 0)
  have r0 := hr.c0; have r1 := hr.c1; have r2 := hr.c2; have r3 := hr.c3
  have hW2 := below_set4 (b := w.heap.size + 2) (i := 3) (u := .slice none 0 0) (below_set4 (b := w.heap.size + 2) (i := 2) (u := .bool false) (below_set4 (b := w.heap.size + 2) (i := 1) (u := .slice none 0 0) (below_set4 (b := w.heap.size + 2) (i := 0) (u := .bool false) hW (by omega)) (by omega)) (by omega)) (by omega)
  go_wp2
  exact bodyPost_ret (v := .tuple #[.agg #[.bool false, .slice none 0 0, .bool false, .slice none 0 0], .iface 73 (.int .i64 6)]) (by simp [results, Tryz.results15, go_sem, r0, r1, r2, r3]) rfl ⟨rfl, hW2⟩
set_option maxRecDepth 100000 in
set_option maxHeartbeats 4000000 in
theorem ratioMake_any (n n' : Bool) (q q' : Option Addr) (m m' c c' : Nat) (xs ys : List Nat) (w : World) (h1 : m ≤ c) (h2 : m' ≤ c') (k1 : m ≤ 1024) (k2 : m' ≤ 1024)
    (r1 : Rd .u64 W64 w.heap.size w q m xs) (r2 : Rd .u64 W64 w.heap.size w q' m' ys) (hT : TabVar w) {z d : Int} (hz : wv n (val W64 xs) = z) (hd : wv n' (val W64 ys) = d) (hd0 : d ≠ 0) :
    Calls Tryz.prog 15 #[.agg #[.bool n, .slice q m c], .agg #[.bool n', .slice q' m' c']] w (GivesRat2 w (numOf z d) (denOf z d)) := by
  obtain ⟨W0, hW0, hW, tA, tB, tZ⟩ := enterM w (.bool n) (.slice q m c) 24 (.bool n') (.slice q' m' c') 24 (.bool false) (.slice none 0 0) (.bool false) (.slice none 0 0) 44
  replace r1 := r1.next hW
  replace r2 := r2.next hW
  replace hT := hT.below hW
  have iB : IntAt W0 (.agg #[.bool n', .slice q' m' c']) 900000 d := ⟨n', q', m', c', ys, rfl, h2, by omega, r2, hd⟩
  have hs0 : ¬ d.sign = 0 := by
    have := sign_cases d
    omega
  obtain ⟨s, hs⟩ : ∃ s, d.sign = s := ⟨_, rfl⟩
  rw [hs] at hs0
  have HS := Lib.hid hs
  have a0 := tA.c0; have a1 := tA.c1; have b0 := tB.c0; have b1 := tB.c1
  clear hs
  go_enter Tryz.func15, Tryz.ntmps15
  go_wp2_with fail
  rw [← hW0]
  clear hW0
  refine (wholeSign_is _ d s W0 iB HS.out).mono ?_
  rintro e w1 ⟨rfl, hb⟩
  replace r1 := r1.next hb
  replace r2 := r2.next hb
  replace hT := hT.below hb
  replace tA := tA.next hb
  replace tB := tB.next hb
  replace tZ := tZ.next hb
  replace hW := below_next hW hb
  clear hb iB a0 a1 b0 b1
  have a0 := tA.c0; have a1 := tA.c1; have b0 := tB.c0; have b1 := tB.c1
  go_wp2_with fail
  obtain ⟨x, hx⟩ : ∃ x, x = val W64 xs := ⟨_, rfl⟩
  obtain ⟨y, hy⟩ : ∃ y, y = val W64 ys := ⟨_, rfl⟩
  have HX := Lib.hid hx
  have HY := Lib.hid hy
  have HG : Hid (0 < Nat.gcd x y) := Lib.hid (Nat.gcd_pos_of_pos_right _ (Nat.pos_of_ne_zero (fun h => hd0 (by rw [← hd, ← hy, h, wv_zero]))))
  have HRES : Hid (wv (!(n == n')) (x / Nat.gcd x y) = numOf z d ∧ ((y / Nat.gcd x y : Nat) : Int) = denOf z d) := Lib.hid (by
    have hy0 : 0 < val W64 ys := Nat.pos_of_ne_zero (fun h => hd0 (by rw [← hd, h, wv_zero]))
    rw [← hz, ← hd, hx, hy]
    refine ⟨numOf_flags _ _ _ _ hy0, ?_⟩
    unfold denOf
    rw [wv_abs, wv_abs])
  have bg : Hid (Nat.gcd x y < W64 ^ m') := Lib.hid (by
    have hy0 : 0 < val W64 ys := Nat.pos_of_ne_zero (fun h => hd0 (by rw [← hd, h, wv_zero]))
    rw [hx, hy]
    exact Nat.lt_of_le_of_lt (Nat.le_of_dvd hy0 (Nat.gcd_dvd_right _ _)) (r2.val_lt W64_pos (Nat.le_refl _)))
  clear hx hy hz hd hd0 HS
  refine (splitGcd_any q q' m m' c c' xs ys w1 h1 h2 k1 k2 r1 r2 (Nat.le_refl _) (Nat.le_refl _) hT).mono ?_
  rw [← HX.out, ← HY.out]
  rintro e w2 ⟨qg, mg, cg, rfl, hmg, _, hRg, hb⟩
  have kg : mg ≤ 1024 := by have := hRg.short two_le_W64 bg.out; omega
  obtain ⟨g, hg⟩ : ∃ g, g = Nat.gcd x y := ⟨_, rfl⟩
  rw [← hg] at hRg HG HRES
  replace r1 := r1.next hb
  replace r2 := r2.next hb
  replace tA := tA.next hb
  replace tB := tB.next hb
  replace tZ := tZ.next hb
  replace hW := below_next hW hb
  clear hb a0 a1 b0 b1 hT bg hg
  have ho := One.new w2 qg mg cg
  have hal : Below w2.heap.size w2 (w2.alloc (.cells #[.slice qg mg cg] 22)) := bal
  have hmf : ∀ (fn : Fn) (first cap : Array Value) (w : World), (Instr.makeFunc fn first cap).run Tryz.prog w = .ok (.func fn first cap) w := fun _ _ _ _ => rfl
  go_wp2_with fail
  obtain ⟨A, hA⟩ : ∃ A, A = w2.heap.size := ⟨_, rfl⟩
  obtain ⟨w3, hw3⟩ : ∃ w3, w3 = w2.alloc (.cells #[.slice qg mg cg] 22) := ⟨_, rfl⟩
  rw [← hA] at ho ⊢
  rw [← hw3] at ho hal ⊢
  have hAZ : A ≠ w.heap.size + 2 := by have := tZ.lt; omega
  have hsA : w.heap.size + 2 < A := by have := tZ.lt; omega
  clear hA hw3
  replace hRg := hRg.next hal
  replace r1 := r1.next hal
  replace r2 := r2.next hal
  replace tA := tA.next hal
  replace tB := tB.next hal
  replace tZ := tZ.next hal
  replace hW := below_next hW hal
  clear hal
  have a0 := tA.c0; have a1 := tA.c1; have b0 := tB.c0; have b1 := tB.c1
  have hNZ := tZ.noInt
  obtain ⟨Z, hZ⟩ : ∃ Z, w.heap.size + 1 + 1 = Z := ⟨_, rfl⟩
  have hZ2 : w.heap.size + 2 = Z := hZ
  rw [hZ]
  rw [hZ2] at tZ hNZ hAZ hsA
  have hwZ : w.heap.size ≤ Z := by omega
  have hBZ : w.heap.size + 1 ≠ Z := by omega
  have hA0 : w.heap.size ≠ Z := by omega
  clear hZ hZ2
  have hgr : w3.grownBy w3 (some Z) := World.grownBy.refl _ _
  have hoc : ∀ W', w3.grownBy W' (some Z) → One W' A (.slice qg mg cg) := fun W' hg => ⟨by rw [hg.block A ho.lt (fun h => hAZ (by simp at h; omega))]; exact ho.heap, ho.sl⟩
  have HOC := Lib.hid hoc
  clear hoc
  go_region_held3 (fun w' => w3.grownBy w' (some Z) ∧ w'.cell? ⟨w.heap.size, 0, none⟩ = some (.bool n) ∧ w'.cell? ⟨w.heap.size, 1, none⟩ = some (.slice q m c) ∧ w'.cell? ⟨w.heap.size + 1, 0, none⟩ = some (.bool n') ∧ w'.cell? ⟨w.heap.size + 1, 1, none⟩ = some (.slice q' m' c'))
    (((try go_split_ands); ((repeat' apply And.intro) <;> with_reducible first | assumption | exact grown_put4 (by assumption) | exact grown_call (by assumption) hb | exact grown_drew (by assumption) | exact ksc4 (by assumption) hA0 | exact ksc4 (by assumption) hBZ | exact kp hb (by assumption) | exact kdc (by assumption))))
    (first
      | (go_at_call 43; (try go_split_ands); (with_reducible refine (ratioTake_any A qg mg cg g (!(n == n')) q m c xs _ (HOC.out _ (by assumption)) hmg kg (hRg.grownX hNZ (by assumption)) HG.out h1 k1 (r1.grownX hNZ (by assumption))).mono ?_); rintro e W4 ⟨v1, rfl, p1, hb⟩; obtain ⟨q4, m4, c4, rfl, hm4, hR4⟩ := p1; first | have tZ1 := tZ.next hb | have tZ1 := tZ.drew.next hb)
      | (go_at_call 43; (try go_split_ands); (with_reducible refine (ratioTake_any A qg mg cg g false q' m' c' ys _ (HOC.out _ (by assumption)) hmg kg (hRg.grownX hNZ (by assumption)) HG.out h2 k2 (r2.grownX hNZ (by assumption))).mono ?_); rintro e W5 ⟨v2, rfl, p2, hb⟩; obtain ⟨q5, m5, c5, rfl, hm5, hR5⟩ := p2; (first | have tZ2 := tZ1.next hb | have tZ2 := tZ1.drew.next hb); (first | have hR6 := hR4.next hb | have hR6 := (hR4.next (kd (Below.refl _ _))).next hb); have z0 := tZ2.c0; have z1 := tZ2.c1; have z2 := tZ2.c2; have z3 := tZ2.c3; have f0 := tZ2.free 0; have f1 := tZ2.free 1; have f2 := tZ2.free 2; have f3 := tZ2.free 3))
  rw [← HX.out, HRES.out.1] at hR6
  rw [← HY.out, wv_false, HRES.out.2] at hR5
  rw [← HX.out, ← HY.out, HRES.out.1, wv_false, HRES.out.2]
  obtain ⟨z', hz'⟩ : ∃ z', z' = numOf z d := ⟨_, rfl⟩
  obtain ⟨d', hd'⟩ : ∃ d', d' = denOf z d := ⟨_, rfl⟩
  rw [← hz'] at hR6 ⊢
  rw [← hd'] at hR5 ⊢
  have hpv := RatAt.stored (z := z') (d := d') tZ2 hm4 hm5 hR6 hR5
  have hr := tZ2.stored (.bool (decide (z' < 0))) (.slice q4 m4 c4) (.bool (decide (d' < 0))) (.slice q5 m5 c5)
  have r0 := hr.c0; have r1 := hr.c1; have r2 := hr.c2; have r3 := hr.c3
  unfold stored4 at r0 r1 r2 r3
  go_split_ands
  have hfin : w3.grownBy (stored4 W5 Z (.bool (decide (z' < 0))) (.slice q4 m4 c4) (.bool (decide (d' < 0))) (.slice q5 m5 c5)) (some Z) := grown_put4 (grown_call (by assumption) hb)
  have hW2 : Below w.heap.size w (stored4 W5 Z (.bool (decide (z' < 0))) (.slice q4 m4 c4) (.bool (decide (d' < 0))) (.slice q5 m5 c5)) := hW.grown hfin hW.size (fun j hj => by simp at hj; omega)
  have HP := Lib.hid (show GivesRat2 w z' d' _ _ from ⟨_, rfl, hpv, hW2⟩)
  have HZ' := Lib.hid hz'
  have HD' := Lib.hid hd'
  clear hfin hW2 hpv hR5 hR6 hr tZ2 hgr HOC HRES hz' hd'
  go_wp2
  exact bodyPost_ret (v := .tuple #[.agg #[.bool (decide (z' < 0)), .slice q4 m4 c4, .bool (decide (d' < 0)), .slice q5 m5 c5], .nilIface]) (by simp [results, Tryz.results15, go_sem, r0, r1, r2, r3]) rfl (by rw [← HZ'.out, ← HD'.out]; exact HP.out)
end Go.Proofs.YtndcaajebomkhaaGreatDoor
