/- The document's own answers for layer 2: New, From, To, Same, Sign, Neg; New and From, where a list without memory has no room. -/
import Derived.Test.YtndcaajebomkhaaGreatDoorInt
import Derived.Test.YtndcaajebomkhaaGreatDoorRefD
namespace Go.Proofs.YtndcaajebomkhaaGreatDoor
open Go.RowKit

theorem digs_size_pos16 {x m : Nat} (h : (digs 65536 x).length = m) : decide (0 < m) = decide (0 < x) := by
  have := digs_length_pos (β := 65536) (by omega) x
  rw [decide_eq_decide]; omega
set_option maxHeartbeats 1000000 in
theorem refNew_any {B : Nat} (n : Bool) (q : Option Addr) (m c : Nat) (ds : List Nat) (w : World) (h : m ≤ c) (hl : m ≤ 4000000) (hR : Rd .u32 65536 B w q m ds) (hB : B ≤ w.heap.size) {x : Nat} (hx : val 65536 ds = x) :
    Calls Tryz.prog 22 #[.bool n, .slice q m c] w (GivesNum w (wv n x)) := by
  have HN := Lib.hid (wv_neg n x)
  have HX := Lib.hid hx
  obtain ⟨W0, hW0, hW, tZ⟩ := enter1 w (.bool false) (.slice none 0 0) 28
  replace hR := hR.below (hW.mono hB)
  clear hx
  go_enter Tryz.func22, Tryz.ntmps22
  go_wp2_with fail
  rw [← hW0]
  clear hW0
  refine (refTrim_val q m c ds W0 h hl hR).mono ?_
  rintro e w' ⟨m1, rfl, hm1, hR1, rfl⟩
  rw [HX.out] at hR1
  have HM := Lib.hid (digs_size_pos16 hR1.count)
  have t90 := tZ.c0; have t91 := tZ.c1; have t92 := tZ.f0; have t93 := tZ.f1
  have hR2 : Rd .u32 65536 W0.heap.size W0 q m1 (digs 65536 x) := hR1.mono (Nat.le_trans hB hW.size)
  cases n
  · have HF : Hid (decide (wv false x < 0) = false) := Lib.hid (by rw [HN.out]; rfl)
    have hr := (tZ.set0 (.bool false)).set1 (.slice q m1 c)
    have r0 := hr.c0
    have r1 := hr.c1
    go_wp2
    exact bodyPost_ret (v := .agg #[.bool false, .slice q m1 c]) (by simp [results, Tryz.results22, go_sem, r0, r1]) rfl
      ⟨_, rfl, by rw [← HF.out]; exact NumAt.set2 (by omega) (by rw [wv_abs]; exact hR2) tZ _ _, below_set2 hW (by omega)⟩
  · have HF : Hid (decide (wv true x < 0) = decide (0 < m1)) := Lib.hid (by rw [HN.out, HM.out]; rfl)
    have hr := (tZ.set0 (.bool (decide (0 < m1)))).set1 (.slice q m1 c)
    have r0 := hr.c0
    have r1 := hr.c1
    go_wp2
    exact bodyPost_ret (v := .agg #[.bool (decide (0 < m1)), .slice q m1 c]) (by simp [results, Tryz.results22, go_sem, r0, r1]) rfl
      ⟨_, rfl, by rw [← HF.out]; exact NumAt.set2 (by omega) (by rw [wv_abs]; exact hR2) tZ _ _, below_set2 hW (by omega)⟩

set_option maxHeartbeats 1000000 in
theorem refFrom_any (v : Value) (z : Int) (w : World) (hv : IntAt w v 900000 z) :
    Calls Tryz.prog 6 #[v] w (GivesNum w z) := by
  obtain ⟨n, q, m, c, xs, rfl, h1, h2, hR, hz⟩ := hv
  obtain ⟨W0, hW0, hW, tA, tZ⟩ := enter2 w (.bool n) (.slice q m c) 24 (.bool false) (.slice none 0 0) 28
  replace hR := hR.next (kd hW)
  have tA0 := tA.c0; have tA1 := tA.c1
  have HZ : Hid (wv n (val W64 xs) = z) := Lib.hid hz
  have hs := (digs_length_le (β := 65536) (by omega) (val W64 xs) (4 * m)).2 (by rw [Nat.pow_mul, ← W64_four]; exact hR.val_lt W64_pos (Nat.le_refl _))
  clear hz
  go_enter Tryz.func6, Tryz.ntmps6
  go_wp2_with fail
  rw [← hW0]
  clear hW0
  go_region_held3 (fun w' => w'.cell? ⟨w.heap.size, 0, none⟩ = some (.bool n) ∧ w'.cell? ⟨w.heap.size, 1, none⟩ = some (.slice q m c))
    (((try go_split_ands); ((repeat' apply And.intro) <;> first | exact kdc (by assumption) | exact kp hb (by assumption) | exact ksc (ksc (by assumption) (by first | (simp; done) | (simp; omega))) (by first | (simp; done) | (simp; omega)))))
    (first
      | (go_at_call 23; refine (refDigits_any q m c xs _ h1 (by omega) hR (Nat.le_refl _)).mono ?_; rintro e W1 ⟨q1, m1, c1, rfl, hmc1, _, hR2, hb⟩; have tZ := tZ.drew.next hb; have hW := below_next (kd hW) hb)
      | (go_at_call 22; refine (refNew_any n _ _ _ _ _ (hmc1) (by have := hR2.count; omega) hR2 (Nat.le_refl _) (val_digs (by omega) _)).mono ?_; rintro e W9 ⟨v, rfl, ⟨q9, m9, c9, rfl, hm9, hR9⟩, hb⟩; have tZ := tZ.next hb; have hW := below_next hW hb; have t90 := tZ.c0; have t91 := tZ.c1; have t92 := tZ.f0; have t93 := tZ.f1))
  have hr := (tZ.set0 (.bool (decide (wv n (val W64 xs) < 0)))).set1 (.slice q9 m9 c9)
  have r0 := hr.c0
  have r1 := hr.c1
  go_wp2
  exact bodyPost_ret (v := .agg #[.bool (decide (wv n (val W64 xs) < 0)), .slice q9 m9 c9]) (by simp [results, Tryz.results6, go_sem, r0, r1]) rfl
    ⟨_, rfl, by rw [← HZ.out]; exact NumAt.set2 hm9 hR9 tZ _ _, below_set2 hW (by omega)⟩

set_option maxHeartbeats 1000000 in
theorem refTo_any (v : Value) (z : Int) (w : World) (hv : NumAt w v z) (hl : (digs 65536 z.natAbs).length ≤ 900000) :
    Calls Tryz.prog 11 #[v] w (GivesInt w z) := by
  obtain ⟨q, m, c, rfl, h1, hR⟩ := hv
  obtain ⟨W0, hW0, hW, tA, tZ⟩ := enter2 w (.bool (decide (z < 0))) (.slice q m c) 28 (.bool false) (.slice none 0 0) 24
  replace hR := hR.next (kd hW)
  have hm : m ≤ 900000 := by have := hR.count; omega
  have tA0 := tA.c0; have tA1 := tA.c1
  have HV := Lib.hid (val_digs (β := 65536) (by omega) z.natAbs)
  go_enter Tryz.func11, Tryz.ntmps11
  go_wp2_with fail
  rw [← hW0]
  clear hW0
  go_region_held3 (fun w' => w'.cell? ⟨w.heap.size, 0, none⟩ = some (.bool (decide (z < 0))) ∧ w'.cell? ⟨w.heap.size, 1, none⟩ = some (.slice q m c))
    (((try go_split_ands); ((repeat' apply And.intro) <;> first | exact kdc (by assumption) | exact kp hb (by assumption) | exact ksc (ksc (by assumption) (by first | (simp; done) | (simp; omega))) (by first | (simp; done) | (simp; omega)))))
    (first
      | (go_at_call 36; refine (refLimbs_any q m c _ _ h1 hm hR (Nat.le_refl _)).mono ?_; rintro e W1 ⟨q9, m9, c9, rfl, hm9, _, hR9, hb⟩; have tZ := tZ.drew.next hb; have hW := below_next (kd hW) hb; have t90 := tZ.c0; have t91 := tZ.c1; have t92 := tZ.f0; have t93 := tZ.f1))
  rw [HV.out] at hR9
  have hr := (tZ.set0 (.bool (decide (z < 0)))).set1 (.slice q9 m9 c9)
  have r0 := hr.c0
  have r1 := hr.c1
  go_wp2
  exact bodyPost_ret (v := .agg #[.bool (decide (z < 0)), .slice q9 m9 c9]) (by simp [results, Tryz.results11, go_sem, r0, r1]) rfl
    ⟨_, rfl, PlainAt.set2 hm9 hR9 tZ _ _, below_set2 hW (by omega)⟩

set_option maxHeartbeats 1000000 in
/-- Two that are plain, and mean the same, are told to be the same. -/
theorem refIntSame_any (v v' : Value) (z z' : Int) (w : World) (hv : PlainAt w v z) (hv' : PlainAt w v' z') (hzz : z = z') (hl : (digs W64 z.natAbs).length ≤ 900000) :
    Calls Tryz.prog 10 #[v, v'] w fun e w' => e = .returned (.bool true) ∧ Below w.heap.size w w' := by
  subst hzz
  obtain ⟨q, m, c, rfl, h1, hR⟩ := hv
  obtain ⟨q', m', c', rfl, h1', hR'⟩ := hv'
  obtain ⟨W0, hW0, hW, tA, tB⟩ := enter2 w (.bool (decide (z < 0))) (.slice q m c) 24 (.bool (decide (z < 0))) (.slice q' m' c') 24
  replace hR := hR.next hW
  replace hR' := hR'.next hW
  have hm : m ≤ 4000000 := by have := hR.count; omega
  have hm' : m' ≤ 4000000 := by have := hR'.count; omega
  have tA0 := tA.c0; have tA1 := tA.c1; have tB0 := tB.c0; have tB1 := tB.c1
  obtain ⟨b, hb0⟩ : ∃ b, b = (decide (z < 0)) := ⟨_, rfl⟩
  rw [← hb0] at tA0 tB0 hW0 ⊢
  clear hl hb0
  go_enter Tryz.func10, Tryz.ntmps10
  go_wp2_with fail
  rw [← hW0]
  clear hW0
  go_wp2_with (go_at_call 35; refine (refSame_any q q' m m' c c' _ _ _ hm hm' hR hR').mono ?_; rintro e w' ⟨rfl, k, rfl⟩; rw [decide_eq_true (rfl : digs W64 z.natAbs = digs W64 z.natAbs)])
  go_ret
  exact ⟨rfl, below_drewN hW k⟩

set_option maxHeartbeats 1000000 in
theorem refSign_any (v : Value) (z s : Int) (w : World) (hv : NumAt w v z) (hs : z.sign = s) :
    Calls Tryz.prog 16 #[v] w fun e w' => e = .returned (.int .i64 s) ∧ Below w.heap.size w w' := by
  obtain ⟨q, m, c, rfl, h1, hR⟩ := hv
  obtain ⟨W0, hW0, hW, tA⟩ := enter1 w (.bool (decide (z < 0))) (.slice q m c) 28
  have tA0 := tA.c0; have tA1 := tA.c1
  have hm := hR.count
  have h0 := digs_length_pos (β := 65536) (by omega) z.natAbs
  have HS := Lib.hid hs
  clear hs
  rcases sign_cases z with ⟨hz, hs⟩ | ⟨hz, hs⟩ | ⟨hz, hs⟩
  · rw [decide_eq_true hz] at tA0 hW0 ⊢
    have hm0 : 0 < m := by omega
    have HT : Hid (-1 = s) := Lib.hid (by rw [← hs]; exact HS.out)
    clear hz hs hm h0 HS
    go_enter Tryz.func16, Tryz.ntmps16
    go_wp2_with fail
    rw [← hW0]
    clear hW0
    go_wp2
    go_ret
    exact ⟨by rw [← HT.out]; rfl, hW⟩
  · have hm0 : m = 0 := by omega
    have HT : Hid (0 = s) := Lib.hid (by rw [← hs]; exact HS.out)
    rw [hm0] at tA1 hW0 ⊢
    clear hz hs hm h0 HS hm0
    go_enter Tryz.func16, Tryz.ntmps16
    go_wp2_with fail
    rw [← hW0]
    clear hW0
    go_wp2
    go_ret
    exact ⟨by rw [← HT.out]; rfl, hW⟩
  · rw [decide_eq_false (by omega : ¬ z < 0)] at tA0 hW0 ⊢
    have hm0 : 0 < m := by omega
    have HT : Hid (1 = s) := Lib.hid (by rw [← hs]; exact HS.out)
    clear hz hs hm h0 HS
    go_enter Tryz.func16, Tryz.ntmps16
    go_wp2_with fail
    rw [← hW0]
    clear hW0
    go_wp2
    go_ret
    exact ⟨by rw [← HT.out]; rfl, hW⟩


/-- A number of the document's own answers; a list without memory has no room. -/
def NumN (w : World) (v : Value) (z : Int) : Prop :=
  ∃ q m c, v = .agg #[.bool (decide (z < 0)), .slice q m c] ∧ m ≤ c ∧ (q = none → c = 0) ∧ Rd .u32 65536 w.heap.size w q m (digs 65536 z.natAbs)
def GivesNumN (w : World) (z : Int) (e : Ending) (w' : World) : Prop := ∃ v, e = .returned v ∧ NumN w' v z ∧ Below w.heap.size w w'
theorem NumN.num {w : World} {v : Value} {z : Int} (h : NumN w v z) : NumAt w v z := by
  obtain ⟨q, m, c, h1, h2, _, h3⟩ := h
  exact ⟨q, m, c, h1, h2, h3⟩
theorem NumN.next {w w' : World} {v : Value} {z : Int} (h : NumN w v z) (hb : Below w.heap.size w w') : NumN w' v z := by
  obtain ⟨q, m, c, h1, h2, h4, h3⟩ := h
  exact ⟨q, m, c, h1, h2, h4, h3.next hb⟩
theorem NumN.set2 {W : World} {b : Nat} {n : Bool} {p : Option Addr} {l c : Nat} {T : TypeId} {z : Int} {q : Option Addr} {m k : Nat} (hm : m ≤ k) (hq : q = none → k = 0) (h : Rd .u32 65536 W.heap.size W q m (digs 65536 z.natAbs)) (ht : Two W b (.bool n) (.slice p l c) T) (u v : Value) :
    NumN ((W.setCell ⟨b, 0, none⟩ u).setCell ⟨b, 1, none⟩ v) (.agg #[.bool (decide (z < 0)), .slice q m k]) z := ⟨q, m, k, rfl, hm, hq, (h.set2 ht u v).mono (by simp)⟩
set_option maxHeartbeats 1000000 in
theorem refNewN_any {B : Nat} (n : Bool) (q : Option Addr) (m c : Nat) (ds : List Nat) (w : World) (h : m ≤ c) (hl : m ≤ 4000000) (hR : Rd .u32 65536 B w q m ds) (hB : B ≤ w.heap.size) {x : Nat} (hx : val 65536 ds = x) (hn : q = none → c = 0) :
    Calls Tryz.prog 22 #[.bool n, .slice q m c] w (GivesNumN w (wv n x)) := by
  have HN := Lib.hid (wv_neg n x)
  have HX := Lib.hid hx
  obtain ⟨W0, hW0, hW, tZ⟩ := enter1 w (.bool false) (.slice none 0 0) 28
  replace hR := hR.below (hW.mono hB)
  clear hx
  go_enter Tryz.func22, Tryz.ntmps22
  go_wp2_with fail
  rw [← hW0]
  clear hW0
  refine (refTrim_val q m c ds W0 h hl hR).mono ?_
  rintro e w' ⟨m1, rfl, hm1, hR1, rfl⟩
  rw [HX.out] at hR1
  have HM := Lib.hid (digs_size_pos16 hR1.count)
  have t90 := tZ.c0; have t91 := tZ.c1; have t92 := tZ.f0; have t93 := tZ.f1
  have hR2 : Rd .u32 65536 W0.heap.size W0 q m1 (digs 65536 x) := hR1.mono (Nat.le_trans hB hW.size)
  cases n
  · have HF : Hid (decide (wv false x < 0) = false) := Lib.hid (by rw [HN.out]; rfl)
    have hr := (tZ.set0 (.bool false)).set1 (.slice q m1 c)
    have r0 := hr.c0
    have r1 := hr.c1
    go_wp2
    exact bodyPost_ret (v := .agg #[.bool false, .slice q m1 c]) (by simp [results, Tryz.results22, go_sem, r0, r1]) rfl
      ⟨_, rfl, by rw [← HF.out]; exact NumN.set2 (by omega) hn (by rw [wv_abs]; exact hR2) tZ _ _, below_set2 hW (by omega)⟩
  · have HF : Hid (decide (wv true x < 0) = decide (0 < m1)) := Lib.hid (by rw [HN.out, HM.out]; rfl)
    have hr := (tZ.set0 (.bool (decide (0 < m1)))).set1 (.slice q m1 c)
    have r0 := hr.c0
    have r1 := hr.c1
    go_wp2
    exact bodyPost_ret (v := .agg #[.bool (decide (0 < m1)), .slice q m1 c]) (by simp [results, Tryz.results22, go_sem, r0, r1]) rfl
      ⟨_, rfl, by rw [← HF.out]; exact NumN.set2 (by omega) hn (by rw [wv_abs]; exact hR2) tZ _ _, below_set2 hW (by omega)⟩

set_option maxHeartbeats 1000000 in
theorem refFromN_any (v : Value) (z : Int) (w : World) (hv : IntAt w v 900000 z) :
    Calls Tryz.prog 6 #[v] w (GivesNumN w z) := by
  obtain ⟨n, q, m, c, xs, rfl, h1, h2, hR, hz⟩ := hv
  obtain ⟨W0, hW0, hW, tA, tZ⟩ := enter2 w (.bool n) (.slice q m c) 24 (.bool false) (.slice none 0 0) 28
  replace hR := hR.next (kd hW)
  have tA0 := tA.c0; have tA1 := tA.c1
  have HZ : Hid (wv n (val W64 xs) = z) := Lib.hid hz
  have hs := (digs_length_le (β := 65536) (by omega) (val W64 xs) (4 * m)).2 (by rw [Nat.pow_mul, ← W64_four]; exact hR.val_lt W64_pos (Nat.le_refl _))
  clear hz
  go_enter Tryz.func6, Tryz.ntmps6
  go_wp2_with fail
  rw [← hW0]
  clear hW0
  go_region_held3 (fun w' => w'.cell? ⟨w.heap.size, 0, none⟩ = some (.bool n) ∧ w'.cell? ⟨w.heap.size, 1, none⟩ = some (.slice q m c))
    (((try go_split_ands); ((repeat' apply And.intro) <;> first | exact kdc (by assumption) | exact kp hb (by assumption) | exact ksc (ksc (by assumption) (by first | (simp; done) | (simp; omega))) (by first | (simp; done) | (simp; omega)))))
    (first
      | (go_at_call 23; refine (refDigits_any q m c xs _ h1 (by omega) hR (Nat.le_refl _)).mono ?_; rintro e W1 ⟨q1, m1, c1, rfl, hmc1, hn1, hR2, hb⟩; have tZ := tZ.drew.next hb; have hW := below_next (kd hW) hb)
      | (go_at_call 22; refine (refNewN_any n _ _ _ _ _ (hmc1) (by have := hR2.count; omega) hR2 (Nat.le_refl _) (val_digs (by omega) _) hn1).mono ?_; rintro e W9 ⟨v, rfl, ⟨q9, m9, c9, rfl, hm9, hn9, hR9⟩, hb⟩; have tZ := tZ.next hb; have hW := below_next hW hb; have t90 := tZ.c0; have t91 := tZ.c1; have t92 := tZ.f0; have t93 := tZ.f1))
  have hr := (tZ.set0 (.bool (decide (wv n (val W64 xs) < 0)))).set1 (.slice q9 m9 c9)
  have r0 := hr.c0
  have r1 := hr.c1
  go_wp2
  exact bodyPost_ret (v := .agg #[.bool (decide (wv n (val W64 xs) < 0)), .slice q9 m9 c9]) (by simp [results, Tryz.results6, go_sem, r0, r1]) rfl
    ⟨_, rfl, by rw [← HZ.out]; exact NumN.set2 hm9 hn9 hR9 tZ _ _, below_set2 hW (by omega)⟩

end Go.Proofs.YtndcaajebomkhaaGreatDoor
