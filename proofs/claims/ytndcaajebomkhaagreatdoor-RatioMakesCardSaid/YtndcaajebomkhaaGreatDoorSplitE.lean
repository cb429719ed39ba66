/- Layer 3 (split): Gcd of any numbers. -/
import Derived.Test.YtndcaajebomkhaaGreatDoorSplitD
import Derived.Deep.Cut
import Derived.Laws.Rows
namespace Go.Proofs.YtndcaajebomkhaaGreatDoor
open Go.RowKit

theorem TabVar.put {w : World} {A : Nat} {v : Value} (h : TabVar w) (ho : One w A v) (u : Value) : TabVar (w.setCell ⟨A, 0, none⟩ u) := fun j hj => by
  have h0 := h j hj
  have hne := ho.other h0
  have hh := Below.heap_setCell w ⟨A, 0, none⟩ u 3 hne
  unfold World.cell? at h0 ⊢
  simp only at h0 ⊢
  rw [hh]; exact h0
theorem TabVar.grownA {w w' : World} {A : Nat} {v : Value} (h : TabVar w) (ho : One w A v) (hg : w.grownBy w' (some A)) : TabVar w' := fun j hj => by
  have h0 := h j hj
  have hne := ho.other h0
  have hlt : 3 < w.heap.size := by
    rcases Nat.lt_or_ge 3 w.heap.size with h' | h'
    · exact h'
    · simp [World.cell?, Array.getElem?_eq_none h'] at h0
  have hh := hg.block 3 hlt (fun h => hne (by simp at h; omega))
  unfold World.cell? at h0 ⊢
  simp only at h0 ⊢
  rw [hh]; exact h0
theorem Rd.grownA {k : IntKind} {β : Nat} {w w' : World} {p : Option Addr} {len : Nat} {zs : List Nat} {A : Nat} {v : Value} (h : Rd k β w.heap.size w p len zs) (ho : One w A v) (hg : w.grownBy w' (some A)) :
    Rd k β w'.heap.size w' p len zs :=
  ⟨h.count, h.word, fun i hi => by
    obtain ⟨b, o, h1, h2, h3⟩ := h.cell i hi
    have hne := ho.other h3
    refine ⟨b, o, h1, Nat.lt_of_lt_of_le h2 hg.size, ?_⟩
    have hh := hg.block b h2 (fun h => hne (by simp at h; omega))
    unfold World.cell? at h3 ⊢
    simp only at h3 ⊢
    rw [hh]; exact h3⟩
theorem One.new (w : World) (p : Option Addr) (l c : Nat) : One (w.alloc (.cells #[.slice p l c] 22)) w.heap.size (.slice p l c) := ⟨heap_alloc_new w _, _, _, _, rfl⟩

set_option maxRecDepth 100000 in
set_option maxHeartbeats 4000000 in
theorem splitGcd_any {B1 B2 : Nat} (p1 p2 : Option Addr) (l1 l2 c1 c2 : Nat) (xs ys : List Nat) (w : World) (h1 : l1 ≤ c1) (h2 : l2 ≤ c2) (k1 : l1 ≤ 1024) (k2 : l2 ≤ 1024)
    (r1 : Rd .u64 W64 B1 w p1 l1 xs) (r2 : Rd .u64 W64 B2 w p2 l2 ys) (hB1 : B1 ≤ w.heap.size) (hB2 : B2 ≤ w.heap.size) (hT : TabVar w) :
    Calls Tryz.prog 21 #[.slice p1 l1 c1, .slice p2 l2 c2] w (Gives2 .u64 W64 w (Nat.gcd (val W64 xs) (val W64 ys))) := by
  obtain ⟨x, hx⟩ : ∃ x, x = val W64 xs := ⟨_, rfl⟩
  obtain ⟨y, hy⟩ : ∃ y, y = val W64 ys := ⟨_, rfl⟩
  rw [← hx, ← hy]
  have HX := Lib.hid hx
  have HY := Lib.hid hy
  have hmf : ∀ (fn : Fn) (first cap : Array Value) (w : World), (Instr.makeFunc fn first cap).run Tryz.prog w = .ok (.func fn first cap) w := fun _ _ _ _ => rfl
  clear hx hy
  -- the variable
  have ho := One.new w p1 l1 c1
  obtain ⟨A, hA⟩ : ∃ A, A = w.heap.size := ⟨_, rfl⟩
  have hal : Below w.heap.size w (w.alloc (.cells #[.slice p1 l1 c1] 22)) := (Below.refl _ _).alloc (Nat.le_refl _) _
  replace r1 := ((r1.mono hB1).below hal).mono hal.size
  replace r2 := ((r2.mono hB2).below hal).mono hal.size
  replace hT := hT.below hal
  obtain ⟨W0, hW0⟩ : ∃ W0, W0 = w.alloc (.cells #[.slice p1 l1 c1] 22) := ⟨_, rfl⟩
  rw [← hW0, ← hA] at ho
  rw [← hW0] at r1 r2 hal hT
  have HW0 := Lib.hid hW0
  have HAs := Lib.hid hA
  have hwA : w.heap.size ≤ A := by omega
  have oc := ho.c0
  have of := ho.free
  have hW := hal
  clear hal hW0 hA
  go_enter Tryz.func21, Tryz.ntmps21
  go_upto_region 1 with fail
  rw [← HAs.out, ← HW0.out]
  go_wp2_with fail
  refine (plain_any p1 l1 c1 xs W0 h1 (by omega) r1).mono ?_
  rintro e W1 ⟨q1, m1, d1, rfl, hm1, hq1, hR1, hb⟩
  rw [← HX.out] at hR1
  have s1 : m1 ≤ l1 := hR1.short two_le_W64 (by rw [HX.out]; exact r1.val_lt W64_pos (Nat.le_refl _))
  clear r1
  replace r2 := r2.next hb
  replace ho := ho.next hb
  replace hW := below_next hW hb
  replace hT := hT.below hb
  replace oc := ho.c0
  replace of := ho.free
  clear hb
  go_wp2_with fail
  refine (plain_any p2 l2 c2 ys W1 h2 (by omega) r2).mono ?_
  rintro e W2 ⟨q2, m2, d2, rfl, hm2, hq2, hR2, hb⟩
  rw [← HY.out] at hR2
  have s2 : m2 ≤ l2 := hR2.short two_le_W64 (by rw [HY.out]; exact r2.val_lt W64_pos (Nat.le_refl _))
  clear r2
  replace hR1 := hR1.next hb
  replace ho := ho.next hb
  replace hW := below_next hW hb
  replace hT := hT.below hb
  replace oc := ho.c0
  replace of := ho.free
  clear hb
  go_upto_region 2 with fail
  replace hR1 := hR1.one ho (.slice q1 m1 d1)
  replace hR2 := hR2.one ho (.slice q1 m1 d1)
  replace hW := below_one hW hwA (.slice q1 m1 d1)
  replace hT := hT.put ho (.slice q1 m1 d1)
  replace ho := ho.put q1 m1 d1
  obtain ⟨W3, hW3⟩ : ∃ W3, W3 = W2.setCell ⟨A, 0, none⟩ (.slice q1 m1 d1) := ⟨_, rfl⟩
  rw [← hW3] at hR1 hR2 hW hT ho ⊢
  clear hW3
  replace oc := ho.c0
  replace of := ho.free
  have ht := tooLong_any q1 q2 m1 m2 d1 d2 W3 (by omega) (by omega)
  rw [decide_eq_false (show ¬ (1024 < m1 ∨ 1024 < m2) by omega)] at ht
  have HT := Lib.hid ht
  clear ht
  by_cases hx0 : m1 = 0
  · subst hx0
    have hx : x = 0 := (digs_length_pos two_le_W64 x).1 hR1.count
    subst hx
    go_wp2_with (go_at_call 51; refine (HT.out).mono ?_; rintro e w' ⟨rfl, rfl⟩)
    go_ret2
    exact ⟨_, _, _, rfl, hm2, hq2, by rw [Nat.gcd_zero_left]; exact hR2, hW⟩
  by_cases hy0 : m2 = 0
  · subst hy0
    have hy : y = 0 := (digs_length_pos two_le_W64 y).1 hR2.count
    subst hy
    have hx0z : ¬ (m1 : Int) = 0 := by omega
    go_wp2_with (go_at_call 51; refine (HT.out).mono ?_; rintro e w' ⟨rfl, rfl⟩)
    go_ret2
    exact ⟨_, _, _, rfl, hm1, hq1, by rw [Nat.gcd_zero_right]; exact hR1, hW⟩
  have hx0z : ¬ (m1 : Int) = 0 := by omega
  have hy0z : ¬ (m2 : Int) = 0 := by omega
  have hxp : 0 < x := Nat.pos_of_ne_zero (fun h => hx0 (by rw [← hR1.count, h, digs_zero]; rfl))
  have hyp : 0 < y := Nat.pos_of_ne_zero (fun h => hy0 (by rw [← hR2.count, h, digs_zero]; rfl))
  have HXP := Lib.hid hxp
  have HYP := Lib.hid hyp
  clear hxp hyp
  go_wp2_with (first | (go_at_call 51; refine (HT.out).mono ?_; rintro e w' ⟨rfl, rfl⟩))
  refine (takeTwos_any A q1 m1 d1 x W3 ho hm1 (by omega) hR1 HXP.out hT).mono ?_
  rintro e W4 ⟨n1, t1, qa, ma, ca, rfl, hn1, hnl1, ho4, hmca, hqa, hRa, hgr⟩
  replace hR2 := hR2.grownA ho hgr
  replace hT := hT.grownA ho hgr
  replace hW : Below w.heap.size w W4 := hW.grown hgr hW.size (fun j hj => by simp at hj; omega)
  have oc4 := ho4.c0
  have of4 := ho4.free
  have sa : ma ≤ 1024 := by
    have := hRa.short two_le_W64 (Nat.lt_of_le_of_lt (pow_mul_odd_lt hn1) (digs_lt hR1.count))
    omega
  have HN1 := Lib.hid hn1
  clear oc of ho hgr hR1 hn1 HT
  go_upto_region 11 with fail
  replace hR2 := hR2.one ho4 (.slice q2 m2 d2)
  replace hRa := hRa.one ho4 (.slice q2 m2 d2)
  replace hW := below_one hW hwA (.slice q2 m2 d2)
  replace hT := hT.put ho4 (.slice q2 m2 d2)
  have ho := ho4.put q2 m2 d2
  obtain ⟨W5, hW5⟩ : ∃ W5, W5 = W4.setCell ⟨A, 0, none⟩ (.slice q2 m2 d2) := ⟨_, rfl⟩
  rw [← hW5] at hR2 hRa hW hT ho ⊢
  clear hW5 oc4 of4 ho4
  have oc := ho.c0
  go_wp2_with fail
  refine (takeTwos_any A q2 m2 d2 y W5 ho hm2 (by omega) hR2 HYP.out hT).mono ?_
  rintro e W6 ⟨n2, t2, qb, mb, cb, rfl, hn2, hnl2, ho6, hmcb, hqb, hRb, hgr⟩
  replace hRa := hRa.grownA ho hgr
  replace hT := hT.grownA ho hgr
  replace hW : Below w.heap.size w W6 := hW.grown hgr hW.size (fun j hj => by simp at hj; omega)
  have sb : mb ≤ 1024 := by
    have := hRb.short two_le_W64 (Nat.lt_of_le_of_lt (pow_mul_odd_lt hn2) (digs_lt hR2.count))
    omega
  have HN2 := Lib.hid hn2
  clear oc ho hgr hR2 hn2
  have oc := ho6.c0
  have of := ho6.free
  have HG : Hid (Nat.gcd x y = Nat.gcd (2 * t2 + 1) (2 * t1 + 1) * 2 ^ (min n1 n2)) := Lib.hid (by
    rw [HN1.out, HN2.out, gcd_twos (by omega) (by omega), Nat.gcd_comm (2 * t1 + 1)])
  obtain ⟨com, hcom⟩ : ∃ com, com = min n1 n2 := ⟨_, rfl⟩
  rw [← hcom] at HG
  have hcomz : min (n1 : Int) (n2 : Int) = (com : Int) := by omega
  have hcom1 : com ≤ 65536 := by omega
  clear hcom hnl1 hnl2
  go_wp2_with fail
  obtain ⟨u0, hu0⟩ : ∃ u0, u0 = 2 * t2 + 1 := ⟨_, rfl⟩
  obtain ⟨v0, hv0⟩ : ∃ v0, v0 = 2 * t1 + 1 := ⟨_, rfl⟩
  rw [← hu0, ← hv0] at HG
  rw [← hu0] at hRb
  rw [← hv0] at hRa
  have HU : Hid (u0 % 2 = 1) := Lib.hid (by omega)
  have HV : Hid (v0 % 2 = 1) := Lib.hid (by omega)
  clear hu0 hv0 HN1 HN2
  obtain ⟨cv0, hcv0⟩ : ∃ cv0, cmpN u0 v0 = cv0 := ⟨_, rfl⟩
  refine (natCmp_below qb qa mb ma cb ca _ _ W6 hmcb hmca (by omega) (by omega) hRb hRa (c := cv0) (by rw [val_digs two_le_W64, val_digs two_le_W64]; exact hcv0)).mono ?_
  rintro e W7 ⟨rfl, hb⟩
  replace hRa := hRa.next hb
  replace hRb := hRb.next hb
  replace hT := hT.below hb
  replace hW := below_next hW hb
  replace ho6 := ho6.next hb
  have HC := Lib.hid hcv0
  clear hb oc of hcv0
  go_wp2_with fail
  go_loopg [1, 8] (u0 + v0) (fun gh s1 s8 wr => ∃ (qu qv : Option Addr) (mu mv cu cv u v : Nat) (od : Int), gh = u + v ∧ s1 = .slice qv mv cv ∧ s8 = .int .i64 od ∧ Hid (cmpN u v = od) ∧ One wr A (.slice qu mu cu) ∧ mu ≤ cu ∧ mv ≤ cv ∧ mu ≤ 1024 ∧ mv ≤ 1024 ∧
      Rd .u64 W64 wr.heap.size wr qu mu (digs W64 u) ∧ Rd .u64 W64 wr.heap.size wr qv mv (digs W64 v) ∧ Hid (u % 2 = 1) ∧ Hid (v % 2 = 1) ∧ Hid (Nat.gcd x y = Nat.gcd u v * 2 ^ com) ∧ TabVar wr ∧ Below w.heap.size w wr)
  case atStart => exact ⟨qb, qa, mb, ma, cb, ca, u0, v0, cv0, rfl, rfl, rfl, HC, ho6, hmcb, hmca, sb, sa, hRb, hRa, HU, HV, HG, hT, hW⟩
  case round =>
    clear ho6 hRb hRa HU HV HG hT hW HC hqb hqa sa sb hmcb hmca
    obtain ⟨qu, qv, mu, mv, cu, cv, u, v, od, rfl, rfl, rfl, HC, ho, hmu, hmv, su, sv, hRu, hRv, HU, HV, HG, hT, hW⟩ := hrel
    have oc := ho.c0
    have of := ho.free
    rcases Nat.lt_trichotomy u v with hlt | heq | hgt
    · -- the lesser one is exchanged
      have hod : od = -1 := by have := HC.out; rw [cmpN_lt hlt] at this; omega
      subst hod
      go_upto_region 17 with fail
      replace hRu := hRu.one ho (.slice qv mv cv)
      replace hRv := hRv.one ho (.slice qv mv cv)
      replace hW := below_one hW hwA (.slice qv mv cv)
      replace hT := hT.put ho (.slice qv mv cv)
      replace ho := ho.put qv mv cv
      obtain ⟨Ws, hWs⟩ : ∃ Ws, Ws = wr.setCell ⟨A, 0, none⟩ (.slice qv mv cv) := ⟨_, rfl⟩
      rw [← hWs] at hRu hRv hW hT ho ⊢
      clear hWs
      replace oc := ho.c0
      replace of := ho.free
      go_wp2_with fail
      refine (natSub_any qv qu mv mu cv cu (digs W64 v) (digs W64 u) Ws hmv hmu (by omega) (by omega) hRv hRu (Nat.le_refl _) (by rw [val_digs two_le_W64, val_digs two_le_W64]; omega)).mono ?_
      rw [val_digs two_le_W64, val_digs two_le_W64]
      rintro e W8 ⟨qd, md, cd, rfl, hmd, hqd, hRd, hb⟩
      have sd : md ≤ 1024 := by
        have := hRd.short two_le_W64 (Nat.lt_of_le_of_lt (Nat.sub_le _ _) (digs_lt hRv.count))
        omega
      have RS := hRu.next hb
      have ho8 := ho.next hb
      have hT8 := hT.below hb
      have hW8 := below_next hW hb
      clear hb hRv hRu ho hT hW oc of
      have oc := ho8.c0
      have of := ho8.free
      go_upto_region 18 with fail
      replace RS := RS.one ho8 (.slice qd md cd)
      replace hRd := hRd.one ho8 (.slice qd md cd)
      replace hW8 := below_one hW8 hwA (.slice qd md cd)
      replace hT8 := hT8.put ho8 (.slice qd md cd)
      have ho9 := ho8.put qd md cd
      obtain ⟨W9, hW9⟩ : ∃ W9, W9 = W8.setCell ⟨A, 0, none⟩ (.slice qd md cd) := ⟨_, rfl⟩
      rw [← hW9] at RS hRd hW8 hT8 ho9 ⊢
      clear hW9 ho8 oc of
      have oc := ho9.c0
      go_wp2_with fail
      refine (takeTwos_any A qd md cd (v - u) W9 ho9 hmd (by omega) hRd (by omega) hT8).mono ?_
      rintro e W10 ⟨n, t, qn, mn, cn, rfl, hn, hnl, ho10, hmn, hqn, hRn, hgr⟩
      have hle := pow_mul_odd_lt hn
      have sn : mn ≤ 1024 := by
        have := hRn.short two_le_W64 (Nat.lt_of_le_of_lt hle (digs_lt hRd.count))
        omega
      replace RS := RS.grownA ho9 hgr
      replace hT8 := hT8.grownA ho9 hgr
      replace hW8 : Below w.heap.size w W10 := hW8.grown hgr hW8.size (fun j hj => by simp at hj; omega)
      have HG2 : Hid (Nat.gcd x y = Nat.gcd (2 * t + 1) u * 2 ^ com) := Lib.hid (by
        rw [HG.out, gcd_step (u := v) (v := u) (by omega) hn (by first | exact HV.out | exact HU.out)]
        rw [Nat.gcd_comm u v])
      clear hgr ho9 hRd hn hnl oc HG
      have oc := ho10.c0
      obtain ⟨un, hun⟩ : ∃ un, un = 2 * t + 1 := ⟨_, rfl⟩
      rw [← hun] at hRn HG2 hle
      have HUN : Hid (un % 2 = 1) := Lib.hid (by omega)
      clear hun
      obtain ⟨cw, hcw⟩ : ∃ cw, cmpN un u = cw := ⟨_, rfl⟩
      go_wp2_with fail
      refine (natCmp_below qn qu mn mu cn cu _ _ W10 hmn hmu (by omega) (by omega) hRn RS (c := cw) (by rw [val_digs two_le_W64, val_digs two_le_W64]; exact hcw)).mono ?_
      rintro e W11 ⟨rfl, hb⟩
      replace RS := RS.next hb
      replace hRn := hRn.next hb
      replace hT8 := hT8.below hb
      replace hW8 := below_next hW8 hb
      replace ho10 := ho10.next hb
      have HCW := Lib.hid hcw
      clear hb hcw oc
      go_wp2
      go_roundg (un + u)
      case measure => have := HU.out; have := HV.out; omega
      case rel => exact ⟨qn, qu, mn, mu, cn, cu, un, u, cw, by first | rfl | trivial, rfl, rfl, HCW, ho10, hmn, hmu, sn, by omega, hRn, RS, HUN, by first | exact HV | exact HU, HG2, hT8, hW8⟩
    · have hod : od = 0 := by have := HC.out; rw [cmpN_eq heq] at this; omega
      subst hod
      have hg : Nat.gcd x y = u * 2 ^ com := by rw [HG.out, ← heq, Nat.gcd_self]
      have HGG := Lib.hid hg
      clear hg
      go_wp2_with fail
      refine (natShl_any qu mu cu com (com / 64) (com % 64) (digs W64 u) wr hmu (by omega) hRu (Nat.le_refl _) (by rw [val_digs two_le_W64, hRu.count]; exact su) hcom1 rfl rfl).mono ?_
      rw [val_digs two_le_W64, ← HGG.out]
      rintro e W8 ⟨qr, mr, cr, rfl, hmr, hqr, hRr, hb⟩
      go_wp2
      go_ret2
      exact ⟨_, _, _, rfl, hmr, hqr, hRr, below_next hW hb⟩
    · have hod : od = 1 := by have := HC.out; rw [cmpN_gt hgt] at this; omega
      subst hod
      go_wp2_with fail
      refine (natSub_any qu qv mu mv cu cv (digs W64 u) (digs W64 v) wr hmu hmv (by omega) (by omega) hRu hRv (Nat.le_refl _) (by rw [val_digs two_le_W64, val_digs two_le_W64]; omega)).mono ?_
      rw [val_digs two_le_W64, val_digs two_le_W64]
      rintro e W8 ⟨qd, md, cd, rfl, hmd, hqd, hRd, hb⟩
      have sd : md ≤ 1024 := by
        have := hRd.short two_le_W64 (Nat.lt_of_le_of_lt (Nat.sub_le _ _) (digs_lt hRu.count))
        omega
      have RS := hRv.next hb
      have ho8 := ho.next hb
      have hT8 := hT.below hb
      have hW8 := below_next hW hb
      clear hb hRu hRv ho hT hW oc of
      have oc := ho8.c0
      have of := ho8.free
      go_upto_region 18 with fail
      replace RS := RS.one ho8 (.slice qd md cd)
      replace hRd := hRd.one ho8 (.slice qd md cd)
      replace hW8 := below_one hW8 hwA (.slice qd md cd)
      replace hT8 := hT8.put ho8 (.slice qd md cd)
      have ho9 := ho8.put qd md cd
      obtain ⟨W9, hW9⟩ : ∃ W9, W9 = W8.setCell ⟨A, 0, none⟩ (.slice qd md cd) := ⟨_, rfl⟩
      rw [← hW9] at RS hRd hW8 hT8 ho9 ⊢
      clear hW9 ho8 oc of
      have oc := ho9.c0
      go_wp2_with fail
      refine (takeTwos_any A qd md cd (u - v) W9 ho9 hmd (by omega) hRd (by omega) hT8).mono ?_
      rintro e W10 ⟨n, t, qn, mn, cn, rfl, hn, hnl, ho10, hmn, hqn, hRn, hgr⟩
      have hle := pow_mul_odd_lt hn
      have sn : mn ≤ 1024 := by
        have := hRn.short two_le_W64 (Nat.lt_of_le_of_lt hle (digs_lt hRd.count))
        omega
      replace RS := RS.grownA ho9 hgr
      replace hT8 := hT8.grownA ho9 hgr
      replace hW8 : Below w.heap.size w W10 := hW8.grown hgr hW8.size (fun j hj => by simp at hj; omega)
      have HG2 : Hid (Nat.gcd x y = Nat.gcd (2 * t + 1) v * 2 ^ com) := Lib.hid (by
        rw [HG.out, gcd_step (u := u) (v := v) (by omega) hn (by first | exact HV.out | exact HU.out)])
      clear hgr ho9 hRd hn hnl oc HG
      have oc := ho10.c0
      obtain ⟨un, hun⟩ : ∃ un, un = 2 * t + 1 := ⟨_, rfl⟩
      rw [← hun] at hRn HG2 hle
      have HUN : Hid (un % 2 = 1) := Lib.hid (by omega)
      clear hun
      obtain ⟨cw, hcw⟩ : ∃ cw, cmpN un v = cw := ⟨_, rfl⟩
      go_wp2_with fail
      refine (natCmp_below qn qv mn mv cn cv _ _ W10 hmn hmv (by omega) (by omega) hRn RS (c := cw) (by rw [val_digs two_le_W64, val_digs two_le_W64]; exact hcw)).mono ?_
      rintro e W11 ⟨rfl, hb⟩
      replace RS := RS.next hb
      replace hRn := hRn.next hb
      replace hT8 := hT8.below hb
      replace hW8 := below_next hW8 hb
      replace ho10 := ho10.next hb
      have HCW := Lib.hid hcw
      clear hb hcw oc
      go_wp2
      go_roundg (un + v)
      case measure => have := HU.out; have := HV.out; omega
      case rel => exact ⟨qn, qv, mn, mv, cn, cv, un, v, cw, by first | rfl | trivial, rfl, rfl, HCW, ho10, hmn, hmv, sn, by omega, hRn, RS, HUN, by first | exact HV | exact HU, HG2, hT8, hW8⟩
end Go.Proofs.YtndcaajebomkhaaGreatDoor
