/- Layer 4 (ratio): plain, isOne, Right of ratios whose parts are plain. -/
import Derived.Test.YtndcaajebomkhaaGreatDoorFour
import Derived.Test.YtndcaajebomkhaaGreatDoorWholeA
import Derived.Test.YtndcaajebomkhaaGreatDoorSplitE
namespace Go.Proofs.YtndcaajebomkhaaGreatDoor
open Go.RowKit

set_option maxHeartbeats 1000000 in
/-- What is plain is told to be. -/
theorem ratioPlain_yes (v : Value) (z : Int) (w : World) (hv : PlainAt w v z) (hl : (digs W64 z.natAbs).length ≤ 900000) :
    Calls Tryz.prog 48 #[v] w fun e w' => e = .returned (.bool true) ∧ Below w.heap.size w w' := by
  obtain ⟨q, m, c, rfl, h1, hR⟩ := hv
  obtain ⟨W0, hW0, hW, tA⟩ := enter1 w (.bool (decide (z < 0))) (.slice q m c) 24
  replace hR := hR.next hW
  have hm : m ≤ 900000 := by have := hR.count; omega
  by_cases hz : m = 0
  · subst hz
    have h0 : z.natAbs = 0 := (digs_length_pos two_le_W64 z.natAbs).1 hR.count
    have hzz : ¬ z < 0 := by omega
    rw [decide_eq_false hzz] at hW0 tA ⊢
    have tA0 := tA.c0; have tA1 := tA.c1
    clear hR hl hm h0 hzz
    subst hW0
    go_enter Tryz.func48, Tryz.ntmps48
    go_wp2
    go_ret
    exact ⟨rfl, hW⟩
  · obtain ⟨b, o, rfl, _, hc⟩ := hR.cell (m - 1) (by omega)
    have htop : ¬ nth (digs W64 z.natAbs) (m - 1) = 0 := by
      have h1 : 0 < z.natAbs := Nat.pos_of_ne_zero (fun h => hz (by rw [← hR.count, h, digs_zero]; rfl))
      have h2 := (digs_top two_le_W64 z.natAbs h1).2
      rwa [hR.count] at h2
    obtain ⟨t, ht⟩ : ∃ t, t = nth (digs W64 z.natAbs) (m - 1) := ⟨_, rfl⟩
    rw [← ht] at hc htop
    have htz : ¬ (t : Int) = 0 := by omega
    have hmz : ¬ (m : Int) = 0 := by omega
    obtain ⟨k, hk⟩ : ∃ k, m = k + 1 := ⟨m - 1, by omega⟩
    subst hk
    rw [Nat.add_sub_cancel] at hc
    have hkz : ((k + 1 : Nat) : Int) - 1 = (k : Int) := by omega
    obtain ⟨n, hn⟩ : ∃ n, n = decide (z < 0) := ⟨_, rfl⟩
    rw [← hn] at hW0 tA ⊢
    have tA0 := tA.c0; have tA1 := tA.c1
    clear hR hl ht hn hz
    subst hW0
    go_enter Tryz.func48, Tryz.ntmps48
    go_wp2
    go_ret
    exact ⟨by simp [htop], hW⟩

set_option maxHeartbeats 1000000 in
theorem isOne_any (p : Option Addr) (len cap x : Nat) (w : World) (h : len ≤ cap) (hl : len ≤ 900000) (hr : Rd .u64 W64 w.heap.size w p len (digs W64 x)) (b : Bool) (hb : b = decide (x = 1)) :
    Calls Tryz.prog 49 #[.slice p len cap] w fun e w' => e = .returned (.bool b) ∧ Below w.heap.size w w' := by
  have hal : Below w.heap.size w (w.alloc (.cells #[.int .u64 1] 53)) := (Below.refl _ _).alloc (Nat.le_refl _) _
  have hs := single_rd (W := w) (k := .u64) (β := W64) (T := 53) (x := 1) (z := 1) (by have := two_le_W64; omega) rfl
  have hr1 := hr.next hal
  have hsz : (w.alloc (.cells #[.int .u64 1] 53)).heap.size = w.heap.size + 1 := by simp
  obtain ⟨c, hc⟩ : ∃ c, cmpN x 1 = c := ⟨_, rfl⟩
  have HB : Hid (b = decide (c = 0)) := Lib.hid (by
    rw [hb, decide_eq_decide, ← hc]
    unfold cmpN
    split
    · omega
    · split <;> omega)
  have hcall := natCmp_is p (some ⟨w.heap.size, 0, none⟩) len 1 cap 1 (digs W64 x) [1] (w.alloc (.cells #[.int .u64 1] 53)) h (Nat.le_refl _) (by omega) (by omega) hr1 hs (c := c) (by rw [val_digs two_le_W64, val_single]; exact hc)
  have HC := Lib.hid hcall
  clear hb hc hcall hs hr1 hr hsz
  go_enter Tryz.func49, Tryz.ntmps49
  go_wp2_with fail
  refine (HC.out).mono ?_
  rintro e w1 ⟨rfl, hb⟩
  have hW := below_next hal hb
  clear HC hal hb
  go_wp2
  go_ret
  exact ⟨by rw [HB.out]; first | rfl | simp, hW⟩

/-- The block of a call's own variable of four cells, as it begins. -/
theorem enterF (w : World) (x y z u : Value) (T : TypeId) : ∃ W, W = w.alloc (.cells #[x, y, z, u] T) ∧ Below w.heap.size w W ∧ Four W w.heap.size x y z u T :=
  ⟨_, rfl, (Below.refl _ _).alloc (Nat.le_refl _) _, Four.new _ _ _ _ _ _⟩
set_option maxRecDepth 100000 in
set_option maxHeartbeats 2000000 in
/-- A ratio in least terms, below Den above 0, is right. -/
theorem ratioRight_yes (v : Value) (z d : Int) (w : World) (hv : RatAt w v z d) (hd : 0 < d) (hg : Nat.gcd z.natAbs d.natAbs = 1) (hl : (digs W64 z.natAbs).length ≤ 1024) (hl' : (digs W64 d.natAbs).length ≤ 1024) (hT : TabVar w) :
    Calls Tryz.prog 19 #[v] w fun e w' => e = .returned (.bool true) ∧ Below w.heap.size w w' := by
  obtain ⟨q, m, c, q', m', c', rfl, h1, h2, hR, hR', pA, pB⟩ := hv.parts
  obtain ⟨W0, hW0, hW, tA⟩ := enterF w (.bool (decide (z < 0))) (.slice q m c) (.bool (decide (d < 0))) (.slice q' m' c') 44
  have km := hR.count
  have km' := hR'.count
  have hm : m ≤ 1024 := by omega
  have hm' : m' ≤ 1024 := by omega
  replace hR := hR.next hW
  replace hR' := hR'.next hW
  replace pA := pA.next hW
  replace pB := pB.next hW
  replace hT := hT.below hW
  have HG := Lib.hid hg
  have HL := Lib.hid hl
  have HL' := Lib.hid hl'
  have HS := Lib.hid (show d.sign = 1 from Int.sign_eq_one_of_pos hd)
  obtain ⟨n, hn⟩ : ∃ n, n = decide (z < 0) := ⟨_, rfl⟩
  obtain ⟨n', hn'⟩ : ∃ n', n' = decide (d < 0) := ⟨_, rfl⟩
  rw [← hn] at tA hW0 pA ⊢
  rw [← hn'] at tA hW0 pB ⊢
  have c0 := tA.c0; have c1 := tA.c1; have c2 := tA.c2; have c3 := tA.c3
  clear hg hl hl' hn hn' km km' hd hv
  go_enter Tryz.func19, Tryz.ntmps19
  go_wp2_with fail
  rw [← hW0]
  clear hW0
  refine (ratioPlain_yes _ z W0 pA (by have := HL.out; omega)).mono ?_
  rintro e w1 ⟨rfl, hb⟩
  replace hR := hR.next hb
  replace hR' := hR'.next hb
  replace pB := pB.next hb
  replace hT := hT.below hb
  replace tA := tA.next hb
  replace hW := below_next hW hb
  clear hb pA c0 c1 c2 c3
  have c0 := tA.c0; have c1 := tA.c1; have c2 := tA.c2; have c3 := tA.c3
  go_wp2_with fail
  refine (ratioPlain_yes _ d w1 pB (by have := HL'.out; omega)).mono ?_
  rintro e w2 ⟨rfl, hb⟩
  replace hR := hR.next hb
  replace hR' := hR'.next hb
  replace pB := pB.next hb
  replace hT := hT.below hb
  replace tA := tA.next hb
  replace hW := below_next hW hb
  clear hb c0 c1 c2 c3
  have c0 := tA.c0; have c1 := tA.c1; have c2 := tA.c2; have c3 := tA.c3
  go_wp2_with fail
  refine (wholeSign_is _ d 1 w2 (pB.ints (by have := HL'.out; omega)) HS.out).mono ?_
  rintro e w3 ⟨rfl, hb⟩
  replace hR := hR.next hb
  replace hR' := hR'.next hb
  replace hT := hT.below hb
  replace tA := tA.next hb
  replace hW := below_next hW hb
  clear hb c0 c1 c2 c3 pB
  have c0 := tA.c0; have c1 := tA.c1; have c2 := tA.c2; have c3 := tA.c3
  go_wp2_with fail
  refine (splitGcd_any q q' m m' c c' _ _ w3 h1 h2 (by omega) (by omega) hR hR' (Nat.le_refl _) (Nat.le_refl _) hT).mono ?_
  rw [val_digs two_le_W64, val_digs two_le_W64, HG.out]
  rintro e w4 ⟨qg, mg, cg, rfl, hmg, _, hRg, hb⟩
  have ug : mg ≤ 900000 := by
    have := hRg.short two_le_W64 (m := 1) (by rw [Nat.pow_one]; have := two_le_W64; omega)
    omega
  replace hW := below_next hW hb
  clear hb c0 c1 c2 c3 tA
  go_wp2_with fail
  refine (isOne_any qg mg cg 1 w4 hmg ug hRg true rfl).mono ?_
  rintro e w5 ⟨rfl, hb⟩
  replace hW := below_next hW hb
  clear hb
  go_wp2
  go_ret
  exact ⟨rfl, hW⟩
set_option maxRecDepth 100000 in
set_option maxHeartbeats 2000000 in
/-- Below 0 or 0, a Den makes no ratio right. -/
theorem ratioRight_zero (v : Value) (w : World) (hv : RatAt w v 0 0) :
    Calls Tryz.prog 19 #[v] w fun e w' => e = .returned (.bool false) ∧ Below w.heap.size w w' := by
  obtain ⟨q, m, c, q', m', c', rfl, h1, h2, hR, hR', pA, pB⟩ := hv.parts
  have hl0 : (digs W64 (0 : Int).natAbs).length ≤ 900000 := by rw [show (0 : Int).natAbs = 0 from rfl, digs_zero]; simp
  rw [decide_eq_false (show ¬ (0 : Int) < 0 by omega)] at pA pB ⊢
  obtain ⟨W0, hW0, hW, tA⟩ := enterF w (.bool false) (.slice q m c) (.bool false) (.slice q' m' c') 44
  replace pA := pA.next hW
  replace pB := pB.next hW
  have HL := Lib.hid hl0
  have c0 := tA.c0; have c1 := tA.c1; have c2 := tA.c2; have c3 := tA.c3
  clear hl0 hR hR' hv
  go_enter Tryz.func19, Tryz.ntmps19
  go_wp2_with fail
  rw [← hW0]
  clear hW0
  refine (ratioPlain_yes _ 0 W0 pA HL.out).mono ?_
  rintro e w1 ⟨rfl, hb⟩
  replace pB := pB.next hb
  replace tA := tA.next hb
  replace hW := below_next hW hb
  clear hb pA c0 c1 c2 c3
  have c0 := tA.c0; have c1 := tA.c1; have c2 := tA.c2; have c3 := tA.c3
  go_wp2_with fail
  refine (ratioPlain_yes _ 0 w1 pB HL.out).mono ?_
  rintro e w2 ⟨rfl, hb⟩
  replace pB := pB.next hb
  replace tA := tA.next hb
  replace hW := below_next hW hb
  clear hb c0 c1 c2 c3
  have c0 := tA.c0; have c1 := tA.c1; have c2 := tA.c2; have c3 := tA.c3
  go_wp2_with fail
  refine (wholeSign_is _ 0 0 w2 (pB.ints HL.out) rfl).mono ?_
  rintro e w3 ⟨rfl, hb⟩
  replace hW := below_next hW hb
  clear hb c0 c1 c2 c3 pB
  go_wp2
  go_ret
  exact ⟨rfl, hW⟩
end Go.Proofs.YtndcaajebomkhaaGreatDoor
