/- Layer 3 (split): Text of any whole number. -/
import Derived.Test.YtndcaajebomkhaaGreatDoorTextB
import Derived.Test.YtndcaajebomkhaaGreatDoorDec
import Derived.Test.YtndcaajebomkhaaGreatDoorRep
import Derived.Deep.LoopGhost
namespace Go.Proofs.YtndcaajebomkhaaGreatDoor
open Go.RowKit

theorem digs_nth (x i : Nat) : nth (digs P19 x) i = x / P19 ^ i % P19 := by
  induction i generalizing x with
  | zero =>
    by_cases h : x = 0
    · subst h; rw [digs_zero, nth_nil, Nat.zero_div, Nat.zero_mod]
    · rw [digs_pos two_le_P19 (by omega), nth_cons_zero, Nat.pow_zero, Nat.div_one]
  | succ i ih =>
    by_cases h : x = 0
    · subst h; rw [digs_zero, nth_nil, Nat.zero_div, Nat.zero_mod]
    · rw [digs_pos two_le_P19 (by omega), nth_cons_succ, ih, Nat.div_div_eq_div_mul, Nat.pow_succ, Nat.mul_comm P19]
theorem div_step (x k : Nat) : x / P19 ^ k = x / P19 ^ (k + 1) * P19 + x / P19 ^ k % P19 := by
  rw [Nat.pow_succ, ← Nat.div_div_eq_div_mul, Nat.mul_comm, Nat.div_add_mod]
theorem P19_ten : P19 = 10 ^ 19 := by unfold P19; rfl
theorem dec_step {x k : Nat} (h : 0 < x / P19 ^ (k + 1)) : Lib.decDigits (x / P19 ^ k) = Lib.decDigits (x / P19 ^ (k + 1)) ++ padk 19 (x / P19 ^ k % P19) := by
  obtain ⟨a, ha⟩ : ∃ a, a = x / P19 ^ (k + 1) := ⟨_, rfl⟩
  obtain ⟨r, hr⟩ : ∃ r, r = x / P19 ^ k % P19 := ⟨_, rfl⟩
  have hr2 : r < 10 ^ 19 := by rw [hr, ← P19_ten]; exact Nat.mod_lt _ P19_pos
  have e := div_step x k
  rw [← hr, ← ha] at e
  rw [← hr, e, ← ha, P19_ten]
  exact dec_pad a 19 r (by rw [ha]; exact h) hr2
theorem padk_length (k r : Nat) : (padk k r).length = k := by
  induction k generalizing r with
  | zero => rfl
  | succ k ih => rw [padk, List.length_append, ih]; rfl
theorem dec_len20 {u : Nat} (h : u < 18446744073709551616) : (Lib.decDigits u).length ≤ 20 := by
  by_cases h1 : u < 10
  · rw [dec_small h1]; simp
  · rw [Lib.decDigits_length]
    have := Lib.numDigits_eq u (by omega) h; split at this <;> omega

set_option maxRecDepth 100000 in
set_option maxHeartbeats 4000000 in
/-- Text of any whole number that is not 0, with its sign. -/
theorem text_many (neg : Bool) (p0 : Option Addr) (l0 c0 : Nat) (xs : List Nat) (w : World) (h1 : l0 ≤ c0) (k1 : l0 ≤ 1024) (r1 : Rd .u64 W64 w.heap.size w p0 l0 xs) (hx0 : 0 < val W64 xs) (htab : PowVar w) :
    Calls Tryz.prog 7 #[.agg #[.bool neg, .slice p0 l0 c0]] w fun e w' => e = .returned (.tuple #[.string ⟨((if neg then [45] else []) ++ Lib.decDigits (val W64 xs)).toArray⟩, .nilIface]) ∧ Below w.heap.size w w' := by
  obtain ⟨x, hx⟩ : ∃ x, x = val W64 xs := ⟨_, rfl⟩
  rw [← hx] at hx0 ⊢
  have HX := Lib.hid hx
  have HX0 := Lib.hid hx0
  obtain ⟨hm0, _⟩ := digs_top two_le_P19 x hx0
  have hlow := (digs_lt_length two_le_P19 x ((digs P19 x).length - 1)).1 (by omega)
  have HLOW := Lib.hid hlow
  have HNTH := Lib.hid (digs_nth x)
  have HTOP : Hid (x / P19 ^ (digs P19 x).length = 0) := Lib.hid (Nat.div_eq_of_lt ((digs_length_le two_le_P19 x _).1 (Nat.le_refl _)))
  clear hx hlow hx0
  obtain ⟨ds, hds⟩ : ∃ ds, ds = digs P19 x := ⟨_, rfl⟩
  have HDS := Lib.hid hds
  rw [← hds] at hm0 HLOW HTOP
  clear hds
  cases neg with
  | true =>
    go_enter Tryz.func7, Tryz.ntmps7
    go_wp2_with fail
    have hc0 := cell_new2 w (.bool true) (.slice p0 l0 c0) 24
    have hal : Below w.heap.size w (w.alloc (.cells #[.bool true, .slice p0 l0 c0] 24)) := (Below.refl _ _).alloc (Nat.le_refl _) _
    obtain ⟨A, hA⟩ : ∃ A, A = w.heap.size := ⟨_, rfl⟩
    obtain ⟨W0, hW0⟩ : ∃ W0, W0 = w.alloc (.cells #[.bool true, .slice p0 l0 c0] 24) := ⟨_, rfl⟩
    have hA0 : A < W0.heap.size := by rw [hA, hW0]; simp
    rw [← hW0, ← hA] at hc0 ⊢
    rw [← hW0] at hal
    clear hA hW0
    refine (cutUp_any p0 l0 c0 xs W0 h1 k1 (r1.next hal) (Nat.le_refl _)).mono ?_
    rw [← HX.out, ← HDS.out]
    rintro e W1 ⟨q, m, c, rfl, hmc, hq, hR, hm11, hb⟩
    have hcm := hR.count
    rw [hcm] at hm0 HLOW HTOP
    obtain ⟨t, rfl⟩ : ∃ t, m = t + 1 := ⟨m - 1, by omega⟩
    have hW := below_next hal hb
    replace hc0 := (hb.cell (p := ⟨A, 0, none⟩) hA0).trans hc0
    replace hA0 := Nat.lt_of_lt_of_le hA0 hb.size
    clear hal hb r1
    have hB0 := bld_new W1
    have hb2 : Below W1.heap.size W1 (W1.alloc (.cells #[.pointer none, .slice none 0 0] 62)) := (Below.refl _ _).alloc (Nat.le_refl _) _
    obtain ⟨b, hbb⟩ : ∃ b, b = W1.heap.size := ⟨_, rfl⟩
    obtain ⟨W2, hW2⟩ : ∃ W2, W2 = W1.alloc (.cells #[.pointer none, .slice none 0 0] 62) := ⟨_, rfl⟩
    rw [← hW2] at hB0 hb2
    rw [← hbb] at hB0 hb2 hA0 hR
    have HW2 := Lib.hid hW2
    have HBB := Lib.hid hbb
    have hs2 : b ≤ W2.heap.size := by rw [hbb]; exact hbb ▸ hb2.size
    replace hc0 := (hb2.cell (p := ⟨A, 0, none⟩) hA0).trans hc0
    replace hR := hR.below hb2
    have hWb : w.heap.size ≤ b := by rw [hbb]; exact hW.size
    replace hW := hW.trans (hb2.mono hWb)
    clear hW2 hbb hb2
    obtain ⟨bq, oq, rfl, _, _⟩ := hR.cell 0 (by omega)
    obtain ⟨u, hu⟩ : ∃ u, u = nth ds t := ⟨_, rfl⟩
    have huP : u < P19 := by rw [hu]; exact hR.word t (by omega)
    have hux : u = x / P19 ^ t := by
      have e1 := HNTH.out t
      rw [← HDS.out, ← hu] at e1
      rw [e1]
      refine Nat.mod_eq_of_lt ?_
      rw [Nat.div_lt_iff_lt_mul (Nat.pow_pos P19_pos)]
      have e2 := (digs_length_le two_le_P19 x (t + 1)).1 (by rw [← HDS.out, hcm]; omega)
      rwa [Nat.pow_succ, Nat.mul_comm] at e2
    have hpt := (hR.at t (by omega)).2
    rw [← hu] at hpt
    have hxw : u < 18446744073709551616 := Nat.lt_trans huP P19_lt
    have HUX := Lib.hid hux
    clear hux hu hcm HTOP
    go_upto_region 7 with fail
    rw [← HBB.out, ← HW2.out]
    go_wp2_with fail
    refine (writeByte_any b b [] 45 W2 hB0 (by simp) hs2).mono ?_
    rintro e W3 ⟨rfl, hB1, hb⟩
    rw [List.nil_append] at hB1
    have hs3 := Nat.le_trans hs2 hb.size
    replace hR := hR.below hb
    replace hpt := (hb.cell (p := ⟨bq, oq + t, none⟩) (hR.at t (by omega)).1).trans hpt
    replace hW := hW.trans (hb.mono hWb)
    clear hb hB0
    have htab3 := htab.below hW
    clear hc0
    have HF := Lib.hid (formatUint_any u hxw W3 htab3)
    clear htab3
    have Htm : Hid (t + 1 ≤ 1100) := Lib.hid hm11
    go_wp2_with fail
    refine (HF.out).mono ?_
    rintro e W4 ⟨rfl, hb⟩
    replace hB1 := bld_next hB1 hb
    have hs4 := Nat.le_trans hs3 hb.size
    replace hR := hR.below (hb.mono hs3)
    replace hW := below_next hW hb
    have hlen := dec_len20 hxw
    have HLEN := Lib.hid hlen
    clear hb HF hpt
    go_wp2_with fail
    refine (writeString_any b b _ (Lib.decDigits u) W4 hB1 (by simp) (by omega) hs4).mono ?_
    rintro e W5 ⟨rfl, hB2, hb⟩
    have hs5 := Nat.le_trans hs4 hb.size
    replace hR := hR.below hb
    replace hW := hW.trans (hb.mono hWb)
    clear hb hB1 hlen
    go_wp2_with fail
    go_loopg [8] t (fun gh s8 wr => ∃ (l : List UInt8) (z : Int), s8 = .int .i64 z ∧ z + 1 = gh ∧ gh ≤ t ∧ Bld wr b b l ∧ Hid (l = ([45] : List UInt8) ++ Lib.decDigits (x / P19 ^ gh)) ∧ Hid (l.length + 19 * gh ≤ 21000) ∧ Rd .u64 P19 b wr (some ⟨bq, oq, none⟩) (t + 1) ds ∧ b ≤ wr.heap.size ∧ Below w.heap.size w wr)
    case atStart => exact ⟨_, _, rfl, by omega, Nat.le_refl _, hB2, Lib.hid (by rw [← HUX.out]), Lib.hid (by have := HLEN.out; simp; omega), hR, hs5, hW⟩
    case round =>
      clear hB2 hs5 hW hR HUX HLEN huP hxw
      obtain ⟨l, z, rfl, hz, hgt, hB, hl, hll, hR, hs, hW⟩ := hrel
      cases gk with
      | zero =>
        obtain rfl : z = -1 := by omega
        go_wp2_with fail
        refine (builderString_any b b _ _ hB hs).mono ?_
        rintro e W6 ⟨rfl, hb⟩
        replace hW := hW.trans (hb.mono hWb)
        go_wp2
        go_ret2
        refine ⟨?_, hW⟩
        rw [hl.out, Nat.pow_zero, Nat.div_one]
        first | rfl | simp
      | succ g =>
        obtain rfl : z = (g : Int) := by omega
        obtain ⟨v, hv⟩ : ∃ v, v = nth ds g := ⟨_, rfl⟩
        have hvP : v < P19 := by rw [hv]; exact hR.word g (by omega)
        have hpv := (hR.at g (by omega)).2
        rw [← hv] at hpv
        have hvw : v < 18446744073709551616 := Nat.lt_trans hvP P19_lt
        have hvx : v = x / P19 ^ g % P19 := by rw [hv, HDS.out]; exact HNTH.out g
        have HVX := Lib.hid hvx
        have HF := Lib.hid (formatUint_any v hvw wr (htab.below hW))
        obtain ⟨hpad, hd19⟩ := padk_dec 19 v (by omega) (by rw [← P19_ten]; exact hvP)
        obtain ⟨dl, hdl⟩ : ∃ dl, dl = Lib.decDigits v := ⟨_, rfl⟩
        rw [← hdl] at hpad hd19 HF
        have HPAD := Lib.hid hpad
        obtain ⟨cc, hcc⟩ : ∃ cc, cc = 19 - dl.length := ⟨_, rfl⟩
        have hsub : (19 : Int) - (dl.length : Int) = (cc : Int) := by omega
        rw [← hcc] at HPAD
        have hc19 : cc ≤ 19 := by omega
        clear hvx hv hpad hdl hcc hvP
        go_wp2_with fail
        refine (HF.out).mono ?_
        rintro e W4 ⟨rfl, hb⟩
        replace hB := bld_next hB hb
        replace hR := hR.below (hb.mono hs)
        replace hs := Nat.le_trans hs hb.size
        replace hW := below_next hW hb
        clear hb HF hpv
        go_wp2_with fail
        refine (repeat_noughts cc (by omega) W4).mono ?_
        rintro e W5 ⟨rfl, hb⟩
        replace hB := bld_next hB hb
        replace hR := hR.below (hb.mono hs)
        replace hs := Nat.le_trans hs hb.size
        replace hW := below_next hW hb
        clear hb
        have hl2 : l.length ≤ 21000 := by have := hll.out; omega
        go_wp2_with fail
        refine (writeString_any b b l (List.replicate cc (48 : UInt8)) W5 hB (by omega) (by simp; omega) hs).mono ?_
        rintro e W6 ⟨rfl, hB6, hb⟩
        replace hR := hR.below hb
        replace hs := Nat.le_trans hs hb.size
        replace hW := hW.trans (hb.mono hWb)
        clear hb hB
        go_wp2_with fail
        refine (writeString_any b b _ dl W6 hB6 (by simp; omega) (by omega) hs).mono ?_
        rintro e W7 ⟨rfl, hB7, hb⟩
        replace hR := hR.below hb
        replace hs := Nat.le_trans hs hb.size
        replace hW := hW.trans (hb.mono hWb)
        clear hb hB6
        have hpos : 0 < x / P19 ^ (g + 1) := by
          have e1 : P19 ^ (g + 1) ≤ P19 ^ (t + 1 - 1) := Nat.pow_le_pow_right P19_pos (by omega)
          exact Nat.div_pos (Nat.le_trans e1 HLOW.out) (Nat.pow_pos P19_pos)
        have hnew : Hid (l ++ List.replicate cc 48 ++ dl = ([45] : List UInt8) ++ Lib.decDigits (x / P19 ^ g)) := Lib.hid (by
          rw [List.append_assoc, ← HPAD.out, hl.out, HVX.out, dec_step hpos, List.append_assoc])
        have hnl : Hid ((l ++ List.replicate cc 48 ++ dl).length + 19 * g ≤ 21000) := Lib.hid (by have := hll.out; simp; omega)
        go_wp2
        go_roundg g
        case measure => omega
        case rel => exact ⟨_, (g : Int) - 1, rfl, by omega, by omega, hB7, hnew, hnl, hR, hs, hW⟩
  | false =>
    go_enter Tryz.func7, Tryz.ntmps7
    go_wp2_with fail
    have hc0 := cell_new2 w (.bool false) (.slice p0 l0 c0) 24
    have hal : Below w.heap.size w (w.alloc (.cells #[.bool false, .slice p0 l0 c0] 24)) := (Below.refl _ _).alloc (Nat.le_refl _) _
    obtain ⟨A, hA⟩ : ∃ A, A = w.heap.size := ⟨_, rfl⟩
    obtain ⟨W0, hW0⟩ : ∃ W0, W0 = w.alloc (.cells #[.bool false, .slice p0 l0 c0] 24) := ⟨_, rfl⟩
    have hA0 : A < W0.heap.size := by rw [hA, hW0]; simp
    rw [← hW0, ← hA] at hc0 ⊢
    rw [← hW0] at hal
    clear hA hW0
    refine (cutUp_any p0 l0 c0 xs W0 h1 k1 (r1.next hal) (Nat.le_refl _)).mono ?_
    rw [← HX.out, ← HDS.out]
    rintro e W1 ⟨q, m, c, rfl, hmc, hq, hR, hm11, hb⟩
    have hcm := hR.count
    rw [hcm] at hm0 HLOW HTOP
    obtain ⟨t, rfl⟩ : ∃ t, m = t + 1 := ⟨m - 1, by omega⟩
    have hW := below_next hal hb
    replace hc0 := (hb.cell (p := ⟨A, 0, none⟩) hA0).trans hc0
    replace hA0 := Nat.lt_of_lt_of_le hA0 hb.size
    clear hal hb r1
    have hB0 := bld_new W1
    have hb2 : Below W1.heap.size W1 (W1.alloc (.cells #[.pointer none, .slice none 0 0] 62)) := (Below.refl _ _).alloc (Nat.le_refl _) _
    obtain ⟨b, hbb⟩ : ∃ b, b = W1.heap.size := ⟨_, rfl⟩
    obtain ⟨W2, hW2⟩ : ∃ W2, W2 = W1.alloc (.cells #[.pointer none, .slice none 0 0] 62) := ⟨_, rfl⟩
    rw [← hW2] at hB0 hb2
    rw [← hbb] at hB0 hb2 hA0 hR
    have HW2 := Lib.hid hW2
    have HBB := Lib.hid hbb
    have hs2 : b ≤ W2.heap.size := by rw [hbb]; exact hbb ▸ hb2.size
    replace hc0 := (hb2.cell (p := ⟨A, 0, none⟩) hA0).trans hc0
    replace hR := hR.below hb2
    have hWb : w.heap.size ≤ b := by rw [hbb]; exact hW.size
    replace hW := hW.trans (hb2.mono hWb)
    clear hW2 hbb hb2
    obtain ⟨bq, oq, rfl, _, _⟩ := hR.cell 0 (by omega)
    obtain ⟨u, hu⟩ : ∃ u, u = nth ds t := ⟨_, rfl⟩
    have huP : u < P19 := by rw [hu]; exact hR.word t (by omega)
    have hux : u = x / P19 ^ t := by
      have e1 := HNTH.out t
      rw [← HDS.out, ← hu] at e1
      rw [e1]
      refine Nat.mod_eq_of_lt ?_
      rw [Nat.div_lt_iff_lt_mul (Nat.pow_pos P19_pos)]
      have e2 := (digs_length_le two_le_P19 x (t + 1)).1 (by rw [← HDS.out, hcm]; omega)
      rwa [Nat.pow_succ, Nat.mul_comm] at e2
    have hpt := (hR.at t (by omega)).2
    rw [← hu] at hpt
    have hxw : u < 18446744073709551616 := Nat.lt_trans huP P19_lt
    have HUX := Lib.hid hux
    clear hux hu hcm HTOP
    go_upto_region 7 with fail
    rw [← HBB.out, ← HW2.out]
    have hB1 := hB0
    have hs3 := hs2
    have htab3 := htab.below hW
    have HF := Lib.hid (formatUint_any u hxw W2 htab3)
    clear htab3
    have Htm : Hid (t + 1 ≤ 1100) := Lib.hid hm11
    go_wp2_with fail
    refine (HF.out).mono ?_
    rintro e W4 ⟨rfl, hb⟩
    replace hB1 := bld_next hB1 hb
    have hs4 := Nat.le_trans hs3 hb.size
    replace hR := hR.below (hb.mono hs3)
    replace hW := below_next hW hb
    have hlen := dec_len20 hxw
    have HLEN := Lib.hid hlen
    clear hb HF hpt
    go_wp2_with fail
    refine (writeString_any b b _ (Lib.decDigits u) W4 hB1 (by simp) (by omega) hs4).mono ?_
    rintro e W5 ⟨rfl, hB2, hb⟩
    have hs5 := Nat.le_trans hs4 hb.size
    replace hR := hR.below hb
    replace hW := hW.trans (hb.mono hWb)
    clear hb hB1 hlen
    go_wp2_with fail
    go_loopg [8] t (fun gh s8 wr => ∃ (l : List UInt8) (z : Int), s8 = .int .i64 z ∧ z + 1 = gh ∧ gh ≤ t ∧ Bld wr b b l ∧ Hid (l = ([] : List UInt8) ++ Lib.decDigits (x / P19 ^ gh)) ∧ Hid (l.length + 19 * gh ≤ 21000) ∧ Rd .u64 P19 b wr (some ⟨bq, oq, none⟩) (t + 1) ds ∧ b ≤ wr.heap.size ∧ Below w.heap.size w wr)
    case atStart => exact ⟨_, _, rfl, by omega, Nat.le_refl _, hB2, Lib.hid (by rw [← HUX.out]), Lib.hid (by have := HLEN.out; simp; omega), hR, hs5, hW⟩
    case round =>
      clear hB2 hs5 hW hR HUX HLEN huP hxw
      obtain ⟨l, z, rfl, hz, hgt, hB, hl, hll, hR, hs, hW⟩ := hrel
      cases gk with
      | zero =>
        obtain rfl : z = -1 := by omega
        go_wp2_with fail
        refine (builderString_any b b _ _ hB hs).mono ?_
        rintro e W6 ⟨rfl, hb⟩
        replace hW := hW.trans (hb.mono hWb)
        go_wp2
        go_ret2
        refine ⟨?_, hW⟩
        rw [hl.out, Nat.pow_zero, Nat.div_one]
        first | rfl | simp
      | succ g =>
        obtain rfl : z = (g : Int) := by omega
        obtain ⟨v, hv⟩ : ∃ v, v = nth ds g := ⟨_, rfl⟩
        have hvP : v < P19 := by rw [hv]; exact hR.word g (by omega)
        have hpv := (hR.at g (by omega)).2
        rw [← hv] at hpv
        have hvw : v < 18446744073709551616 := Nat.lt_trans hvP P19_lt
        have hvx : v = x / P19 ^ g % P19 := by rw [hv, HDS.out]; exact HNTH.out g
        have HVX := Lib.hid hvx
        have HF := Lib.hid (formatUint_any v hvw wr (htab.below hW))
        obtain ⟨hpad, hd19⟩ := padk_dec 19 v (by omega) (by rw [← P19_ten]; exact hvP)
        obtain ⟨dl, hdl⟩ : ∃ dl, dl = Lib.decDigits v := ⟨_, rfl⟩
        rw [← hdl] at hpad hd19 HF
        have HPAD := Lib.hid hpad
        obtain ⟨cc, hcc⟩ : ∃ cc, cc = 19 - dl.length := ⟨_, rfl⟩
        have hsub : (19 : Int) - (dl.length : Int) = (cc : Int) := by omega
        rw [← hcc] at HPAD
        have hc19 : cc ≤ 19 := by omega
        clear hvx hv hpad hdl hcc hvP
        go_wp2_with fail
        refine (HF.out).mono ?_
        rintro e W4 ⟨rfl, hb⟩
        replace hB := bld_next hB hb
        replace hR := hR.below (hb.mono hs)
        replace hs := Nat.le_trans hs hb.size
        replace hW := below_next hW hb
        clear hb HF hpv
        go_wp2_with fail
        refine (repeat_noughts cc (by omega) W4).mono ?_
        rintro e W5 ⟨rfl, hb⟩
        replace hB := bld_next hB hb
        replace hR := hR.below (hb.mono hs)
        replace hs := Nat.le_trans hs hb.size
        replace hW := below_next hW hb
        clear hb
        have hl2 : l.length ≤ 21000 := by have := hll.out; omega
        go_wp2_with fail
        refine (writeString_any b b l (List.replicate cc (48 : UInt8)) W5 hB (by omega) (by simp; omega) hs).mono ?_
        rintro e W6 ⟨rfl, hB6, hb⟩
        replace hR := hR.below hb
        replace hs := Nat.le_trans hs hb.size
        replace hW := hW.trans (hb.mono hWb)
        clear hb hB
        go_wp2_with fail
        refine (writeString_any b b _ dl W6 hB6 (by simp; omega) (by omega) hs).mono ?_
        rintro e W7 ⟨rfl, hB7, hb⟩
        replace hR := hR.below hb
        replace hs := Nat.le_trans hs hb.size
        replace hW := hW.trans (hb.mono hWb)
        clear hb hB6
        have hpos : 0 < x / P19 ^ (g + 1) := by
          have e1 : P19 ^ (g + 1) ≤ P19 ^ (t + 1 - 1) := Nat.pow_le_pow_right P19_pos (by omega)
          exact Nat.div_pos (Nat.le_trans e1 HLOW.out) (Nat.pow_pos P19_pos)
        have hnew : Hid (l ++ List.replicate cc 48 ++ dl = ([] : List UInt8) ++ Lib.decDigits (x / P19 ^ g)) := Lib.hid (by
          rw [List.append_assoc, ← HPAD.out, hl.out, HVX.out, dec_step hpos, List.append_assoc])
        have hnl : Hid ((l ++ List.replicate cc 48 ++ dl).length + 19 * g ≤ 21000) := Lib.hid (by have := hll.out; simp; omega)
        go_wp2
        go_roundg g
        case measure => omega
        case rel => exact ⟨_, (g : Int) - 1, rfl, by omega, by omega, hB7, hnew, hnl, hR, hs, hW⟩
end Go.Proofs.YtndcaajebomkhaaGreatDoor
