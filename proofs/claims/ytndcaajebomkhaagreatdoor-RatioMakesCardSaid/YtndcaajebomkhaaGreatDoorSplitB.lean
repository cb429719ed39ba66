/- Layer 3 (split): takeOut of any numbers. -/
import Derived.Test.YtndcaajebomkhaaGreatDoorSplitR
namespace Go.Proofs.YtndcaajebomkhaaGreatDoor
open Go.RowKit
/-- What takeOut leaves behind. -/
def TookOut (g N : Nat) (f : Nat → Value) (off n P b : Nat) (w : World) (en : Ending) (w' : World) : Prop :=
  ∃ ls f', en = .returned (.int .u64 ((P / b : Nat) : Int)) ∧ ls.length = n + 1 ∧ (∀ i, i < n + 1 → nth ls i < W64) ∧ val W64 ls = P % b ∧ Row w' g 53 N f' ∧ Part .u64 f f' off ls ∧ w.grownBy w' (some g)

theorem took_part {f f1 f2 : Nat → Value} {off n m : Nat} {ds ls : List Nat} (hls : ls = ds ++ List.replicate (n - m) 0) (hd : ds.length = m) (hm : m ≤ n)
    (h2 : f2 = fun j => if off ≤ j ∧ j < off + m then .int .u64 ((nth ds (j - off) : Nat) : Int) else f1 j) (h1 : f1 = fun j => if off ≤ j ∧ j < off + n then .int .u64 0 else f j) : Part .u64 f f2 off ls := by
  subst h1 h2 hls
  have hl : (ds ++ List.replicate (n - m) 0).length = n := by rw [List.length_append, List.length_replicate]; omega
  refine ⟨fun i hi => ?_, fun j hj => ?_⟩
  · rw [hl] at hi
    by_cases h : i < m
    · simp only [if_pos (show off ≤ off + i ∧ off + i < off + m by omega)]
      rw [nth_append_lt _ _ _ (by omega), show off + i - off = i by omega]
    · simp only [if_neg (show ¬ (off ≤ off + i ∧ off + i < off + m) by omega), if_pos (show off ≤ off + i ∧ off + i < off + n by omega)]
      rw [nth_append_ge _ _ _ (by omega), nth_replicate]
      split <;> rfl
  · rw [hl] at hj
    simp only [if_neg (show ¬ (off ≤ j ∧ j < off + m) by omega), if_neg (show ¬ (off ≤ j ∧ j < off + n) by omega)]
theorem val_pad (β : Nat) (ds : List Nat) (n : Nat) : val β (ds ++ List.replicate n 0) = val β ds := by
  rw [val_append]; unfold val; rw [vl_replicate]; simp

set_option maxRecDepth 100000 in
set_option maxHeartbeats 4000000 in
theorem takeOut_any {B : Nat} (g N off n cap c : Nat) (f : Nat → Value) (q : Option Addr) (ps bs : List Nat) (w : World) (hn : 1 ≤ n) (hl : n ≤ 900000) (hN : off + (n + 1) ≤ N) (hcp : n + 1 ≤ cap) (hc : n ≤ c)
    (hrow : Row w g 53 N f) (hps : ps.length = n + 1) (hf : ∀ i, i < n + 1 → f (off + i) = .int .u64 ((nth ps i : Nat) : Int)) (hw : ∀ i, i < n + 1 → nth ps i < W64)
    (r2 : Rd .u64 W64 B w q n bs) (hB : B ≤ g) (hb : 0 < nth bs (n - 1)) (hlt : val W64 ps < val W64 bs * W64) :
    Calls Tryz.prog 86 #[.slice (some ⟨g, off, none⟩) (n + 1 : Nat) cap, .slice q n c] w (TookOut g N f off n (val W64 ps) (val W64 bs) w) := by
  have hgw := hrow.lt
  have r1 : Rd .u64 W64 w.heap.size w (some ⟨g, off, none⟩) (n + 1) ps := hrow.rd off (n + 1) ps hgw hN hps hw hf
  have hb0 : 0 < val W64 bs := by
    obtain ⟨k, rfl⟩ : ∃ k, n = k + 1 := ⟨n - 1, by omega⟩
    rw [← r2.vl, vl_succ]
    have := Nat.mul_pos hb (Nat.pow_pos (n := k) W64_pos)
    simp only [Nat.add_sub_cancel] at this
    omega
  replace r2 := r2.mono (show B ≤ w.heap.size by omega)
  have G := fun w' (h : Below w.heap.size w w') => guess_any (n := n) (c1 := cap) (c2 := c) _ q ps bs w' hn (by omega) ((r1.below h).mono h.size) ((r2.below h).mono h.size) hb hlt
  obtain ⟨x, hx⟩ : ∃ x, x = val W64 ps := ⟨_, rfl⟩
  obtain ⟨y, hy⟩ : ∃ y, y = val W64 bs := ⟨_, rfl⟩
  rw [← hx, ← hy]
  rw [← hy] at hb0
  have HX := Lib.hid hx
  have HY := Lib.hid hy
  have HF := Lib.hid hf
  have HPW := Lib.hid hw
  have HG := Lib.hid G
  have HPL := Lib.hid hps
  clear hx hy hlt hf hw G hb hps
  have hb1 := Below.refl w.heap.size w
  go_enter Tryz.func86, Tryz.ntmps86
  go_wp2
  refine wp_scope_jumps 0 (fun a' w' => ∃ (k : Nat) (u6 u7 u8 u9 u10 u11 u12 u13 u14 u15 u16 u17 u18 u19 u20 u21 u22 u23 u24 u25 u26 u27 u28 : Value), a' = { tmps := #[.slice (some ⟨g, off, none⟩) (n + 1 : Nat) cap, .slice q n c, undef, undef, .int .u64 0, .int .u64 (k : Int), u6, u7, u8, u9, u10, u11, u12, u13, u14, u15, u16, u17, u18, u19, u20, u21, u22, u23, u24, u25, u26, u27, u28], defers := [] } ∧ Hid (x / y ≤ k) ∧ k < W64 ∧ Row w' g 53 N f ∧ Rd .u64 W64 w'.heap.size w' (some ⟨g, off, none⟩) (n + 1) ps ∧ Rd .u64 W64 w'.heap.size w' q n bs ∧ Below w.heap.size w w') (fun a' _ => (intOf (a'.tmps.getD 5 undef)).toNat) rfl ?_ ?_
  · go_wp2_with fail
    refine (HG.out w hb1).mono ?_
    rintro e w0 ⟨k, rfl, hk, hkw, d0, hw0⟩
    rw [← HX.out, ← HY.out] at hk
    have hdr : Below w.heap.size w w0 := by rw [hw0]; exact below_drewN (Below.refl _ _) _
    have hsz0 : w0.heap.size = w.heap.size := by rw [hw0]; rfl
    replace r1 := (r1.below hdr).mono hdr.size
    replace r2 := (r2.below hdr).mono hdr.size
    replace hrow := hrow.below hdr hgw
    replace hb1 := hdr
    have HK := Lib.hid hk
    clear hk hw0 hdr
    go_wp2_with fail
    go_step3
    go_wp2_with fail
    refine (times_any q bs k _ (by omega) r2 (Nat.le_refl _) hkw).mono ?_
    rintro e w1 ⟨q3, m3, c3, zs, rfl, hmc3, rfl, hR3, hv3, hbn⟩
    rw [← HY.out] at hv3
    replace r1 := r1.next hbn
    replace r2 := r2.next hbn
    have hgs : g < w1.heap.size := by have := hbn.size; have := hrow.lt; omega
    replace hrow := hrow.below hbn hrow.lt
    replace hb1 := below_next hb1 hbn
    clear hbn
    by_cases hle : y * k ≤ x
    · go_wp2_with fail
      refine (natSub_fresh _ q3 (n + 1) (n + 1) cap c3 ps zs w1 hcp hmc3 (by omega) (by omega) r1 hR3 (Nat.le_refl _) (by rw [hv3, ← HX.out]; exact hle)).mono ?_
      rintro e w2 ⟨q4, m4, c4, rfl, hmc4, hq4, hR4, hbn, hfresh⟩
      have hkq : Hid (k = x / y) := Lib.hid (by
        have h1 := (Nat.le_div_iff_mul_le hb0).2 (by rw [Nat.mul_comm]; exact hle : k * y ≤ x)
        have := HK.out
        omega)
      have hRv : val W64 ps - val W64 zs = x % y := by
        rw [hv3, ← HX.out, hkq.out]
        have := Nat.div_add_mod x y
        omega
      rw [hRv] at hR4
      have hm4 : m4 ≤ n + 1 := by
        refine hR4.short two_le_W64 ?_
        refine Nat.lt_of_le_of_lt (Nat.mod_le _ _) ?_
        rw [HX.out]; exact r1.val_lt W64_pos (Nat.le_refl _)
      replace hrow := hrow.below hbn hgs
      replace hb1 := below_next hb1 hbn
      obtain ⟨w3, hcl, hrow3, hgr3⟩ := hrow.cleared off (n + 1) cap hN (by omega)
      have hR4' : Rd .u64 W64 w3.heap.size w3 q4 m4 (digs W64 (x % y)) := by
        refine ⟨hR4.count, hR4.word, fun i hi => ?_⟩
        obtain ⟨b, o, h1, h2, h3⟩ := hR4.cell i hi
        have h5 := hfresh _ h1
        simp only at h5
        refine ⟨b, o, h1, Nat.lt_of_lt_of_le h2 hgr3.size, ?_⟩
        have h6 := hgr3.block b h2 (fun h => by simp at h; omega)
        unfold World.cell? at h3 ⊢
        simp only at h3 ⊢
        rw [h6]; exact h3
      obtain ⟨w4, hcp4, hrow4, hgr4⟩ := hrow3.copied off (n + 1) cap hN q4 m4 c4 _ hR4' hq4 hm4
      have hpart : Hid (Part .u64 f _ off (digs W64 (x % y) ++ List.replicate (n + 1 - m4) 0)) := Lib.hid (took_part rfl hR4.count hm4 rfl rfl)
      have hgr : w.grownBy w4 (some g) := by
        have a1 : w.grownBy w2 (some g) := ⟨hb1.os, hb1.tape, hb1.output, hb1.size, fun i hi _ => hb1.block i hi⟩
        exact grown_trans (grown_trans a1 hgr3) hgr4
      have hlen : (digs W64 (x % y) ++ List.replicate (n + 1 - m4) 0).length = n + 1 := by rw [List.length_append, List.length_replicate, hR4.count]; omega
      have HR4 := Lib.hid hrow4
      have HLEN := Lib.hid hlen
      clear hrow3 hrow4 hgr3 hgr4 hfresh hR4 hR4' hrow r1 r2 hR3 hb1 hbn hlen hRv HK
      go_wp2_with (first
        | (go_at_call 110; refine (is_nil _ _).mono ?_; rintro e w' ⟨rfl, rfl⟩)
        | simp only [hcl, hcp4])
      simp only [Exit.jump]
      go_ret
      exact ⟨_, _, by rw [hkq.out]; rfl, HLEN.out, fun i hi => by
          by_cases h : i < m4
          · by_cases h2 : i < (digs W64 (x % y)).length
            · rw [nth_append_lt _ _ _ h2]; exact digs_word two_le_W64 _ _
            · rw [nth_append_ge _ _ _ (by omega), nth_replicate]; have := W64_pos; split <;> omega
          · by_cases h2 : i < (digs W64 (x % y)).length
            · rw [nth_append_lt _ _ _ h2]; exact digs_word two_le_W64 _ _
            · rw [nth_append_ge _ _ _ (by omega), nth_replicate]; have := W64_pos; split <;> omega, by rw [val_pad, val_digs two_le_W64], HR4.out, hpart.out, hgr⟩
    · have hk0 : Hid (x / y ≤ k - 1) := Lib.hid (by
        have h1 : x / y < k := by rw [Nat.div_lt_iff_lt_mul hb0, Nat.mul_comm]; omega
        exact Nat.le_sub_one_of_lt h1)
      have hkp : 0 < k := Nat.pos_of_ne_zero (fun h => by rw [h] at hle; simp at hle)
      obtain ⟨j, hj⟩ : ∃ j, k = j + 1 := ⟨k - 1, by omega⟩
      subst hj
      have ej : IntKind.u64.wrap (j : Int) = (j : Int) := wrap64_nat _ (by have : j + 1 < 18446744073709551616 := hkw; omega)
      go_wp2_with fail
      refine (natSub_below _ q3 (n + 1) (n + 1) cap c3 ps zs w1 hcp hmc3 (by omega) (by omega) r1 hR3 (by rw [hv3, ← HX.out]; omega)).mono ?_
      rintro e w2 ⟨rfl, hbn⟩
      replace r1 := r1.next hbn
      replace r2 := r2.next hbn
      replace hrow := hrow.below hbn hgs
      replace hb1 := below_next hb1 hbn
      clear hR3 hbn
      go_wp2_with (go_at_call 110; refine (is_code _ _).mono ?_; rintro e w' ⟨rfl, rfl⟩)
      go_step3
      exact ⟨rfl, j, _, _, _, _, _, _, _, _, _, _, _, _, _, _, _, _, _, _, _, _, _, _, _, rfl, hk0, by omega, hrow, r1, r2, hb1⟩
  · rintro a' W0 ⟨k, u6, u7, u8, u9, u10, u11, u12, u13, u14, u15, u16, u17, u18, u19, u20, u21, u22, u23, u24, u25, u26, u27, u28, rfl, HK, hkw, hrow', r1', r2', hb1'⟩
    clear r1 r2 hrow hb1
    have hrow := hrow'; have r1 := r1'; have r2 := r2'; have hb1 := hb1'
    clear hrow' r1' r2' hb1'
    go_wp2_with fail
    refine (times_any q bs k _ (by omega) r2 (Nat.le_refl _) hkw).mono ?_
    rintro e w1 ⟨q3, m3, c3, zs, rfl, hmc3, rfl, hR3, hv3, hbn⟩
    rw [← HY.out] at hv3
    replace r1 := r1.next hbn
    replace r2 := r2.next hbn
    have hgs : g < w1.heap.size := by have := hbn.size; have := hrow.lt; omega
    replace hrow := hrow.below hbn hrow.lt
    replace hb1 := below_next hb1 hbn
    clear hbn
    by_cases hle : y * k ≤ x
    · go_wp2_with fail
      refine (natSub_fresh _ q3 (n + 1) (n + 1) cap c3 ps zs w1 hcp hmc3 (by omega) (by omega) r1 hR3 (Nat.le_refl _) (by rw [hv3, ← HX.out]; exact hle)).mono ?_
      rintro e w2 ⟨q4, m4, c4, rfl, hmc4, hq4, hR4, hbn, hfresh⟩
      have hkq : Hid (k = x / y) := Lib.hid (by
        have h1 := (Nat.le_div_iff_mul_le hb0).2 (by rw [Nat.mul_comm]; exact hle : k * y ≤ x)
        have := HK.out
        omega)
      have hRv : val W64 ps - val W64 zs = x % y := by
        rw [hv3, ← HX.out, hkq.out]
        have := Nat.div_add_mod x y
        omega
      rw [hRv] at hR4
      have hm4 : m4 ≤ n + 1 := by
        refine hR4.short two_le_W64 ?_
        refine Nat.lt_of_le_of_lt (Nat.mod_le _ _) ?_
        rw [HX.out]; exact r1.val_lt W64_pos (Nat.le_refl _)
      replace hrow := hrow.below hbn hgs
      replace hb1 := below_next hb1 hbn
      obtain ⟨w3, hcl, hrow3, hgr3⟩ := hrow.cleared off (n + 1) cap hN (by omega)
      have hR4' : Rd .u64 W64 w3.heap.size w3 q4 m4 (digs W64 (x % y)) := by
        refine ⟨hR4.count, hR4.word, fun i hi => ?_⟩
        obtain ⟨b, o, h1, h2, h3⟩ := hR4.cell i hi
        have h5 := hfresh _ h1
        simp only at h5
        refine ⟨b, o, h1, Nat.lt_of_lt_of_le h2 hgr3.size, ?_⟩
        have h6 := hgr3.block b h2 (fun h => by simp at h; omega)
        unfold World.cell? at h3 ⊢
        simp only at h3 ⊢
        rw [h6]; exact h3
      obtain ⟨w4, hcp4, hrow4, hgr4⟩ := hrow3.copied off (n + 1) cap hN q4 m4 c4 _ hR4' hq4 hm4
      have hpart : Hid (Part .u64 f _ off (digs W64 (x % y) ++ List.replicate (n + 1 - m4) 0)) := Lib.hid (took_part rfl hR4.count hm4 rfl rfl)
      have hgr : w.grownBy w4 (some g) := by
        have a1 : w.grownBy w2 (some g) := ⟨hb1.os, hb1.tape, hb1.output, hb1.size, fun i hi _ => hb1.block i hi⟩
        exact grown_trans (grown_trans a1 hgr3) hgr4
      have hlen : (digs W64 (x % y) ++ List.replicate (n + 1 - m4) 0).length = n + 1 := by rw [List.length_append, List.length_replicate, hR4.count]; omega
      have HR4 := Lib.hid hrow4
      have HLEN := Lib.hid hlen
      clear hrow3 hrow4 hgr3 hgr4 hfresh hR4 hR4' hrow r1 r2 hR3 hb1 hbn hlen hRv HK
      go_wp2_with (first
        | (go_at_call 110; refine (is_nil _ _).mono ?_; rintro e w' ⟨rfl, rfl⟩)
        | simp only [hcl, hcp4])
      simp only [Exit.jump]
      go_ret
      exact ⟨_, _, by rw [hkq.out]; rfl, HLEN.out, fun i hi => by
          by_cases h : i < m4
          · by_cases h2 : i < (digs W64 (x % y)).length
            · rw [nth_append_lt _ _ _ h2]; exact digs_word two_le_W64 _ _
            · rw [nth_append_ge _ _ _ (by omega), nth_replicate]; have := W64_pos; split <;> omega
          · by_cases h2 : i < (digs W64 (x % y)).length
            · rw [nth_append_lt _ _ _ h2]; exact digs_word two_le_W64 _ _
            · rw [nth_append_ge _ _ _ (by omega), nth_replicate]; have := W64_pos; split <;> omega, by rw [val_pad, val_digs two_le_W64], HR4.out, hpart.out, hgr⟩
    · have hk0 : Hid (x / y ≤ k - 1) := Lib.hid (by
        have h1 : x / y < k := by rw [Nat.div_lt_iff_lt_mul hb0, Nat.mul_comm]; omega
        exact Nat.le_sub_one_of_lt h1)
      have hkp : 0 < k := Nat.pos_of_ne_zero (fun h => by rw [h] at hle; simp at hle)
      obtain ⟨j, hj⟩ : ∃ j, k = j + 1 := ⟨k - 1, by omega⟩
      subst hj
      have ej : IntKind.u64.wrap (j : Int) = (j : Int) := wrap64_nat _ (by have : j + 1 < 18446744073709551616 := hkw; omega)
      go_wp2_with fail
      refine (natSub_below _ q3 (n + 1) (n + 1) cap c3 ps zs w1 hcp hmc3 (by omega) (by omega) r1 hR3 (by rw [hv3, ← HX.out]; omega)).mono ?_
      rintro e w2 ⟨rfl, hbn⟩
      replace r1 := r1.next hbn
      replace r2 := r2.next hbn
      replace hrow := hrow.below hbn hgs
      replace hb1 := below_next hb1 hbn
      clear hR3 hbn
      go_wp2_with (go_at_call 110; refine (is_code _ _).mono ?_; rintro e w' ⟨rfl, rfl⟩)
      go_step3
      exact ⟨rfl, ⟨j, _, _, _, _, _, _, _, _, _, _, _, _, _, _, _, _, _, _, _, _, _, _, _, rfl, hk0, by omega, hrow, r1, r2, hb1⟩, by simp [intOf] <;> omega⟩
end Go.Proofs.YtndcaajebomkhaaGreatDoor
